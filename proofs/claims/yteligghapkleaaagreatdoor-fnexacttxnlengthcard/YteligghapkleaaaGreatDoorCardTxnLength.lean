/- The card of the law on TxnLength. -/
import Derived.Test.YteligghapkleaaaGreatDoorLawTxnLength
import Derived.Test.YteligghapkleaaaGreatDoorTie
import Derived.Test.YteligghapkleaaaGreatDoorCards
import Derived.SevenTiedAt
namespace Go.Proofs.YteligghapkleaaaGreatDoor
open Go

theorem fnExactTxnLength_holds : Rows.FnExactTxnLengthCardSaid :=
  Claim7.holds_tied_plain_at .later [] [.data] true (true, "8f856b57c3ea710e848ff9d874a723a32571cf2d18f0c2388db2be20107a9dc1") false
    fnExactTxnLength_row (fun _ h => by cases h) (by kernel_rfl) (fun _ h => by cases h) fnExactTxnLength_row_tie rfl ⟨rfl, rfl⟩ (by kernel_rfl) rfl
    (fun f fn hf hfn => by
      obtain rfl : f = 3 := Option.some.inj ((show Tryz.prog.funcNamed "loop.example/s01525/laws.FnExactTxnLength" = some 3 by kernel_rfl).symm.trans hf) |>.symm
      obtain rfl : fn = Tryz.f3 := (Option.some.inj (Tryz.func3.symm.trans hfn)).symm
      exact ⟨by kernel_rfl, fun j t ht => by
        rw [Tryz.params3] at ht
        have h3 : t = 25 := by
          rcases j with _ | j
          · simpa using ht.symm
          · simp at ht
        subst h3
        exact (show Tryz.prog.wantsStandIn 25 = false by kernel_rfl)⟩)
    (by kernel_rfl)
#print axioms fnExactTxnLength_holds
end Go.Proofs.YteligghapkleaaaGreatDoor
