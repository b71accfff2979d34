/- The card of the law on TxnBlocks. -/
import Derived.Test.YthngniodfbljeaaGreatDoorLawTxnBlocks
import Derived.Test.YthngniodfbljeaaGreatDoorTie
import Derived.Test.YthngniodfbljeaaGreatDoorCards
import Derived.SevenTiedAt
namespace Go.Proofs.YthngniodfbljeaaGreatDoor
open Go

theorem fnExactTxnBlocks_holds : Rows.FnExactTxnBlocksCardSaid :=
  Claim7.holds_tied_plain_at .later [] [.data] true (true, "0eb918358a59d7c2254d26144557e310c04d177b66835268011df8343a6d6f57") false
    fnExactTxnBlocks_row (fun _ h => by cases h) (by kernel_rfl) (fun _ h => by cases h) fnExactTxnBlocks_row_tie rfl ⟨rfl, rfl⟩ (by kernel_rfl) rfl
    (fun f fn hf hfn => by
      obtain rfl : f = 3 := Option.some.inj ((show Tryz.prog.funcNamed "loop.example/s01525/laws.FnExactTxnBlocks" = some 3 by kernel_rfl).symm.trans hf) |>.symm
      obtain rfl : fn = Tryz.f3 := (Option.some.inj (Tryz.func3.symm.trans hfn)).symm
      exact ⟨by kernel_rfl, fun j t ht => by
        rw [Tryz.params3] at ht
        have h3 : t = 25 := by
          rcases j with _ | j
          · simpa using ht.symm
          · simp at ht
        subst h3
        exact (show Tryz.prog.wantsStandIn 25 = false by kernel_rfl)⟩)
    (by kernel_rfl)
#print axioms fnExactTxnBlocks_holds
end Go.Proofs.YthngniodfbljeaaGreatDoor
