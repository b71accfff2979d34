/- The card of the law on TailOps. -/
import Derived.Test.YtkegadjdlkfabaaGreatDoorLawTailOps
import Derived.Test.YtkegadjdlkfabaaGreatDoorTie
import Derived.Test.YtkegadjdlkfabaaGreatDoorCards
import Derived.SevenTiedAt
namespace Go.Proofs.YtkegadjdlkfabaaGreatDoor
open Go

theorem fnExactTailOps_holds : Rows.FnExactTailOpsCardSaid :=
  Claim7.holds_tied_plain_at .later [] [.handle, .data] true (true, "c0e891f8aa223c9e4c6f3e573c8cb72fd5709bcaec0e123a8f566e74675bf699") true
    fnExactTailOps_row (fun _ h => by cases h) (by kernel_rfl) (fun _ h => by cases h) fnExactTailOps_row_tie rfl ⟨rfl, rfl⟩ (by kernel_rfl) rfl
    (fun f fn hf hfn => by
      obtain rfl : f = 3 := Option.some.inj ((show Tryz.prog.funcNamed "loop.example/s01525/laws.FnExactTailOps" = some 3 by kernel_rfl).symm.trans hf) |>.symm
      obtain rfl : fn = Tryz.f3 := (Option.some.inj (Tryz.func3.symm.trans hfn)).symm
      exact ⟨by kernel_rfl, fun j t ht => by
        rw [Tryz.params3] at ht
        have h3 : t = 23 := by
          rcases j with _ | j
          · simpa using ht.symm
          · simp at ht
        subst h3
        exact (show Tryz.prog.wantsStandIn 23 = false by kernel_rfl)⟩)
    (by kernel_rfl)
#print axioms fnExactTailOps_holds
end Go.Proofs.YtkegadjdlkfabaaGreatDoor
