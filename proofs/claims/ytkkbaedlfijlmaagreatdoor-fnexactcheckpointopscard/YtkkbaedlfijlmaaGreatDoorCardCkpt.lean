/- The card of the law on CheckpointOps. -/
import Derived.Test.YtkkbaedlfijlmaaGreatDoorLawCkpt
import Derived.Test.YtkkbaedlfijlmaaGreatDoorTie
import Derived.Test.YtkkbaedlfijlmaaGreatDoorCards
import Derived.SevenTiedAt
namespace Go.Proofs.YtkkbaedlfijlmaaGreatDoor
open Go

theorem fnExactCheckpointOps_holds : Rows.FnExactCheckpointOpsCardSaid :=
  Claim7.holds_tied_plain_at .later [] [.handle, .data] true (true, "a0b4b01dffd1a6bc13cca59f3f2d5958754f226a3ae25a31f2ab54794d711730") true
    fnExactCheckpointOps_row (fun _ h => by cases h) (by kernel_rfl) (fun _ h => by cases h) fnExactCheckpointOps_row_tie rfl ⟨rfl, rfl⟩ (by kernel_rfl) rfl
    (fun f fn hf hfn => by
      obtain rfl : f = 3 := Option.some.inj ((show Tryz.prog.funcNamed "loop.example/s01525/laws.FnExactCheckpointOps" = some 3 by kernel_rfl).symm.trans hf) |>.symm
      obtain rfl : fn = Tryz.f3 := (Option.some.inj (Tryz.func3.symm.trans hfn)).symm
      exact ⟨by kernel_rfl, fun j t ht => by
        rw [Tryz.params3] at ht
        have h3 : t = 23 ∨ t = 24 := by
          rcases j with _ | _ | j
          · exact Or.inl (by simpa using ht.symm)
          · exact Or.inr (by simpa using ht.symm)
          · simp at ht
        rcases h3 with h3 | h3
        · subst h3
          exact (show Tryz.prog.wantsStandIn 23 = false by kernel_rfl)
        · subst h3
          exact (show Tryz.prog.wantsStandIn 24 = false by kernel_rfl)⟩)
    (by kernel_rfl)
#print axioms fnExactCheckpointOps_holds
end Go.Proofs.YtkkbaedlfijlmaaGreatDoor
