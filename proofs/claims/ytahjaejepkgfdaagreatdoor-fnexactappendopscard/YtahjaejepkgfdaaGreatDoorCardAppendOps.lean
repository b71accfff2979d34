/- The card of the law on AppendOps. -/
import Derived.Test.YtahjaejepkgfdaaGreatDoorLawAppendOps
import Derived.Test.YtahjaejepkgfdaaGreatDoorTie
import Derived.Test.YtahjaejepkgfdaaGreatDoorCards
import Derived.SevenTiedAt
namespace Go.Proofs.YtahjaejepkgfdaaGreatDoor
open Go

theorem fnExactAppendOps_holds : Rows.FnExactAppendOpsCardSaid :=
  Claim7.holds_tied_plain_at .later [] [.handle, .data] true (true, "6c8c411af52b5649aac6c39b35357338bb1c49f521507fc53e81a30f9e39f477") true
    fnExactAppendOps_row (fun _ h => by cases h) (by kernel_rfl) (fun _ h => by cases h) fnExactAppendOps_row_tie rfl ⟨rfl, rfl⟩ (by kernel_rfl) rfl
    (fun f fn hf hfn => by
      obtain rfl : f = 3 := Option.some.inj ((show Tryz.prog.funcNamed "loop.example/s01525/laws.FnExactAppendOps" = some 3 by kernel_rfl).symm.trans hf) |>.symm
      obtain rfl : fn = Tryz.f3 := (Option.some.inj (Tryz.func3.symm.trans hfn)).symm
      exact ⟨by kernel_rfl, fun j t ht => by
        rw [Tryz.params3] at ht
        have h3 : t = 23 ∨ t = 27 := by
          rcases j with _ | _ | j
          · exact Or.inl (by simpa using ht.symm)
          · exact Or.inr (by simpa using ht.symm)
          · simp at ht
        rcases h3 with h3 | h3
        · subst h3
          exact (show Tryz.prog.wantsStandIn 23 = false by kernel_rfl)
        · subst h3
          exact (show Tryz.prog.wantsStandIn 27 = false by kernel_rfl)⟩)
    (by kernel_rfl)
#print axioms fnExactAppendOps_holds
end Go.Proofs.YtahjaejepkgfdaaGreatDoor
