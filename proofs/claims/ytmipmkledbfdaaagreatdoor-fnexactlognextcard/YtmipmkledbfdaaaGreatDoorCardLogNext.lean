/- The card of the law on LogNext. -/
import Derived.Test.YtmipmkledbfdaaaGreatDoorLawLogNext
import Derived.Test.YtmipmkledbfdaaaGreatDoorTie
import Derived.Test.YtmipmkledbfdaaaGreatDoorCards
import Derived.SevenTiedAt
namespace Go.Proofs.YtmipmkledbfdaaaGreatDoor
open Go

theorem fnExactLogNext_holds : Rows.FnExactLogNextCardSaid :=
  Claim7.holds_tied_plain_at .later [] [.data] true (true, "18c9174817a5a709e94f235977170bd707dd5e5daca615996533f438739bd88a") false
    fnExactLogNext_row (fun _ h => by cases h) (by kernel_rfl) (fun _ h => by cases h) fnExactLogNext_row_tie rfl ⟨rfl, rfl⟩ (by kernel_rfl) rfl
    (fun f fn hf hfn => by
      obtain rfl : f = 3 := Option.some.inj ((show Tryz.prog.funcNamed "loop.example/s01525/laws.FnExactLogNext" = some 3 by kernel_rfl).symm.trans hf) |>.symm
      obtain rfl : fn = Tryz.f3 := (Option.some.inj (Tryz.func3.symm.trans hfn)).symm
      exact ⟨by kernel_rfl, fun j t ht => by
        rw [Tryz.params3] at ht
        have h3 : t = 23 ∨ t = 27 := by
          rcases j with _ | _ | j
          · exact Or.inl (by simpa using ht.symm)
          · exact Or.inr (by simpa using ht.symm)
          · simp at ht
        rcases h3 with rfl | rfl
        · exact (show Tryz.prog.wantsStandIn 23 = false by kernel_rfl)
        · exact (show Tryz.prog.wantsStandIn 27 = false by kernel_rfl)⟩)
    (by kernel_rfl)
#print axioms fnExactLogNext_holds
end Go.Proofs.YtmipmkledbfdaaaGreatDoor
