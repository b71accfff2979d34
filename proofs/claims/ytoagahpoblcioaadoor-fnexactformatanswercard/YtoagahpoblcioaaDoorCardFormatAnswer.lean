/- The card of the law on FormatAnswer. -/
import Derived.Test.YtoagahpoblcioaaDoorLawFormat2
import Derived.Test.YtoagahpoblcioaaDoorTie
import Derived.Test.YtoagahpoblcioaaDoorCards
import Derived.SevenTiedAt
namespace Go.Proofs.YtoagahpoblcioaaDoor
open Go

theorem fnExactFormatAnswer_holds : Rows.FnExactFormatAnswerCardSaid :=
  Claim7.holds_tied_plain_at .later [] [.data, .data, .data] true (true, "1dd7c9c46af9efc49bd9f726e8901ecbdaf81be4dc81a1310b57991f504309dd") false
    fnExactFormatAnswer_row (fun _ h => by cases h) (by kernel_rfl) (fun _ h => by cases h) fnExactFormatAnswer_row_tie rfl ⟨rfl, rfl⟩ (by kernel_rfl) rfl
    (fun f fn hf hfn => by
      obtain rfl : f = 3 := Option.some.inj ((show Tryd.prog.funcNamed "loop.example/s01525/laws.FnExactFormatAnswer" = some 3 by kernel_rfl).symm.trans hf) |>.symm
      obtain rfl : fn = Tryd.f3 := (Option.some.inj (Tryd.func3.symm.trans hfn)).symm
      exact ⟨by kernel_rfl, fun j t ht => by
        rw [Tryd.params3] at ht
        have h3 : t = 23 ∨ t = 30 := by
          rcases j with _ | _ | j
          · exact Or.inl (by simpa using ht.symm)
          · exact Or.inr (by simpa using ht.symm)
          · simp at ht
        rcases h3 with h3 | h3
        · subst h3
          exact (show Tryd.prog.wantsStandIn 23 = false by kernel_rfl)
        · subst h3
          exact (show Tryd.prog.wantsStandIn 30 = false by kernel_rfl)⟩)
    (by kernel_rfl)
#print axioms fnExactFormatAnswer_holds
end Go.Proofs.YtoagahpoblcioaaDoor
