/- The card of the law on Unquote. -/
import Derived.Test.YthgbpceejkcdkaaDoorLawUnquote
import Derived.Test.YthgbpceejkcdkaaDoorTie
import Derived.Test.YthgbpceejkcdkaaDoorCards
import Derived.SevenTiedAt
namespace Go.Proofs.YthgbpceejkcdkaaDoor
open Go

theorem fnExactUnquote_holds : Rows.FnExactUnquoteCardSaid :=
  Claim7.holds_tied_plain_at .later [] [.data, .data, .data, .sentinel, .sentinel] true (true, "9ed2a33dc43d01fdb199d4361fe974f859e77b38dc84cd30df8c0ac95e0a9ef7") true
    fnExactUnquote_row (fun _ h => by cases h) (by kernel_rfl) (fun _ h => by cases h) fnExactUnquote_row_tie rfl ⟨rfl, rfl⟩ (by kernel_rfl) rfl
    (fun f fn hf hfn => by
      obtain rfl : f = 3 := Option.some.inj ((show Tryd.prog.funcNamed "loop.example/s01525/laws.FnExactUnquote" = some 3 by kernel_rfl).symm.trans hf) |>.symm
      obtain rfl : fn = Tryd.f3 := (Option.some.inj (Tryd.func3.symm.trans hfn)).symm
      exact ⟨by kernel_rfl, fun j t ht => by
        rw [Tryd.params3] at ht
        have h3 : t = 9 := by
          rcases j with _ | j
          · simpa using ht.symm
          · simp at ht
        subst h3
        exact (show Tryd.prog.wantsStandIn 9 = false by kernel_rfl)⟩)
    (by kernel_rfl)
#print axioms fnExactUnquote_holds
end Go.Proofs.YthgbpceejkcdkaaDoor
