/- The card of the law on FnQuote. -/
import Derived.Test.YtmbonljmghpcmaaDoorLawFnQuote2
import Derived.Test.YtmbonljmghpcmaaDoorTie
import Derived.Test.YtmbonljmghpcmaaDoorCards
import Derived.SevenTiedAt
namespace Go.Proofs.YtmbonljmghpcmaaDoor
open Go

theorem fnQuote_holds : Rows.FnQuoteCardSaid :=
  Claim7.holds_tied_plain_at .later [] [.data, .data, .data, .sentinel, .sentinel] true (true, "bc2eb0bd7a4cd6003165b43b43b67c808c6bb24a7d82696241bf567e4590fcbc") true
    fnQuote_row (fun _ h => by cases h) (by kernel_rfl) (fun _ h => by cases h) fnQuote_row_tie rfl ⟨rfl, rfl⟩ (by kernel_rfl) rfl
    (fun f fn hf hfn => by
      obtain rfl : f = 3 := Option.some.inj ((show Tryd.prog.funcNamed "loop.example/s01525/laws.FnQuote" = some 3 by kernel_rfl).symm.trans hf) |>.symm
      obtain rfl : fn = Tryd.f3 := (Option.some.inj (Tryd.func3.symm.trans hfn)).symm
      exact ⟨by kernel_rfl, fun j t ht => by
        rw [Tryd.params3] at ht
        have h3 : t = 22 := by
          rcases j with _ | j
          · simpa using ht.symm
          · simp at ht
        subst h3
        exact (show Tryd.prog.wantsStandIn 22 = false by kernel_rfl)⟩)
    (by kernel_rfl)
#print axioms fnQuote_holds
end Go.Proofs.YtmbonljmghpcmaaDoor
