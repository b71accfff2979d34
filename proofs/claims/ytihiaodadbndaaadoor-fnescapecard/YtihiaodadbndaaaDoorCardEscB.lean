/- The card of the law on blocks that are escaped. -/
import Derived.Test.YtihiaodadbndaaaDoorLawEscB2
import Derived.Test.YtihiaodadbndaaaDoorTie
import Derived.Test.YtihiaodadbndaaaDoorCards
import Derived.SevenTiedAt
namespace Go.Proofs.YtihiaodadbndaaaDoor
open Go

theorem fnEscape_holds : Rows.FnEscapeCardSaid :=
  Claim7.holds_tied_plain_at .later [] [.handle, .sentinel, .sentinel, .sentinel, .data] true (true, "891cd53850b4b1edb1019e68907ff7e5c8047c1b4c63363e84e4c7e172de6358") true
    fnEscape_row (fun _ h => by cases h) (by kernel_rfl) (fun _ h => by cases h) fnEscape_row_tie rfl ⟨rfl, rfl⟩ (by kernel_rfl) rfl
    (fun f fn hf hfn => by
      obtain rfl : f = 3 := Option.some.inj ((show Tryd.prog.funcNamed "loop.example/s01525/laws.FnEscape" = some 3 by kernel_rfl).symm.trans hf) |>.symm
      obtain rfl : fn = Tryd.f3 := (Option.some.inj (Tryd.func3.symm.trans hfn)).symm
      exact ⟨by kernel_rfl, fun j t ht => by
        rw [Tryd.params3] at ht
        have h3 : t = 22 := by
          rcases j with _ | j
          · simpa using ht.symm
          · simp at ht
        subst h3
        exact (show Tryd.prog.wantsStandIn 22 = false by kernel_rfl)⟩)
    (by kernel_rfl)
#print axioms fnEscape_holds
end Go.Proofs.YtihiaodadbndaaaDoor
