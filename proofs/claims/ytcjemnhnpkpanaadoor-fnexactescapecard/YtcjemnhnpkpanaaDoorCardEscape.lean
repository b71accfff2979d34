/- The card of the law on Escape. -/
import Derived.Test.YtcjemnhnpkpanaaDoorLawEscape
import Derived.Test.YtcjemnhnpkpanaaDoorTie
import Derived.Test.YtcjemnhnpkpanaaDoorCards
import Derived.SevenTiedAt
namespace Go.Proofs.YtcjemnhnpkpanaaDoor
open Go

theorem fnExactEscape_holds : Rows.FnExactEscapeCardSaid :=
  Claim7.holds_tied_plain_at .later [] [.sentinel, .sentinel, .sentinel, .data] true (true, "36900b2d92b37a7ea7e9b71fa4afe3aae8f20aaf73147a05985e9876c6fdf4b1") true
    fnExactEscape_row (fun _ h => by cases h) (by kernel_rfl) (fun _ h => by cases h) fnExactEscape_row_tie rfl ⟨rfl, rfl⟩ (by kernel_rfl) rfl
    (fun f fn hf hfn => by
      obtain rfl : f = 3 := Option.some.inj ((show Tryd.prog.funcNamed "loop.example/s01525/laws.FnExactEscape" = some 3 by kernel_rfl).symm.trans hf) |>.symm
      obtain rfl : fn = Tryd.f3 := (Option.some.inj (Tryd.func3.symm.trans hfn)).symm
      exact ⟨by kernel_rfl, fun j t ht => by
        rw [Tryd.params3] at ht
        obtain rfl : t = 22 := by
          rcases j with _ | j
          · simpa using ht.symm
          · simp at ht
        exact (show Tryd.prog.wantsStandIn 22 = false by kernel_rfl)⟩)
    (by kernel_rfl)
#print axioms fnExactEscape_holds
end Go.Proofs.YtcjemnhnpkpanaaDoor
