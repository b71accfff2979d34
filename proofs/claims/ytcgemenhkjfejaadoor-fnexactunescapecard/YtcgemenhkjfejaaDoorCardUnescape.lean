/- The card of the law on Unescape. -/
import Derived.Test.YtcgemenhkjfejaaDoorLawUnescape
import Derived.Test.YtcgemenhkjfejaaDoorTie
import Derived.Test.YtcgemenhkjfejaaDoorCards
import Derived.SevenTiedAt
namespace Go.Proofs.YtcgemenhkjfejaaDoor
open Go

theorem fnExactUnescape_holds : Rows.FnExactUnescapeCardSaid :=
  Claim7.holds_tied_plain_at .later [] [.sentinel, .sentinel, .sentinel, .data] true (true, "0f3bb2196167fe36133defb9aca397137781aa445d391a5ed9894daa832d882b") true
    fnExactUnescape_row (fun _ h => by cases h) (by kernel_rfl) (fun _ h => by cases h) fnExactUnescape_row_tie rfl ⟨rfl, rfl⟩ (by kernel_rfl) rfl
    (fun f fn hf hfn => by
      obtain rfl : f = 3 := Option.some.inj ((show Tryd.prog.funcNamed "loop.example/s01525/laws.FnExactUnescape" = some 3 by kernel_rfl).symm.trans hf) |>.symm
      obtain rfl : fn = Tryd.f3 := (Option.some.inj (Tryd.func3.symm.trans hfn)).symm
      exact ⟨by kernel_rfl, fun j t ht => by
        rw [Tryd.params3] at ht
        have h3 : t = 22 ∨ t = 4 := by
          rcases j with _ | _ | j
          · exact Or.inl (by simpa using ht.symm)
          · exact Or.inr (by simpa using ht.symm)
          · simp at ht
        rcases h3 with rfl | rfl
        · exact (show Tryd.prog.wantsStandIn 22 = false by kernel_rfl)
        · exact (show Tryd.prog.wantsStandIn 4 = false by kernel_rfl)⟩)
    (by kernel_rfl)
#print axioms fnExactUnescape_holds
end Go.Proofs.YtcgemenhkjfejaaDoor
