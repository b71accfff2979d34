/- The card of the law on Escape. -/
import Derived.Test.YtajfobhbbjibcagDoorLawEscape
import Derived.Test.YtajfobhbbjibcagDoorTie
import Derived.Test.YtajfobhbbjibcagDoorCards
import Derived.SevenTiedAt
namespace Go.Proofs.YtajfobhbbjibcagDoor
open Go

theorem fnExactEscape_holds : Rows.FnExactEscapeCardSaid :=
  Claim7.holds_tied_plain_at .later [] [.sentinel, .sentinel, .sentinel, .data] true (true, "2659f4cbbd4906be0c9f1a471699e1fdbee3d1b1386a5d1e87894c2917c025e7") true
    fnExactEscape_row (fun _ h => by cases h) (by kernel_rfl) (fun _ h => by cases h) fnExactEscape_row_tie rfl ⟨rfl, rfl⟩ (by kernel_rfl) rfl
    (fun f fn hf hfn => by
      obtain rfl : f = 4 := Option.some.inj ((show Tryd.prog.funcNamed "loop.example/s01525/laws.FnExactEscape" = some 4 by kernel_rfl).symm.trans hf) |>.symm
      obtain rfl : fn = Tryd.f4 := (Option.some.inj (Tryd.func4.symm.trans hfn)).symm
      exact ⟨by kernel_rfl, fun j t ht => by
        rw [Tryd.params4] at ht
        obtain rfl : t = 22 := by
          rcases j with _ | j
          · simpa using ht.symm
          · simp at ht
        exact (show Tryd.prog.wantsStandIn 22 = false by kernel_rfl)⟩)
    (by kernel_rfl)
#print axioms fnExactEscape_holds
end Go.Proofs.YtajfobhbbjibcagDoor
