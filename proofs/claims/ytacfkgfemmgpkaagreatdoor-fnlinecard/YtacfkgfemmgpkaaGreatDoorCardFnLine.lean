/- The card of the law FnLine. -/
import Derived.Test.YtacfkgfemmgpkaaGreatDoorLawFnLine2
import Derived.Test.YtacfkgfemmgpkaaGreatDoorTie
import Derived.Test.YtacfkgfemmgpkaaGreatDoorCards
import Derived.SevenTiedAt
namespace Go.Proofs.YtacfkgfemmgpkaaGreatDoor
open Go

theorem fnLine_holds : Rows.FnLineCardSaid :=
  Claim7.holds_tied_plain_at .later [] [.data, .data, .data, .data, .sentinel, .sentinel, .pinned] true (true, "6f8cbc851a10b68ec55b43f0425eef3ea26b152d92f3a7b5dc1a0061c448672f") true
    fnLine_row (fun _ h => by cases h) (by kernel_rfl) (fun _ h => by cases h) fnLine_row_tie rfl ⟨rfl, rfl⟩ (by kernel_rfl) rfl
    (fun f fn hf hfn => by
      obtain rfl : f = 3 := Option.some.inj ((show Tryz.prog.funcNamed "loop.example/s01525/laws.FnLine" = some 3 by kernel_rfl).symm.trans hf) |>.symm
      obtain rfl : fn = Tryz.f3 := (Option.some.inj (Tryz.func3.symm.trans hfn)).symm
      exact ⟨by kernel_rfl, fun j t ht => by
        rw [Tryz.params3] at ht
        have h3 : t = 22 := by
          rcases j with _ | _ | j
          · simpa using ht.symm
          · simpa using ht.symm
          · simp at ht
        subst h3
        exact (show Tryz.prog.wantsStandIn 22 = false by kernel_rfl)⟩)
    (by kernel_rfl)
#print axioms fnLine_holds
end Go.Proofs.YtacfkgfemmgpkaaGreatDoor
