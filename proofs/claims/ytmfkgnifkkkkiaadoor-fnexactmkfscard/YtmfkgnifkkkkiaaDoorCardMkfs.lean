/- The card of the law on Mkfs. -/
import Derived.Test.YtmfkgnifkkkkiaaDoorLawMkfs
import Derived.Test.YtmfkgnifkkkkiaaDoorTie
import Derived.Test.YtmfkgnifkkkkiaaDoorCards
import Derived.SevenTiedAt
namespace Go.Proofs.YtmfkgnifkkkkiaaDoor
open Go

theorem fnExactMkfs_holds : Rows.FnExactMkfsCardSaid :=
  Claim7.holds_tied_plain_at .later [] [.data, .data] true (true, "e8c65259d630c31db39b32a496bbe033bb3be26786eca85d1e964d73ce4a7cd4") false
    fnExactMkfs_row (fun _ h => by cases h) (by kernel_rfl) (fun _ h => by cases h) fnExactMkfs_row_tie rfl ⟨rfl, rfl⟩ (by kernel_rfl) rfl
    (fun f fn hf hfn => by
      obtain rfl : f = 3 := Option.some.inj ((show Tryd.prog.funcNamed "loop.example/s01525/laws.FnExactMkfs" = some 3 by kernel_rfl).symm.trans hf) |>.symm
      obtain rfl : fn = Tryd.f3 := (Option.some.inj (Tryd.func3.symm.trans hfn)).symm
      exact ⟨by kernel_rfl, fun j t ht => by
        rw [Tryd.params3] at ht
        have h3 : t = 23 := by
          rcases j with _ | j
          · simpa using ht.symm
          · simp at ht
        subst h3
        exact (show Tryd.prog.wantsStandIn 23 = false by kernel_rfl)⟩)
    (by kernel_rfl)
#print axioms fnExactMkfs_holds
end Go.Proofs.YtmfkgnifkkkkiaaDoor
