/- The card of the law on EncodeSuper. -/
import Derived.Test.YtikldohglkjlaaaDoorLawEncodeSuper
import Derived.Test.YtikldohglkjlaaaDoorTie
import Derived.Test.YtikldohglkjlaaaDoorCards
import Derived.SevenTiedAt
namespace Go.Proofs.YtikldohglkjlaaaDoor
open Go

theorem fnExactEncodeSuper_holds : Rows.FnExactEncodeSuperCardSaid :=
  Claim7.holds_tied_plain_at .later [] [.data] true (true, "dddc41ccd80d1b37eede79008add3755aef7fd20b6afce370f7c66476e5c4a40") false
    fnExactEncodeSuper_row (fun _ h => by cases h) (by kernel_rfl) (fun _ h => by cases h) fnExactEncodeSuper_row_tie rfl ⟨rfl, rfl⟩ (by kernel_rfl) rfl
    (fun f fn hf hfn => by
      obtain rfl : f = 3 := Option.some.inj ((show Tryd.prog.funcNamed "loop.example/s01525/laws.FnExactEncodeSuper" = some 3 by kernel_rfl).symm.trans hf) |>.symm
      obtain rfl : fn = Tryd.f3 := (Option.some.inj (Tryd.func3.symm.trans hfn)).symm
      exact ⟨by kernel_rfl, fun j t ht => by
        rw [Tryd.params3] at ht
        have h3 : t = 23 := by
          rcases j with _ | j
          · simpa using ht.symm
          · simp at ht
        subst h3
        exact (show Tryd.prog.wantsStandIn 23 = false by kernel_rfl)⟩)
    (by kernel_rfl)
#print axioms fnExactEncodeSuper_holds
end Go.Proofs.YtikldohglkjlaaaDoor
