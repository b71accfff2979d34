/- The card of the law on DecodeSuper. -/
import Derived.Test.YthfhleddpiemoaaDoorLawDecodeSuper
import Derived.Test.YthfhleddpiemoaaDoorTie
import Derived.Test.YthfhleddpiemoaaDoorCards
import Derived.SevenTiedAt
namespace Go.Proofs.YthfhleddpiemoaaDoor
open Go

theorem fnExactDecodeSuper_holds : Rows.FnExactDecodeSuperCardSaid :=
  Claim7.holds_tied_plain_at .later [] [.data] true (true, "fc534bd2145e0728fc52744a2a8245ac55f8020ec0e0d86ec05348b18279fab2") false
    fnExactDecodeSuper_row (fun _ h => by cases h) (by kernel_rfl) (fun _ h => by cases h) fnExactDecodeSuper_row_tie rfl ⟨rfl, rfl⟩ (by kernel_rfl) rfl
    (fun f fn hf hfn => by
      obtain rfl : f = 3 := Option.some.inj ((show Tryd.prog.funcNamed "loop.example/s01525/laws.FnExactDecodeSuper" = some 3 by kernel_rfl).symm.trans hf) |>.symm
      obtain rfl : fn = Tryd.f3 := (Option.some.inj (Tryd.func3.symm.trans hfn)).symm
      exact ⟨by kernel_rfl, fun j t ht => by
        rw [Tryd.params3] at ht
        have h3 : t = 22 := by
          rcases j with _ | j
          · simpa using ht.symm
          · simp at ht
        subst h3
        exact (show Tryd.prog.wantsStandIn 22 = false by kernel_rfl)⟩)
    (by kernel_rfl)
#print axioms fnExactDecodeSuper_holds
end Go.Proofs.YthfhleddpiemoaaDoor
