/- The card of the law on BlockKind. -/
import Derived.Test.YteackjpnhnfkbaaDoorLawBlockKind
import Derived.Test.YteackjpnhnfkbaaDoorTie
import Derived.Test.YteackjpnhnfkbaaDoorCards
import Derived.SevenTiedAt
namespace Go.Proofs.YteackjpnhnfkbaaDoor
open Go

theorem fnExactBlockKind_holds : Rows.FnExactBlockKindCardSaid :=
  Claim7.holds_tied_plain_at .later [] [.handle, .sentinel, .sentinel, .sentinel, .data] true (true, "5198131037ad2c4fd019496dac5778da9acaffca12a3de98a133cd15aca676e1") true
    fnExactBlockKind_row (fun _ h => by cases h) (by kernel_rfl) (fun _ h => by cases h) fnExactBlockKind_row_tie rfl ⟨rfl, rfl⟩ (by kernel_rfl) rfl
    (fun f fn hf hfn => by
      obtain rfl : f = 3 := Option.some.inj ((show Tryd.prog.funcNamed "loop.example/s01525/laws.FnExactBlockKind" = some 3 by kernel_rfl).symm.trans hf) |>.symm
      obtain rfl : fn = Tryd.f3 := (Option.some.inj (Tryd.func3.symm.trans hfn)).symm
      exact ⟨by kernel_rfl, fun j t ht => by
        rw [Tryd.params3] at ht
        have h3 : t = 22 := by
          rcases j with _ | j
          · simpa using ht.symm
          · simp at ht
        subst h3
        exact (show Tryd.prog.wantsStandIn 22 = false by kernel_rfl)⟩)
    (by kernel_rfl)
#print axioms fnExactBlockKind_holds
end Go.Proofs.YteackjpnhnfkbaaDoor
