/- The card of the law on ParseLine. -/
import Derived.Test.YteaeikmgkmpkiaaGreatDoorLawParse2
import Derived.Test.YteaeikmgkmpkiaaGreatDoorTie
import Derived.Test.YteaeikmgkmpkiaaGreatDoorCards
import Derived.SevenTiedAt
namespace Go.Proofs.YteaeikmgkmpkiaaGreatDoor
open Go

theorem fnExactParseLine_holds : Rows.FnExactParseLineCardSaid :=
  Claim7.holds_tied_plain_at .later [] [.data, .data, .data, .data, .sentinel, .sentinel, .pinned] true (true, "6627d0c192b4284b2370285179a21603b9ac8b5b550d116ee60ab69591a0bf60") true
    fnExactParseLine_row (fun _ h => by cases h) (by kernel_rfl) (fun _ h => by cases h) fnExactParseLine_row_tie rfl ⟨rfl, rfl⟩ (by kernel_rfl) rfl
    (fun f fn hf hfn => by
      obtain rfl : f = 3 := Option.some.inj ((show Tryz.prog.funcNamed "loop.example/s01525/laws.FnExactParseLine" = some 3 by kernel_rfl).symm.trans hf) |>.symm
      obtain rfl : fn = Tryz.f3 := (Option.some.inj (Tryz.func3.symm.trans hfn)).symm
      exact ⟨by kernel_rfl, fun j t ht => by
        rw [Tryz.params3] at ht
        have h3 : t = 22 := by
          rcases j with _ | j
          · simpa using ht.symm
          · simp at ht
        subst h3
        exact (show Tryz.prog.wantsStandIn 22 = false by kernel_rfl)⟩)
    (by kernel_rfl)
#print axioms fnExactParseLine_holds
end Go.Proofs.YteaeikmgkmpkiaaGreatDoor
