/- The law's helpers on a Copied: eqCopied, markCopied, heldCopied. -/
import Derived.Test.YtcjemnhnpkpanaaDoorEqB
import Derived.Test.YtcjemnhnpkpanaaDoorMarkB
namespace Go.Proofs.YtcjemnhnpkpanaaDoor
open Go.RowKit

theorem bool_ne_self (b : Bool) : (b != b) = false := by cases b <;> rfl

set_option maxHeartbeats 400000 in
theorem eqCopied_calls (w : World) {lo hi lo' hi' : Nat} {a b : Value} {xs : List Int} (g e : Bool) (h1 : View w lo hi .u8 a xs) (h2 : View w lo' hi' .u8 b xs) :
    Calls Tryd.prog 7 #[.agg #[.bool g, a, .bool e], .agg #[.bool g, b, .bool e]] w fun r w' => r = .returned (.bool true) ∧ Chg 0 0 w w' := by
  have hg := bool_ne_self g
  have he := bool_ne_self e
  go_enter Tryd.func7, Tryd.ntmps7
  go_wp2_with fail
  refine (eqByteS_calls _ (h1.chg ((Chg.alloc (Chg.refl 0 0 w) _).alloc _) (by omega)) (h2.chg ((Chg.alloc (Chg.refl 0 0 w) _).alloc _) (by omega))).mono ?_
  rintro r w1 ⟨rfl, hs⟩
  have hc : Chg 0 0 w w1 := ((Chg.alloc (Chg.refl 0 0 w) _).alloc _).trans (hs.chg 0 0)
  have cc := fun p => hs.cell p
  clear hs h1 h2
  go_wp2
  go_ret
  exact ⟨rfl, hc⟩

set_option maxHeartbeats 400000 in
theorem markCopied_calls (w : World) (base : Nat) (t : TypeId) (v : Value) (xs : List Int) (g e : Bool) (k0 lo hi : Nat) (hl : xs.length ≤ 140737488355328) (hk0 : k0 ≤ 140737488355328)
    (h1 : OwnB w base t v xs) (hb : ∀ g, v.ownBlock = some g → lo ≤ g ∧ g < hi) :
    Calls Tryd.prog 10 #[.agg #[.bool g, v, .bool e], .int .i64 k0] w fun r w' => r = .returned (.int .i64 ((k0 + xs.length : Nat) : Int)) ∧ OwnB w' base t v (marks k0 xs.length) ∧ Chg lo hi w w' := by
  have h2 := h1.chg (Chg.alloc (Chg.refl 0 0 w) (.cells #[.bool g, v, .bool e] 24)) (by intro g _; omega)
  go_enter Tryd.func10, Tryd.ntmps10
  go_wp2_with fail
  refine (markByteS_calls _ base t v xs k0 lo hi hl hk0 h2 hb).mono ?_
  rintro r w1 ⟨rfl, ho, hc, _, _⟩
  have hc1 : Chg lo hi w w1 := (Chg.alloc (Chg.refl lo hi w) _).trans hc
  clear hc h1 h2
  go_wp2
  go_ret
  exact ⟨rfl, ho, hc1⟩

set_option maxHeartbeats 400000 in
theorem heldCopied_calls (w : World) {lo hi : Nat} {a : Value} (g e : Bool) (k0 n : Nat) (hk0 : k0 + n ≤ 140737488355328) (h1 : View w lo hi .u8 a (marks k0 n)) :
    Calls Tryd.prog 11 #[.agg #[.bool g, a, .bool e], .int .i64 k0] w fun r w' => r = .returned (.int .i64 ((k0 + n : Nat) : Int)) ∧ Chg 0 0 w w' := by
  have hk : ¬ (((k0 + n : Nat) : Int) < 0) := by omega
  go_enter Tryd.func11, Tryd.ntmps11
  go_wp2_with fail
  refine (heldByteS_calls _ k0 n hk0 (h1.chg (Chg.alloc (Chg.refl 0 0 w) _) (by omega))).mono ?_
  rintro r w1 ⟨rfl, hs⟩
  have hc : Chg 0 0 w w1 := (Chg.alloc (Chg.refl 0 0 w) _).trans (hs.chg 0 0)
  clear hs h1
  go_wp2
  go_ret
  exact ⟨rfl, hc⟩

end Go.Proofs.YtcjemnhnpkpanaaDoor
