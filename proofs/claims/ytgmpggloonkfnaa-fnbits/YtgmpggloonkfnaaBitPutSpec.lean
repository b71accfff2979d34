/- BitPut of the model. -/
import Derived.Test.YtgmpggloonkfnaaBitSpec
import Derived.Test.YtgmpggloonkfnaaCopy
namespace Go.Proofs.Ytgmpggloonkfnaa
open Go.RowKit

/-- A byte with bit r on or off. -/
def putBit (x : Int) (r : Nat) (on : Bool) : Int :=
  if decide (x.toNat / 2 ^ r % 2 = 1) = on then x else if on then x + 2 ^ r else x - 2 ^ r
def bitP (xs : List Int) (i : Int) (on : Bool) : List Int := if InMap xs i then xs.set (i.toNat / 8) (putBit (xs.getD (i.toNat / 8) 0) (i.toNat % 8) on) else []

theorem bitP_in {xs : List Int} {m : Nat} {on : Bool} (h : InMap xs m) : bitP xs m on = xs.set (m / 8) (putBit (xs.getD (m / 8) 0) (m % 8) on) := by unfold bitP; rw [if_pos h]; simp
theorem bitP_out {xs : List Int} {i : Int} {on : Bool} (h : ¬ InMap xs i) : bitP xs i on = [] := by unfold bitP; rw [if_neg h]
theorem bitP_len (xs : List Int) (i : Int) (on : Bool) : (bitP xs i on).length ≤ xs.length := by unfold bitP; split <;> simp

theorem up_bound {x r : Nat} (hx : x < 256) (hr : r < 8) (h : ¬ x / 2 ^ r % 2 = 1) : x + 2 ^ r < 256 := by
  match r, hr with
  | 0, _ | 1, _ | 2, _ | 3, _ | 4, _ | 5, _ | 6, _ | 7, _ => simp at h ⊢; omega
theorem down_bound {x r : Nat} (hr : r < 8) (h : x / 2 ^ r % 2 = 1) : 2 ^ r ≤ x := by
  match r, hr with
  | 0, _ | 1, _ | 2, _ | 3, _ | 4, _ | 5, _ | 6, _ | 7, _ => simp at h ⊢; omega
theorem pow_bound {r : Nat} (hr : r < 8) : 2 ^ r ≤ 128 := by
  match r, hr with
  | 0, _ | 1, _ | 2, _ | 3, _ | 4, _ | 5, _ | 6, _ | 7, _ => simp

theorem putBit_up {x r : Nat} (h : ¬ x / 2 ^ r % 2 = 1) : putBit x r true = ((x + 2 ^ r : Nat) : Int) := by unfold putBit; rw [if_neg (by simpa using h)]; simp
theorem putBit_down {x r : Nat} (hr : r < 8) (h : x / 2 ^ r % 2 = 1) : putBit x r false = ((x - 2 ^ r : Nat) : Int) := by
  have := down_bound hr h
  unfold putBit; rw [if_neg (by simpa using h), Int.ofNat_sub this]; simp
theorem putBit_same {x r : Nat} {on : Bool} (h : decide (x / 2 ^ r % 2 = 1) = on) : putBit x r on = x := by unfold putBit; rw [if_pos (by simpa using h)]

theorem OwnB.at {w : World} {base : Nat} {e : TypeId} {v : Value} {xs : List Int} (h : OwnB w base e v xs) (hn : 0 < xs.length) : ∃ g cap, v = .slice (some ⟨g, 0, none⟩) xs.length cap ∧ base ≤ g ∧ g < w.heap.size := by
  have hb := h.lt
  obtain ⟨_, h2⟩ := h
  rcases h2 with ⟨_, h0⟩ | ⟨g, cap, cur, rfl, hg, _⟩
  · omega
  · exact ⟨g, cap, rfl, hg, (hb g rfl).2⟩

theorem OwnB.putAt {w : World} {base g n cap : Nat} {e : TypeId} {xs : List Int} (h : OwnB w base e (.slice (some ⟨g, 0, none⟩) n cap) xs) (hn : xs.length = n) (i : Nat) (x : Int) :
    OwnB (w.setCell ⟨g, i, none⟩ (.int .u8 x)) base e (.slice (some ⟨g, 0, none⟩) n cap) (xs.set i x) := by
  subst hn
  have := (World.ownsRow.stored h i (.int .u8 x)).1
  unfold OwnB at *
  rw [List.length_set, List.map_set]
  exact this

end Go.Proofs.Ytgmpggloonkfnaa
