/- The model's l1Copy, l1Put, DiskFlush. -/
import Derived.Test.YtplfehjaakkldaaSettle
import Derived.Test.YtplfehjaakkldaaCopy
namespace Go.Proofs.Ytplfehjaakkldaa
open Go.RowKit

theorem splice_take_set (xs ys : List Int) (o k : Nat) (hk : k < ys.length) (ho : o + ys.length ≤ xs.length) :
    ((splice xs o (ys.take k)).map (Value.int .u8)).set (o + k) (.int .u8 (ys.getD k 0)) = (splice xs o (ys.take (k + 1))).map (Value.int .u8) := by
  have e0 : ys.getD k 0 = ys[k] := by simp [List.getD_eq_getElem?_getD, hk]
  rw [← List.map_set]
  congr 1
  rw [e0]
  unfold splice
  have h1 : (xs.take o).length = o := by rw [List.length_take]; omega
  have h2 : (ys.take k).length = k := by rw [List.length_take]; omega
  rw [h2, List.set_append, if_neg (by omega), h1, Nat.add_sub_cancel_left, List.set_append, if_neg (by omega), h2, Nat.sub_self]
  have hd : xs.drop (o + k) = xs[o + k]'(by omega) :: xs.drop (o + k + 1) := by rw [List.drop_eq_getElem_cons]
  have h3 : (ys.take (k + 1)).length = k + 1 := by rw [List.length_take]; omega
  rw [hd, List.set_cons_zero, h3, List.take_succ_eq_append_getElem hk, List.append_assoc]
  rfl

set_option maxRecDepth 20000 in
set_option maxHeartbeats 1000000 in
theorem l1Put_calls (w : World) {base lo hi g cap : Nat} {e : TypeId} {b : Value} (xs ys : List Int) (qn : Nat) (h1 : OwnB w base e (.slice (some ⟨g, 0, none⟩) xs.length cap) xs) (h2 : View w lo hi .u8 b ys) (hy : ys.length = 64) (hq : qn * 64 + 64 ≤ xs.length) (hx : xs.length ≤ 1048576)
    (hdis : g < lo ∨ hi ≤ g) :
    Calls Try.prog 56 #[.slice (some ⟨g, 0, none⟩) xs.length cap, .int .i64 qn, b] w fun r w' => r = .returned (.tuple #[]) ∧ OwnB w' base e (.slice (some ⟨g, 0, none⟩) xs.length cap) (splice xs (qn * 64) ys) ∧ Chg g (g + 1) w w' := by
  obtain ⟨bo, bcap, rfl, _, _, hb⟩ := h2
  obtain ⟨yb, yo, rfl, hl, hh, hyc⟩ : ∃ yb yo, bo = some ⟨yb, yo, none⟩ ∧ lo ≤ yb ∧ yb < hi ∧ ∀ i, i < ys.length → w.cell? ⟨yb, yo + i, none⟩ = some (.int .u8 (ys.getD i 0)) := by
    rcases hb with h | ⟨yb, yo, e, a, b, c⟩
    · rw [h] at hy; simp at hy
    · exact ⟨yb, yo, e, a, b, c⟩
  have hne : yb ≠ g := by omega
  have Hyc : Hid (∀ i, i < ys.length → w.cell? ⟨yb, yo + i, none⟩ = some (.int .u8 (ys.getD i 0))) := hyc
  have Hy : Hid (ys.length = 64) := hy
  have H1 : Hid (OwnB w base e (.slice (some ⟨g, 0, none⟩) xs.length cap) xs) := h1
  have e64 : Hid (∀ k, k ≤ 64 → (splice xs (qn * 64) (ys.take k)).length = xs.length) := by
    intro k hk
    exact length_splice _ _ _ (by rw [List.length_take]; omega)
  rw [hy]
  clear hb hyc hy h1
  go_enter Try.func56, Try.ntmps56
  go_wp2
  go_loopw [6] (fun i wr => ∃ k : Nat, k ≤ 64 ∧ i = .int .i64 k ∧ OwnB wr base e (.slice (some ⟨g, 0, none⟩) xs.length cap) (splice xs (qn * 64) (ys.take k)) ∧ Chg g (g + 1) w wr) (fun i _ => 64 - (intOf i).toNat)
  case atStart =>
    have e : splice xs (qn * 64) (ys.take 0) = xs := by simp [splice]
    exact ⟨0, Nat.zero_le _, rfl, by rw [e]; exact H1.out, Chg.refl _ _ _⟩
  case round =>
    obtain ⟨k, hk, rfl, hown, hch⟩ := hrel
    have hl := e64.out k hk
    have hown' : wr.ownsRow base e 1 (.slice (some ⟨g, 0, none⟩) xs.length cap) xs.length ((splice xs (qn * 64) (ys.take k)).map (Value.int .u8)) := by
      have := hown; unfold OwnB at this; rw [hl] at this; exact this
    by_cases hlt : k < 64
    · have c1 : ∃ u, wr.cell? ⟨g, qn * 64 + k, none⟩ = some u := by
        have := World.ownsRow.cellAt hown' (qn * 64 + k) (by omega)
        rw [this]
        exact ⟨_, List.getElem?_eq_getElem (by rw [List.length_map, hl]; omega)⟩
      obtain ⟨u, c1⟩ := c1
      have f1 : wr.frozen? ⟨g, qn * 64 + k, none⟩ = false := World.ownsRow.frozenAt hown' (qn * 64 + k)
      have hyl := Hy.out
      have c2 := hch.cell (Hyc.out k (by omega)) (by omega)
      have hst := (World.ownsRow.stored hown' (qn * 64 + k) (.int .u8 (ys.getD k 0))).1
      rw [splice_take_set xs ys (qn * 64) k (by omega) (by omega)] at hst
      have hl2 := e64.out (k + 1) (by omega)
      have HR : Hid (OwnB (wr.setCell ⟨g, qn * 64 + k, none⟩ (.int .u8 (ys.getD k 0))) base e (.slice (some ⟨g, 0, none⟩) xs.length cap) (splice xs (qn * 64) (ys.take (k + 1)))) := by
        show OwnB _ _ _ _ _
        unfold OwnB; rw [hl2]; exact hst
      have HR2 : Hid (Chg g (g + 1) w (wr.setCell ⟨g, qn * 64 + k, none⟩ (.int .u8 (ys.getD k 0)))) := hch.setCell (Or.inl ⟨Nat.le_refl _, Nat.lt_succ_self _⟩) _
      generalize ys.getD k 0 = x at *
      have hik : (k : Int) < 64 := by omega
      have hi1 : (qn : Int) * 64 + (k : Int) < (xs.length : Int) := by omega
      have hi2 : ((qn : Int) * 64 + (k : Int)).toNat = qn * 64 + k := by omega
      clear hst hown hown' hl hl2 hch Hyc hyl Hy e64 H1
      go_wp2
      go_roundw
      case rel => exact ⟨k + 1, by omega, by go_num, HR.out, HR2.out⟩
      case measure => simp [intOf]; omega
    · obtain rfl : k = 64 := by omega
      have HR : Hid (OwnB wr base e (.slice (some ⟨g, 0, none⟩) xs.length cap) (splice xs (qn * 64) ys)) := by
        have := hown; rw [List.take_of_length_le (by rw [Hy.out]; exact Nat.le_refl _)] at this; exact this
      clear hown hown' hl
      go_wp2
      go_end0
      exact ⟨rfl, HR.out, hch⟩

theorem two_in {w : World} {s : Nat} {a b : Value} {t : TypeId} (h : w.heap[s]? = some (.cells #[a, b] t (0, 0))) : s < w.heap.size := (Array.getElem?_eq_some_iff.1 h).1

theorem OwnB.slice_of {w : World} {base : Nat} {e : TypeId} {v : Value} {xs : List Int} (h : OwnB w base e v xs) (hx : 0 < xs.length) : ∃ g cap, v = .slice (some ⟨g, 0, none⟩) xs.length cap := by
  rcases h.2 with ⟨_, h0⟩ | ⟨g, cap, cur, e, _⟩
  · omega
  · exact ⟨g, cap, e⟩

end Go.Proofs.Ytplfehjaakkldaa
