/- Several short texts in one: Copy, SpecPut, GeoSpec. -/
import Derived.Test.YtmfkgnifkkkkiaaDoorBytesOf
import Derived.Laws.AppendOwnNone
import Derived.Test.YtmfkgnifkkkkiaaDoorSettle
import Derived.Test.YtmfkgnifkkkkiaaDoorRows
import Derived.Test.YtmfkgnifkkkkiaaDoorMem
import Derived.Deep.DeepCutAuto
namespace Go.Proofs.YtmfkgnifkkkkiaaDoor
open Go.RowKit

theorem infoU_zero : (Value.int .u8 0).cells.size = 1 := rfl

set_option maxRecDepth 20000 in
set_option maxHeartbeats 1000000 in
theorem l1Copy_calls (w : World) {lo hi : Nat} {a : Value} {xs : List Int} (hl : xs.length ≤ 1048576) (h1 : View w lo hi .u8 a xs) :
    Calls Tryd.prog 42 #[a] w fun e w' => ∃ v, e = .returned v ∧ OwnB w' w.heap.size 5 v xs ∧ Chg 0 0 w w' := by
  obtain ⟨i, hi, hz0, hz1, hz2⟩ := info_parts Tryd.infoU
  obtain ⟨ao, cap, rfl, _, ⟨_, hnil⟩, h1⟩ := h1
  have C0 : Chg 0 0 w (w.alloc (.cells #[] 5)) := Chg.alloc (Chg.refl 0 0 w) _
  have O0 : (w.alloc (.cells #[] 5)).ownsRow w.heap.size 5 1 (.slice (some ⟨w.heap.size, 0, none⟩) 0 0) 0 [] := by
    have := World.ownsRow_lit (base := w.heap.size) (e := 5) (size := 1) w #[] 0 (Nat.le_refl _) (by unfold maxLen; omega) rfl
    simpa using this
  have HO0 : Hid ((w.alloc (.cells #[] 5)).ownsRow w.heap.size 5 1 (.slice (some ⟨w.heap.size, 0, none⟩) 0 0) 0 []) := O0
  have HC0 : Hid (Chg 0 0 w (w.alloc (.cells #[] 5))) := C0
  have bs : Hid (w.heap.size ≤ (w.alloc (.cells #[] 5)).heap.size) := by show _ ≤ _; simp
  cases ao with
  | none =>
    obtain rfl : xs = [] := by
      rcases h1 with h1 | ⟨b, off, e, _⟩
      · exact h1
      · cases e
    obtain rfl : cap = 0 := hnil rfl
    clear h1 hnil C0
    go_enter Tryd.func42, Tryd.ntmps42
    go_wp2_with (at_builtin; refine wpList_append_own_none rfl (.tmp 3) (.tmp 4) 24 rfl w.heap.size 5 i 1 Tryd.underlying24 hi _ 0 [] rfl HO0.out rfl ?_)
    go_ret
    exact ⟨_, rfl, HO0.out, HC0.out⟩
  | some ad =>
    have hsrc : ∀ j u, (xs.map (Value.int .u8))[j]? = some u → (w.alloc (.cells #[] 5)).cell? (ad.add j) = some u := by
      intro j u hj
      have hjl : j < xs.length := by have := (List.getElem?_eq_some_iff.1 hj).1; simpa using this
      rcases h1 with h1 | ⟨b, off, e, _, _, hc⟩
      · rw [h1] at hjl; simp at hjl
      · cases e
        rw [Addr.add_mid, C0.cell (hc j hjl) (by omega), ← hj]
        simp [List.getD_eq_getElem?_getD, hjl]
    have Hsrc : Hid (∀ j u, (xs.map (Value.int .u8))[j]? = some u → (w.alloc (.cells #[] 5)).cell? (ad.add j) = some u) := hsrc
    clear h1 hnil hsrc C0
    go_enter Tryd.func42, Tryd.ntmps42
    go_wp2_with (at_builtin; refine wpList_append_own _ rfl (.tmp 3) (.tmp 4) 24 rfl w.heap.size 5 i (.int .u8 0) 1 1 Tryd.underlying24 hi hz0 hz1 hz2 rfl (by decide) _ 0 [] rfl HO0.out ad xs.length cap (xs.map (Value.int .u8)) rfl (by simp) Hsrc.out (ints_oneCell _ _) (by unfold maxLen; omega) (by omega) bs.out ?_)
    intro v' w1 hown hgrow _
    have HO : Hid (OwnB w1 w.heap.size 5 v' xs) := by
      show OwnB _ _ _ _ _
      unfold OwnB
      simpa using hown
    have HC : Hid (Chg 0 0 w w1) := HC0.out.step (Chg.ofGrown (lo := w.heap.size) (hi := w.heap.size + 1) hgrow (fun k hk _ => by simp only [Value.ownBlock, Option.some.injEq] at hk; omega)) (Or.inr (Or.inl (Nat.le_refl _)))
    clear hown hgrow HO0 HC0 Hsrc bs
    go_wp2
    go_ret
    exact ⟨_, rfl, HO.out, HC.out⟩

end Go.Proofs.YtmfkgnifkkkkiaaDoor

namespace Go.Proofs.YtmfkgnifkkkkiaaDoor
open Go.RowKit

theorem splice_take_set (xs ys : List Int) (o k : Nat) (hk : k < ys.length) (ho : o + ys.length ≤ xs.length) :
    ((splice xs o (ys.take k)).map (Value.int .u8)).set (o + k) (.int .u8 (ys.getD k 0)) = (splice xs o (ys.take (k + 1))).map (Value.int .u8) := by
  have e0 : ys.getD k 0 = ys[k] := by simp [List.getD_eq_getElem?_getD, hk]
  rw [← List.map_set]
  congr 1
  rw [e0]
  unfold splice
  have h1 : (xs.take o).length = o := by rw [List.length_take]; omega
  have h2 : (ys.take k).length = k := by rw [List.length_take]; omega
  rw [h2, List.set_append, if_neg (by omega), h1, Nat.add_sub_cancel_left, List.set_append, if_neg (by omega), h2, Nat.sub_self]
  have hd : xs.drop (o + k) = xs[o + k]'(by omega) :: xs.drop (o + k + 1) := by rw [List.drop_eq_getElem_cons]
  have h3 : (ys.take (k + 1)).length = k + 1 := by rw [List.length_take]; omega
  rw [hd, List.set_cons_zero, h3, List.take_succ_eq_append_getElem hk, List.append_assoc]
  rfl

set_option maxRecDepth 20000 in
set_option maxHeartbeats 1000000 in
theorem l1Put_calls (w : World) {base lo hi g cap : Nat} {e : TypeId} {b : Value} (xs ys : List Int) (qn : Nat) (h1 : OwnB w base e (.slice (some ⟨g, 0, none⟩) xs.length cap) xs) (h2 : View w lo hi .u8 b ys) (hy : ys.length = 64) (hq : qn * 64 + 64 ≤ xs.length) (hx : xs.length ≤ 1048576)
    (hdis : g < lo ∨ hi ≤ g) :
    Calls Tryd.prog 13 #[.slice (some ⟨g, 0, none⟩) xs.length cap, .int .i64 qn, b] w fun r w' => r = .returned (.tuple #[]) ∧ OwnB w' base e (.slice (some ⟨g, 0, none⟩) xs.length cap) (splice xs (qn * 64) ys) ∧ Chg g (g + 1) w w' := by
  obtain ⟨bo, bcap, rfl, _, _, hb⟩ := h2
  obtain ⟨yb, yo, rfl, hl, hh, hyc⟩ : ∃ yb yo, bo = some ⟨yb, yo, none⟩ ∧ lo ≤ yb ∧ yb < hi ∧ ∀ i, i < ys.length → w.cell? ⟨yb, yo + i, none⟩ = some (.int .u8 (ys.getD i 0)) := by
    rcases hb with h | ⟨yb, yo, e, a, b, c⟩
    · rw [h] at hy; simp at hy
    · exact ⟨yb, yo, e, a, b, c⟩
  have hne : yb ≠ g := by omega
  have Hyc : Hid (∀ i, i < ys.length → w.cell? ⟨yb, yo + i, none⟩ = some (.int .u8 (ys.getD i 0))) := hyc
  have Hy : Hid (ys.length = 64) := hy
  have H1 : Hid (OwnB w base e (.slice (some ⟨g, 0, none⟩) xs.length cap) xs) := h1
  have e64 : Hid (∀ k, k ≤ 64 → (splice xs (qn * 64) (ys.take k)).length = xs.length) := by
    intro k hk
    exact length_splice _ _ _ (by rw [List.length_take]; omega)
  rw [hy]
  clear hb hyc hy h1
  go_enter Tryd.func13, Tryd.ntmps13
  go_wp2
  go_loopw [6] (fun i wr => ∃ k : Nat, k ≤ 64 ∧ i = .int .i64 k ∧ OwnB wr base e (.slice (some ⟨g, 0, none⟩) xs.length cap) (splice xs (qn * 64) (ys.take k)) ∧ Chg g (g + 1) w wr) (fun i _ => 64 - (intOf i).toNat)
  case atStart =>
    have e : splice xs (qn * 64) (ys.take 0) = xs := by simp [splice]
    exact ⟨0, Nat.zero_le _, rfl, by rw [e]; exact H1.out, Chg.refl _ _ _⟩
  case round =>
    obtain ⟨k, hk, rfl, hown, hch⟩ := hrel
    have hl := e64.out k hk
    have hown' : wr.ownsRow base e 1 (.slice (some ⟨g, 0, none⟩) xs.length cap) xs.length ((splice xs (qn * 64) (ys.take k)).map (Value.int .u8)) := by
      have := hown; unfold OwnB at this; rw [hl] at this; exact this
    by_cases hlt : k < 64
    · have c1 : ∃ u, wr.cell? ⟨g, qn * 64 + k, none⟩ = some u := by
        have := World.ownsRow.cellAt hown' (qn * 64 + k) (by omega)
        rw [this]
        exact ⟨_, List.getElem?_eq_getElem (by rw [List.length_map, hl]; omega)⟩
      obtain ⟨u, c1⟩ := c1
      have f1 : wr.frozen? ⟨g, qn * 64 + k, none⟩ = false := World.ownsRow.frozenAt hown' (qn * 64 + k)
      have hyl := Hy.out
      have c2 := hch.cell (Hyc.out k (by omega)) (by omega)
      have hst := (World.ownsRow.stored hown' (qn * 64 + k) (.int .u8 (ys.getD k 0))).1
      rw [splice_take_set xs ys (qn * 64) k (by omega) (by omega)] at hst
      have hl2 := e64.out (k + 1) (by omega)
      have HR : Hid (OwnB (wr.setCell ⟨g, qn * 64 + k, none⟩ (.int .u8 (ys.getD k 0))) base e (.slice (some ⟨g, 0, none⟩) xs.length cap) (splice xs (qn * 64) (ys.take (k + 1)))) := by
        show OwnB _ _ _ _ _
        unfold OwnB; rw [hl2]; exact hst
      have HR2 : Hid (Chg g (g + 1) w (wr.setCell ⟨g, qn * 64 + k, none⟩ (.int .u8 (ys.getD k 0)))) := hch.setCell (Or.inl ⟨Nat.le_refl _, Nat.lt_succ_self _⟩) _
      generalize ys.getD k 0 = x at *
      have hik : (k : Int) < 64 := by omega
      have hi1 : (qn : Int) * 64 + (k : Int) < (xs.length : Int) := by omega
      have hi2 : ((qn : Int) * 64 + (k : Int)).toNat = qn * 64 + k := by omega
      clear hst hown hown' hl hl2 hch Hyc hyl Hy e64 H1
      go_wp2
      go_roundw
      case rel => exact ⟨k + 1, by omega, by go_num, HR.out, HR2.out⟩
      case measure => simp [intOf]; omega
    · obtain rfl : k = 64 := by omega
      have HR : Hid (OwnB wr base e (.slice (some ⟨g, 0, none⟩) xs.length cap) (splice xs (qn * 64) ys)) := by
        have := hown; rw [List.take_of_length_le (by rw [Hy.out]; exact Nat.le_refl _)] at this; exact this
      clear hown hown' hl
      go_wp2
      go_end0
      exact ⟨rfl, HR.out, hch⟩

theorem two_in {w : World} {s : Nat} {a b : Value} {t : TypeId} (h : w.heap[s]? = some (.cells #[a, b] t (0, 0))) : s < w.heap.size := (Array.getElem?_eq_some_iff.1 h).1

theorem OwnB.slice_of {w : World} {base : Nat} {e : TypeId} {v : Value} {xs : List Int} (h : OwnB w base e v xs) (hx : 0 < xs.length) : ∃ g cap, v = .slice (some ⟨g, 0, none⟩) xs.length cap := by
  rcases h.2 with ⟨_, h0⟩ | ⟨g, cap, cur, e, _⟩
  · omega
  · exact ⟨g, cap, e⟩

end Go.Proofs.YtmfkgnifkkkkiaaDoor

namespace Go.Proofs.YtmfkgnifkkkkiaaDoor
open Go.RowKit

abbrev geoV (b l n : Int) : Value := .agg #[.int .i64 b, .int .i64 l, .int .i64 n]
abbrev plV (a b c d e f g : Int) : Value := .agg #[.int .i64 a, .int .i64 b, .int .i64 c, .int .i64 d, .int .i64 e, .int .i64 f, .int .i64 g]

set_option maxRecDepth 20000 in
set_option maxHeartbeats 400000 in
theorem toGeometry_calls (w : World) (b l n : Int) : Calls Tryd.prog 5 #[geoV b l n] w fun e w' => e = .returned (geoV b l n) ∧ Chg 0 0 w w' := by
  go_enter Tryd.func5, Tryd.ntmps5
  go_wp2
  exact bodyPost_ret (v := geoV b l n) (by simp [results, Tryd.results5, go_sem]) rfl ⟨rfl, ((Chg.alloc (Chg.refl 0 0 w) _).alloc _).alloc _⟩

/-- a divided by b, rounded up. -/
def upN (a b : Nat) : Nat := (a + (b - 1)) / b

set_option maxRecDepth 20000 in
set_option maxHeartbeats 400000 in
theorem l7Up_512 (w : World) (a : Nat) (ha : a ≤ 8192) : Calls Tryd.prog 37 #[.int .i64 a, .int .i64 512] w fun e w' => e = .returned (.int .i64 (upN a 512)) ∧ w' = w := by
  have HU : Hid (upN a 512 = (a + 511) / 512) := rfl
  go_enter Tryd.func37, Tryd.ntmps37
  go_wp2
  go_loopw [5] (fun x wr => wr = w ∧ ∃ k : Nat, x = .int .i64 k ∧ (k = 0 ∨ (k - 1) * 512 < a)) (fun x _ => a - (intOf x).toNat * 512)
  case atStart => exact ⟨rfl, 0, rfl, Or.inl rfl⟩
  case round =>
    obtain ⟨rfl, k, rfl, hk⟩ := hrel
    by_cases hlt : k * 512 < a
    · have h1 : (k : Int) * 512 < (a : Int) := by omega
      go_wp2
      go_roundw
      case rel => exact ⟨trivial, k + 1, by go_num, Or.inr (by omega)⟩
      case measure => simp [intOf]; omega
    · have h1 : ¬ (k : Int) * 512 < (a : Int) := by omega
      have h2 : k ≤ 17 := by omega
      have Hk : Hid (upN a 512 = k) := by have := HU.out; show _ = _; omega
      clear hk
      go_wp2
      go_ret
      exact ⟨by rw [Hk.out]; rfl, rfl⟩

set_option maxRecDepth 20000 in
set_option maxHeartbeats 400000 in
theorem l7Up_64 (w : World) (a : Nat) (ha : a ≤ 8192) : Calls Tryd.prog 37 #[.int .i64 a, .int .i64 64] w fun e w' => e = .returned (.int .i64 (upN a 64)) ∧ w' = w := by
  have HU : Hid (upN a 64 = (a + 63) / 64) := rfl
  go_enter Tryd.func37, Tryd.ntmps37
  go_wp2
  go_loopw [5] (fun x wr => wr = w ∧ ∃ k : Nat, x = .int .i64 k ∧ (k = 0 ∨ (k - 1) * 64 < a)) (fun x _ => a - (intOf x).toNat * 64)
  case atStart => exact ⟨rfl, 0, rfl, Or.inl rfl⟩
  case round =>
    obtain ⟨rfl, k, rfl, hk⟩ := hrel
    by_cases hlt : k * 64 < a
    · have h1 : (k : Int) * 64 < (a : Int) := by omega
      go_wp2
      go_roundw
      case rel => exact ⟨trivial, k + 1, by go_num, Or.inr (by omega)⟩
      case measure => simp [intOf]; omega
    · have h1 : ¬ (k : Int) * 64 < (a : Int) := by omega
      have h2 : k ≤ 130 := by omega
      have Hk : Hid (upN a 64 = k) := by have := HU.out; show _ = _; omega
      clear hk
      go_wp2
      go_ret
      exact ⟨by rw [Hk.out]; rfl, rfl⟩

theorem plV_ext {a b c d e f g a' b' c' d' e' f' g' : Int} (h1 : a = a') (h2 : b = b') (h3 : c = c') (h4 : d = d') (h5 : e = e') (h6 : f = f') (h7 : g = g') : plV a b c d e f g = plV a' b' c' d' e' f' g' := by
  subst h1 h2 h3 h4 h5 h6 h7; rfl

/-- Where the data begin. -/
def dataAt (b l n : Nat) : Nat := 3 + l + upN b 512 + upN (n * 32) 64
def placesV (b l n : Nat) : Value :=
  plV ((2 + l : Nat) : Int) ((3 + l : Nat) : Int) (upN b 512) ((3 + l + upN b 512 : Nat) : Int) (upN (n * 32) 64) (dataAt b l n) ((b : Int) - dataAt b l n)

theorem up512_le {a : Nat} (h : a ≤ 8192) : upN a 512 ≤ 16 := by unfold upN; omega
theorem up64_le {a : Nat} (h : a ≤ 8192) : upN a 64 ≤ 128 := by unfold upN; omega

set_option maxRecDepth 20000 in
set_option maxHeartbeats 1000000 in
theorem l7Places_calls (w : World) (b l n : Nat) (hb : b ≤ 2048) (hl : l ≤ 512) (hn : n ≤ 256) : Calls Tryd.prog 11 #[geoV b l n] w fun e w' => e = .returned (placesV b l n) ∧ Chg 0 0 w w' := by
  have k1 := up512_le (a := b) (by omega)
  have k2 := up64_le (a := n * 32) (by omega)
  obtain ⟨mb, Hmb⟩ : ∃ m, Hid (upN b 512 = m) := ⟨_, rfl⟩
  obtain ⟨tb, Htb⟩ : ∃ m, Hid (upN (n * 32) 64 = m) := ⟨_, rfl⟩
  rw [Hmb.out] at k1
  rw [Htb.out] at k2
  go_enter Tryd.func11, Tryd.ntmps11
  go_wp2_with fail
  refine (l7Up_512 _ b (by omega)).mono ?_
  rintro e w1 ⟨rfl, rfl⟩
  rw [Hmb.out]
  have hU := fun w : World => l7Up_64 w (n * 32) (by omega)
  rw [show ((n * 32 : Nat) : Int) = (n : Int) * 32 by omega] at hU
  go_wp2_with fail
  refine (hU _).mono ?_
  rintro e w1 ⟨rfl, rfl⟩
  rw [Htb.out]
  go_wp2
  refine bodyPost_ret (v := placesV b l n) (by simp [results, Tryd.results11, go_sem]; unfold placesV dataAt; rw [Hmb.out, Htb.out]; exact plV_ext (by omega) (by omega) rfl (by omega) rfl (by omega) (by omega)) rfl ⟨rfl, ?_⟩
  exact ((Chg.alloc (Chg.refl 0 0 w) _).alloc _).alloc _

theorem field_pl (w : World) (a b c d e f g : Int) : (Instr.field 36 (.agg #[.int .i64 a, .int .i64 b, .int .i64 c, .int .i64 d, .int .i64 e, .int .i64 f, .int .i64 g]) 6).run Tryd.prog w = .ok (.int .i64 g) w := by
  simp [Instr.field, run_underlying Tryd.underlying36, asAgg, part, isAgg, run_underlying Tryd.underlying2]

/-- Its numbers are within their bounds. -/
abbrev GeoIn (b l n : Int) : Prop := 16 ≤ l ∧ l ≤ 512 ∧ 1 ≤ n ∧ n ≤ 256 ∧ 1 ≤ b ∧ b ≤ 2048
def geoB (b l n : Int) : Bool := decide (GeoIn b l n) && decide (dataAt b.toNat l.toNat n.toNat < b.toNat)
def layV (b l n : Int) : Value := if geoB b l n = true then placesV b.toNat l.toNat n.toNat else plV 0 0 0 0 0 0 0

theorem geoB_in {b l n : Nat} (h : GeoIn b l n) : geoB b l n = decide (dataAt b l n < b) := by unfold geoB; rw [decide_eq_true h]; simp
theorem geoB_out {b l n : Int} (h : ¬ GeoIn b l n) : geoB b l n = false := by unfold geoB; rw [decide_eq_false h]; simp

set_option maxRecDepth 20000 in
set_option maxHeartbeats 1000000 in
theorem specValidGeometry_in (w : World) (b l n : Nat) (h1 : 16 ≤ l) (h2 : l ≤ 512) (h3 : 1 ≤ n) (h4 : n ≤ 256) (h5 : 1 ≤ b) (h6 : b ≤ 2048) :
    Calls Tryd.prog 10 #[geoV b l n] w fun e w' => e = .returned (.bool (decide (dataAt b l n < b))) ∧ Chg 0 0 w w' := by
  have e1 : ¬ ((l : Int) < 16) := by omega
  have e2 : ¬ (512 < (l : Int)) := by omega
  have e3 : ¬ ((n : Int) < 1) := by omega
  have e4 : ¬ (256 < (n : Int)) := by omega
  have e5 : ¬ ((b : Int) < 1) := by omega
  have e6 : ¬ (2048 < (b : Int)) := by omega
  have HA : Hid (Chg 0 0 w (w.alloc (.cells #[.int .i64 b, .int .i64 l, .int .i64 n] 29))) := Chg.alloc (Chg.refl 0 0 w) _
  have hN := l7Places_calls (w.alloc (.cells #[.int .i64 b, .int .i64 l, .int .i64 n] 29)) b l n h6 h2 h4
  obtain ⟨c0, c1, c2, c3, c4, c5, HP⟩ : ∃ c0 c1 c2 c3 c4 c5, Hid (placesV b l n = .agg #[.int .i64 c0, .int .i64 c1, .int .i64 c2, .int .i64 c3, .int .i64 c4, .int .i64 c5, .int .i64 ((b : Int) - dataAt b l n)]) := ⟨_, _, _, _, _, _, rfl⟩
  rw [HP.out] at hN
  have hfd := fun W => field_pl W c0 c1 c2 c3 c4 c5 ((b : Int) - dataAt b l n)
  clear HP
  obtain ⟨D, HD⟩ : ∃ D, Hid (dataAt b l n = D) := ⟨_, rfl⟩
  rw [HD.out] at hN hfd
  go_enter Tryd.func10, Tryd.ntmps10
  go_wp2_with fail
  refine hN.mono ?_
  rintro e w1 ⟨rfl, hc⟩
  clear hN
  have HC : Hid (Chg 0 0 w w1) := HA.out.trans hc
  clear hc
  by_cases hD : D < b
  · have hd : (1 : Int) ≤ (b : Int) - (D : Int) := by omega
    go_wp2
    go_ret
    exact ⟨by rw [HD.out, decide_eq_true hD]; rfl, HC.out⟩
  · have hd : ¬ (1 : Int) ≤ (b : Int) - (D : Int) := by omega
    go_wp2
    go_ret
    exact ⟨by rw [HD.out, decide_eq_false hD, ← decide_eq_false (show ¬ (1 : Int) ≤ (b : Int) - (D : Int) by omega)]; rfl, HC.out⟩

set_option maxRecDepth 20000 in
set_option maxHeartbeats 1000000 in
theorem specValidGeometry_out (w : World) (b l n : Int) (hx : ¬ (16 ≤ l ∧ l ≤ 512 ∧ 1 ≤ n ∧ n ≤ 256 ∧ 1 ≤ b ∧ b ≤ 2048)) :
    Calls Tryd.prog 10 #[geoV b l n] w fun e w' => e = .returned (.bool false) ∧ Chg 0 0 w w' := by
  have HA : Hid (Chg 0 0 w (w.alloc (.cells #[.int .i64 b, .int .i64 l, .int .i64 n] 29))) := Chg.alloc (Chg.refl 0 0 w) _
  by_cases e1 : l < 16
  · clear hx
    go_enter Tryd.func10, Tryd.ntmps10
    go_wp2
    go_ret
    exact ⟨rfl, HA.out⟩
  by_cases e2 : 512 < l
  · clear hx
    go_enter Tryd.func10, Tryd.ntmps10
    go_wp2
    go_ret
    exact ⟨rfl, HA.out⟩
  by_cases e3 : n < 1
  · clear hx
    go_enter Tryd.func10, Tryd.ntmps10
    go_wp2
    go_ret
    exact ⟨rfl, HA.out⟩
  by_cases e4 : 256 < n
  · clear hx
    go_enter Tryd.func10, Tryd.ntmps10
    go_wp2
    go_ret
    exact ⟨rfl, HA.out⟩
  by_cases e5 : b < 1
  · clear hx
    go_enter Tryd.func10, Tryd.ntmps10
    go_wp2
    go_ret
    exact ⟨rfl, HA.out⟩
  have e6 : 2048 < b := by omega
  clear hx
  go_enter Tryd.func10, Tryd.ntmps10
  go_wp2
  go_ret
  exact ⟨rfl, HA.out⟩

theorem specValidGeometry_calls (w : World) (b l n : Int) :
    Calls Tryd.prog 10 #[geoV b l n] w fun e w' => e = .returned (.bool (geoB b l n)) ∧ Chg 0 0 w w' := by
  by_cases h : GeoIn b l n
  · obtain ⟨h1, h2, h3, h4, h5, h6⟩ := id h
    obtain ⟨p, rfl⟩ : ∃ p : Nat, b = p := ⟨b.toNat, by omega⟩
    obtain ⟨q, rfl⟩ : ∃ q : Nat, l = q := ⟨l.toNat, by omega⟩
    obtain ⟨r, rfl⟩ : ∃ r : Nat, n = r := ⟨n.toNat, by omega⟩
    rw [geoB_in h]
    exact specValidGeometry_in w p q r (by omega) (by omega) (by omega) (by omega) (by omega) (by omega)
  · rw [geoB_out h]
    exact specValidGeometry_out w b l n h

theorem geo3 {w : World} {s : Nat} {a b c : Value} {t : TypeId} (h : w.heap[s]? = some (.cells #[a, b, c] t (0, 0))) :
    w.cell? ⟨s, 0, none⟩ = some a ∧ w.cell? ⟨s, 1, none⟩ = some b ∧ w.cell? ⟨s, 2, none⟩ = some c := by
  simp [World.cell?, h]
theorem seven_all {w : World} {s : Nat} {a b c d e f g : Value} {t : TypeId} (h : w.heap[s]? = some (.cells #[a, b, c, d, e, f, g] t (0, 0))) :
    (w.cell? ⟨s, 0, none⟩ = some a ∧ w.cell? ⟨s, 1, none⟩ = some b ∧ w.cell? ⟨s, 2, none⟩ = some c ∧ w.cell? ⟨s, 3, none⟩ = some d ∧ w.cell? ⟨s, 4, none⟩ = some e ∧ w.cell? ⟨s, 5, none⟩ = some f ∧ w.cell? ⟨s, 6, none⟩ = some g) ∧
      w.frozen? ⟨s, 0, none⟩ = false ∧ w.frozen? ⟨s, 1, none⟩ = false ∧ w.frozen? ⟨s, 2, none⟩ = false ∧ w.frozen? ⟨s, 3, none⟩ = false ∧ w.frozen? ⟨s, 4, none⟩ = false ∧ w.frozen? ⟨s, 5, none⟩ = false ∧ w.frozen? ⟨s, 6, none⟩ = false := by
  simp [World.cell?, World.frozen?, h]

abbrev geoO (t : TypeId) (b l n : Int) : Obj := .cells #[.int .i64 b, .int .i64 l, .int .i64 n] t
abbrev plO (t : TypeId) (a b c d e f g : Int) : Obj := .cells #[.int .i64 a, .int .i64 b, .int .i64 c, .int .i64 d, .int .i64 e, .int .i64 f, .int .i64 g] t

end Go.Proofs.YtmfkgnifkkkkiaaDoor
