/- Nodes as they are seen in memory and owned; the law's helpers over them: szNodeS, toNodeS, eqNodeS. (made by tools/mknod.py) -/
import Derived.Test.YtccmeggnkeenoaaSzB
import Derived.Deep.RegionWith
namespace Go.Proofs.Ytccmeggnkeenoaa
open Go.RowKit

structure Nod where
  p : ByteArray
  k : Int
  i : Int
  l : Int
  z : Int
  b : Int
  d : ByteArray
def Nod.none : Nod := ⟨⟨#[]⟩, 0, 0, 0, 0, 0, ⟨#[]⟩⟩
def nodC (t : Nod) : List Value := [.string t.p, .int .i64 t.k, .int .i64 t.i, .int .i64 t.l, .int .i64 t.z, .int .i64 t.b, .string t.d]
theorem nodC_len (t : Nod) : (nodC t).length = 7 := rfl

/-- The cells of one of them. -/
def NAt (w : World) (b off : Nat) (t : Nod) : Prop := ∀ j v, (nodC t)[j]? = some v → w.cell? ⟨b, off + j, none⟩ = some v
theorem NAt.all {w : World} {b off : Nat} {t : Nod} (h : NAt w b off t) :
    w.cell? ⟨b, off, none⟩ = some (.string t.p) ∧ w.cell? ⟨b, off + 1, none⟩ = some (.int .i64 t.k) ∧ w.cell? ⟨b, off + 2, none⟩ = some (.int .i64 t.i) ∧ w.cell? ⟨b, off + 3, none⟩ = some (.int .i64 t.l) ∧ w.cell? ⟨b, off + 4, none⟩ = some (.int .i64 t.z) ∧ w.cell? ⟨b, off + 5, none⟩ = some (.int .i64 t.b) ∧ w.cell? ⟨b, off + 6, none⟩ = some (.string t.d) :=
  ⟨h 0 _ rfl, h 1 _ rfl, h 2 _ rfl, h 3 _ rfl, h 4 _ rfl, h 5 _ rfl, h 6 _ rfl⟩
theorem NAt.mk {w : World} {b off : Nat} {t : Nod} (h : w.cell? ⟨b, off, none⟩ = some (.string t.p) ∧ w.cell? ⟨b, off + 1, none⟩ = some (.int .i64 t.k) ∧ w.cell? ⟨b, off + 2, none⟩ = some (.int .i64 t.i) ∧ w.cell? ⟨b, off + 3, none⟩ = some (.int .i64 t.l) ∧ w.cell? ⟨b, off + 4, none⟩ = some (.int .i64 t.z) ∧ w.cell? ⟨b, off + 5, none⟩ = some (.int .i64 t.b) ∧ w.cell? ⟨b, off + 6, none⟩ = some (.string t.d)) : NAt w b off t := by
  obtain ⟨h0, h1, h2, h3, h4, h5, h6⟩ := h
  intro j v hj
  match j, hj with
  | 0, hj => cases hj; exact h0
  | 1, hj => cases hj; exact h1
  | 2, hj => cases hj; exact h2
  | 3, hj => cases hj; exact h3
  | 4, hj => cases hj; exact h4
  | 5, hj => cases hj; exact h5
  | 6, hj => cases hj; exact h6
  | j + 7, hj => cases hj
def NView (w : World) (lo hi : Nat) (v : Value) (ts : List Nod) : Prop :=
  ∃ ao cap, v = .slice ao ts.length cap ∧ ts.length ≤ 9223372036854775807 ∧ ts.length ≤ cap ∧
    (ts = [] ∨ ∃ b off, ao = some ⟨b, off, none⟩ ∧ lo ≤ b ∧ b < hi ∧ ∀ i, i < ts.length → NAt w b (off + i * 7) (ts.getD i Nod.none))

theorem NAt.chg {w w' : World} {l r b off : Nat} {t : Nod} (h : NAt w b off t) (c : Chg l r w w') (d : b < l ∨ r ≤ b) : NAt w' b off t := fun j v hj => c.cell (h j v hj) d
theorem NView.chg {w w' : World} {lo hi l r : Nat} {v : Value} {ts : List Nod} (h : NView w lo hi v ts) (c : Chg l r w w') (d : hi ≤ l ∨ r ≤ lo ∨ r ≤ l) : NView w' lo hi v ts := by
  obtain ⟨ao, cap, hv, h1, h2, h3⟩ := h
  refine ⟨ao, cap, hv, h1, h2, ?_⟩
  rcases h3 with h3 | ⟨b, off, hao, hb, hb', h3⟩
  · exact Or.inl h3
  · exact Or.inr ⟨b, off, hao, hb, hb', fun i hi => (h3 i hi).chg c (by omega)⟩
theorem NView.slice {w : World} {lo hi : Nat} {v : Value} {ts : List Nod} (h : NView w lo hi v ts) : ∃ ao cap, v = .slice ao ts.length cap := by
  obtain ⟨ao, cap, rfl, _⟩ := h; exact ⟨ao, cap, rfl⟩
theorem NView.nil (w : World) (lo hi : Nat) : NView w lo hi (.slice none 0 0) [] := ⟨none, 0, rfl, by simp, by simp, Or.inl rfl⟩

/-- Owned. -/
def cellsN (ts : List Nod) : List Value := ts.flatMap nodC
theorem cellsN_len (ts : List Nod) : (cellsN ts).length = ts.length * 7 := by
  unfold cellsN
  induction ts with
  | nil => rfl
  | cons t r ih => rw [List.flatMap_cons, List.length_append, ih, List.length_cons, nodC_len]; omega
theorem cellsN_get (ts : List Nod) : ∀ i, i < ts.length → ∀ j, j < 7 → (cellsN ts)[i * 7 + j]? = (nodC (ts.getD i Nod.none))[j]? := by
  unfold cellsN
  induction ts with
  | nil => intro i h; simp at h
  | cons t r ih =>
    intro i hi j hj
    rw [List.flatMap_cons]
    cases i with
    | zero => rw [List.getElem?_append_left (by rw [nodC_len]; omega)]; simp
    | succ i =>
      have := ih i (by simpa using hi) j hj
      rw [List.getElem?_append_right (by rw [nodC_len]; omega), nodC_len, show (i + 1) * 7 + j - 7 = i * 7 + j by omega, this]
      simp
theorem cellsN_set (ts : List Nod) : ∀ i t, i < ts.length → (((((((cellsN ts).set (i * 7) (.string t.p)).set (i * 7 + 1) (.int .i64 t.k)).set (i * 7 + 2) (.int .i64 t.i)).set (i * 7 + 3) (.int .i64 t.l)).set (i * 7 + 4) (.int .i64 t.z)).set (i * 7 + 5) (.int .i64 t.b)).set (i * 7 + 6) (.string t.d) = cellsN (ts.set i t) := by
  unfold cellsN
  induction ts with
  | nil => intro i t h; simp at h
  | cons u r ih =>
    intro i t hi
    cases i with
    | zero => simp [nodC]
    | succ j =>
      have := ih j t (by simpa using hi)
      rw [show (j + 1) * 7 = j * 7 + 7 by omega]
      simp only [List.flatMap_cons, List.set_cons_succ, nodC, List.cons_append, List.nil_append, Nat.add_right_comm _ 7, ← this]

def OwnN (w : World) (base : Nat) (e : TypeId) (v : Value) (ts : List Nod) : Prop := w.ownsRow base e 7 v ts.length (cellsN ts)
theorem OwnN.lt {w : World} {base : Nat} {e : TypeId} {v : Value} {ts : List Nod} (h : OwnN w base e v ts) : ∀ g, v.ownBlock = some g → base ≤ g ∧ g < w.heap.size := World.ownsRow.lt h
theorem OwnN.chg {w w' : World} {base l r : Nat} {e : TypeId} {v : Value} {ts : List Nod} (h : OwnN w base e v ts) (c : Chg l r w w') (d : ∀ g, v.ownBlock = some g → g < l ∨ r ≤ g) : OwnN w' base e v ts := by
  obtain ⟨h1, h2⟩ := h
  refine ⟨h1, ?_⟩
  rcases h2 with h2 | ⟨g, cap, cur, hv, hg, hh, r⟩
  · exact Or.inl h2
  · refine Or.inr ⟨g, cap, cur, hv, hg, ?_, r⟩
    rw [c.block g (Array.getElem?_eq_some_iff.1 hh).1 (d g (by rw [hv]; rfl))]; exact hh
theorem OwnN.view {w : World} {base : Nat} {e : TypeId} {v : Value} {ts : List Nod} (h : OwnN w base e v ts) (hl : ts.length ≤ 9223372036854775807) {hi : Nat} (hb : ∀ g, v.ownBlock = some g → g < hi) : NView w base hi v ts := by
  have h' := h
  obtain ⟨_, h2⟩ := h
  rcases h2 with ⟨rfl, h0⟩ | ⟨g, cap, cur, rfl, hg, hh, hc, hm, hs, ht⟩
  · obtain rfl : ts = [] := List.eq_nil_of_length_eq_zero h0
    exact NView.nil _ _ _
  · refine ⟨_, cap, rfl, hl, hc, Or.inr ⟨g, 0, rfl, hg, hb g rfl, fun i hi j v hj => ?_⟩⟩
    have hj7 : j < 7 := by have := (List.getElem?_eq_some_iff.1 hj).1; rwa [nodC_len] at this
    rw [Nat.zero_add, World.ownsRow.cellAt h' (i * 7 + j) (by omega), cellsN_get ts i hi j hj7]
    exact hj

/-- How much they hold. -/
def szN (t : Nod) : Nat := t.p.size + t.d.size
def cntN (ts : List Nod) : Nat := (ts.map fun t => szN t + 1).sum
theorem cntN_ge (ts : List Nod) : ts.length ≤ cntN ts := by
  unfold cntN
  induction ts with
  | nil => simp
  | cons p r ih => simp at *; omega
theorem cntN_take_succ (ts : List Nod) (k : Nat) (h : k < ts.length) : cntN (ts.take (k + 1)) = cntN (ts.take k) + (szN (ts.getD k Nod.none) + 1) := by
  unfold cntN
  rw [List.take_succ_eq_append_getElem h, List.map_append, List.sum_append_nat]
  simp [List.getD_eq_getElem?_getD, h]
theorem cntN_split (ts : List Nod) (k : Nat) : cntN ts = cntN (ts.take k) + cntN (ts.drop k) := by
  unfold cntN; rw [← List.sum_append_nat, ← List.map_append, List.take_append_drop]
theorem cntN_rest (ts : List Nod) (k : Nat) : cntN (ts.take k) + (ts.length - k) ≤ cntN ts := by
  have h1 := cntN_split ts k
  have h2 := cntN_ge (ts.drop k)
  rw [List.length_drop] at h2
  omega

set_option maxRecDepth 20000 in
set_option maxHeartbeats 800000 in
theorem szNode_calls (w : World) (t : Nod) (left : Nat) (h1 : t.p.size ≤ 9223372036854775807) (h2 : t.d.size ≤ 9223372036854775807) (hb : left ≤ 1048576) :
    Calls Try.prog 10 #[.agg #[.string t.p, .int .i64 t.k, .int .i64 t.i, .int .i64 t.l, .int .i64 t.z, .int .i64 t.b, .string t.d], .int .i64 left] w fun e w' => e = .returned (.int .i64 (lft left (szN t))) ∧ Chg 0 0 w w' := by
  have HC : Hid (Chg 0 0 w (w.alloc (.cells #[.string t.p, .int .i64 t.k, .int .i64 t.i, .int .i64 t.l, .int .i64 t.z, .int .i64 t.b, .string t.d] 34))) := Chg.alloc (Chg.refl 0 0 w) _
  unfold szN
  by_cases h : t.p.size ≤ left
  · by_cases h' : t.d.size ≤ left - t.p.size
    · rw [lft_pos (by omega)]
      have e1 : ¬ (left : Int) - t.p.size < 0 := by omega
      have e2 : ¬ (left : Int) - t.p.size - t.d.size < 0 := by omega
      go_enter Try.func10, Try.ntmps10
      go_wp2
      go_ret
      exact ⟨ret_int (by omega), HC.out⟩
    · rw [lft_neg (by omega)]
      have e1 : ¬ (left : Int) - t.p.size < 0 := by omega
      have e2 : (left : Int) - t.p.size - t.d.size < 0 := by omega
      go_enter Try.func10, Try.ntmps10
      go_wp2
      go_ret
      exact ⟨rfl, HC.out⟩
  · rw [lft_neg (by omega)]
    have h' : (left : Int) - t.p.size < 0 := by omega
    go_enter Try.func10, Try.ntmps10
    go_wp2
    go_ret
    exact ⟨rfl, HC.out⟩

/-- Each text has a size that a text may have, each number is one. -/
structure OkN (t : Nod) : Prop where
  p : t.p.size ≤ 9223372036854775807
  d : t.d.size ≤ 9223372036854775807
  i : (Lit.int .i64 t.i).wf = true
def SizedN (ts : List Nod) : Prop := ∀ i, i < ts.length → OkN (ts.getD i Nod.none)

set_option maxRecDepth 20000 in
set_option maxHeartbeats 1000000 in
theorem szNodeS_some (w : World) (ts : List Nod) (b off cap left : Nat) (hl : ts.length ≤ 9223372036854775807) (hb : left ≤ 1048576) (hz : SizedN ts)
    (h1 : ∀ i, i < ts.length → NAt w b (off + i * 7) (ts.getD i Nod.none)) :
    Calls Try.prog 4 #[.slice (some ⟨b, off, none⟩) ts.length cap, .int .i64 left] w fun e w' => e = .returned (.int .i64 (lft left (cntN ts))) ∧ Chg 0 0 w w' := by
  have hcg := cntN_ge ts
  by_cases h0 : ts.length ≤ left
  · go_enter Try.func4, Try.ntmps4
    go_wp2
    go_loopw [1, 5] (fun q i wr => Chg 0 0 w wr ∧ ∃ k : Nat, k ≤ ts.length ∧ i = .int .i64 k ∧ ts.length + cntN (ts.take k) - k ≤ left ∧ q = .int .i64 ((left - (ts.length + cntN (ts.take k) - k) : Nat) : Int)) (fun _ i _ => ts.length - (intOf i).toNat)
    case atStart => exact ⟨Chg.refl _ _ _, 0, Nat.zero_le _, rfl, by simp [cntN]; exact h0, by simp [cntN]; omega⟩
    case round =>
      obtain ⟨hch, k, hk, rfl, hle, rfl⟩ := hrel
      by_cases hlt : k < ts.length
      · obtain ⟨c0, c1, c2, c3, c4, c5, c6⟩ := ((h1 k hlt).chg hch (by omega)).all
        have hsz := hz k hlt
        clear h1 hz
        have hcs := cntN_take_succ ts k hlt
        have hcl := cntN_rest ts (k + 1)
        have hcg2 := cntN_ge (ts.take k)
        rw [List.length_take, Nat.min_eq_left hk] at hcg2
        generalize ts.getD k Nod.none = t at *
        have hi : (k : Int) < (ts.length : Int) := by omega
        generalize cntN (ts.take k) = c at *
        have Hcs : Hid (cntN (ts.take (k + 1)) = c + (szN t + 1)) := hcs
        clear hcs
        generalize hL : left - (ts.length + c - k) = L at *
        have HL : Hid (left - (ts.length + c - k) = L) := hL
        have hLb : L ≤ 1048576 := by omega
        clear hL
        have hN := fun W => szNode_calls W t L hsz.p hsz.d hLb
        clear hsz
        go_wp2_with fail
        refine (hN _).mono ?_
        clear hN
        rintro e w1 ⟨rfl, hs⟩
        have hch' := hch.trans hs
        clear hs hch c0 c1 c2 c3 c4 c5 c6
        generalize szN t = n at *
        by_cases hn : n ≤ L
        rotate_left
        · rw [lft_neg hn]
          have hfin : ¬ cntN ts ≤ left := by have := HL.out; have := Hcs.out; omega
          go_wp2
          go_ret
          exact ⟨by rw [lft_neg hfin]; rfl, hch'⟩
        · rw [lft_pos hn]
          go_wp2
          go_roundw
          case rel => exact ⟨hch', k + 1, by omega, by go_num, by have := HL.out; have := Hcs.out; omega, by have := HL.out; have := Hcs.out; congr 1; omega⟩
          case measure => simp [intOf]; omega
      · obtain rfl : k = ts.length := by omega
        clear h1 hz
        rw [List.take_length] at *
        have hfin : cntN ts ≤ left := by omega
        go_wp2
        go_ret
        exact ⟨by rw [lft_pos hfin]; exact ret_int (by omega), hch⟩
  · have h' : (left : Int) - ts.length < 0 := by omega
    have hfin : ¬ cntN ts ≤ left := by omega
    clear h1 hz
    go_enter Try.func4, Try.ntmps4
    go_wp2
    go_ret
    exact ⟨by rw [lft_neg hfin]; rfl, Chg.refl _ _ _⟩

set_option maxRecDepth 20000 in
set_option maxHeartbeats 400000 in
theorem szNodeS_none (w : World) (ao : Option Addr) (cap left : Nat) (hb : left ≤ 1048576) :
    Calls Try.prog 4 #[.slice ao 0 cap, .int .i64 left] w fun e w' => e = .returned (.int .i64 (left : Int)) ∧ Chg 0 0 w w' := by
  go_enter Try.func4, Try.ntmps4
  go_wp2
  refine wp_loop_rounds 1 ?_; rw [rounds_succ]
  go_wp2
  go_ret
  exact ⟨rfl, Chg.refl _ _ _⟩

theorem szNodeS_calls (w : World) {lo hi : Nat} {a : Value} (ts : List Nod) (left : Nat) (hb : left ≤ 1048576) (hz : SizedN ts) (h1 : NView w lo hi a ts) :
    Calls Try.prog 4 #[a, .int .i64 left] w fun e w' => e = .returned (.int .i64 (lft left (cntN ts))) ∧ Chg 0 0 w w' := by
  obtain ⟨ao, cap, rfl, hl, _, h1⟩ := h1
  rcases h1 with rfl | ⟨x, off, rfl, _, _, h1⟩
  · exact szNodeS_none w ao cap left hb
  · exact szNodeS_some w ts x off cap left hl hb hz h1

set_option maxRecDepth 20000 in
set_option maxHeartbeats 400000 in
theorem toNode_calls (w : World) (t : Nod) :
    Calls Try.prog 12 #[.agg #[.string t.p, .int .i64 t.k, .int .i64 t.i, .int .i64 t.l, .int .i64 t.z, .int .i64 t.b, .string t.d]] w fun e w' => e = .returned (.agg #[.string t.p, .int .i64 t.k, .int .i64 t.i, .int .i64 t.l, .int .i64 t.z, .int .i64 t.b, .string t.d]) ∧ Chg 0 0 w w' := by
  go_enter Try.func12, Try.ntmps12
  go_wp2
  refine bodyPost_ret (v := .agg #[.string t.p, .int .i64 t.k, .int .i64 t.i, .int .i64 t.l, .int .i64 t.z, .int .i64 t.b, .string t.d]) (by simp [results, Try.results12, go_sem]) rfl ⟨rfl, ?_⟩
  exact ((Chg.alloc (Chg.refl 0 0 w) _).alloc _).alloc _

set_option maxRecDepth 20000 in
set_option maxHeartbeats 400000 in
theorem eqNode_calls (w : World) (t : Nod) :
    Calls Try.prog 14 #[.agg #[.string t.p, .int .i64 t.k, .int .i64 t.i, .int .i64 t.l, .int .i64 t.z, .int .i64 t.b, .string t.d], .agg #[.string t.p, .int .i64 t.k, .int .i64 t.i, .int .i64 t.l, .int .i64 t.z, .int .i64 t.b, .string t.d]] w fun e w' => e = .returned (.bool true) ∧ Chg 0 0 w w' := by
  have HC : Hid (Chg 0 0 w ((w.alloc (.cells #[.string t.p, .int .i64 t.k, .int .i64 t.i, .int .i64 t.l, .int .i64 t.z, .int .i64 t.b, .string t.d] 37)).alloc (.cells #[.string t.p, .int .i64 t.k, .int .i64 t.i, .int .i64 t.l, .int .i64 t.z, .int .i64 t.b, .string t.d] 37))) := (Chg.alloc (Chg.refl 0 0 w) _).alloc _
  obtain ⟨p, k, i, l, z, b, d⟩ := t
  have n0 : ∀ q : Int, (q != q) = false := by simp
  go_enter Try.func14, Try.ntmps14
  go_wp2
  go_ret
  exact ⟨rfl, HC.out⟩

end Go.Proofs.Ytccmeggnkeenoaa
