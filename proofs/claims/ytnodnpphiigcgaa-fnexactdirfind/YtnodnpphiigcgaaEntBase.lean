/- Entries as they are seen in memory and owned; the law's helpers over them: szEntryS, toEntryS, eqEntryS. -/
import Derived.Test.YtnodnpphiigcgaaSzB
import Derived.Deep.RegionWith
namespace Go.Proofs.Ytnodnpphiigcgaa
open Go.RowKit

abbrev Ent := Int × ByteArray
def Ent.none : Ent := (0, ⟨#[]⟩)

/-- The cells of one of them. -/
def EAt (w : World) (b off : Nat) (t : Ent) : Prop := w.cell? ⟨b, off, none⟩ = some (.int .i64 t.1) ∧ w.cell? ⟨b, off + 1, none⟩ = some (.string t.2)
def EView (w : World) (lo hi : Nat) (v : Value) (ts : List Ent) : Prop :=
  ∃ ao cap, v = .slice ao ts.length cap ∧ ts.length ≤ 9223372036854775807 ∧ ts.length ≤ cap ∧
    (ts = [] ∨ ∃ b off, ao = some ⟨b, off, none⟩ ∧ lo ≤ b ∧ b < hi ∧ ∀ i, i < ts.length → EAt w b (off + i * 2) (ts.getD i Ent.none))

theorem EAt.chg {w w' : World} {l r b off : Nat} {t : Ent} (h : EAt w b off t) (c : Chg l r w w') (d : b < l ∨ r ≤ b) : EAt w' b off t := ⟨c.cell h.1 d, c.cell h.2 d⟩
theorem EView.chg {w w' : World} {lo hi l r : Nat} {v : Value} {ts : List Ent} (h : EView w lo hi v ts) (c : Chg l r w w') (d : hi ≤ l ∨ r ≤ lo ∨ r ≤ l) : EView w' lo hi v ts := by
  obtain ⟨ao, cap, hv, h1, h2, h3⟩ := h
  refine ⟨ao, cap, hv, h1, h2, ?_⟩
  rcases h3 with h3 | ⟨b, off, hao, hb, hb', h3⟩
  · exact Or.inl h3
  · exact Or.inr ⟨b, off, hao, hb, hb', fun i hi => (h3 i hi).chg c (by omega)⟩
theorem EView.slice {w : World} {lo hi : Nat} {v : Value} {ts : List Ent} (h : EView w lo hi v ts) : ∃ ao cap, v = .slice ao ts.length cap := by
  obtain ⟨ao, cap, rfl, _⟩ := h; exact ⟨ao, cap, rfl⟩
theorem EView.nil (w : World) (lo hi : Nat) : EView w lo hi (.slice none 0 0) [] := ⟨none, 0, rfl, by simp, by simp, Or.inl rfl⟩

/-- Owned. -/
def cellsE (ts : List Ent) : List Value := ts.flatMap fun t => [.int .i64 t.1, .string t.2]
theorem cellsE_len (ts : List Ent) : (cellsE ts).length = ts.length * 2 := by
  unfold cellsE
  induction ts with
  | nil => rfl
  | cons t r ih => rw [List.flatMap_cons, List.length_append, ih, List.length_cons]; simp; omega
theorem cellsE_get (ts : List Ent) : ∀ i, i < ts.length → (cellsE ts)[i * 2]? = some (.int .i64 (ts.getD i Ent.none).1) ∧ (cellsE ts)[i * 2 + 1]? = some (.string (ts.getD i Ent.none).2) := by
  unfold cellsE
  induction ts with
  | nil => intro i h; simp at h
  | cons t r ih =>
    intro i hi
    rw [List.flatMap_cons]
    cases i with
    | zero => simp
    | succ j =>
      have := ih j (by simpa using hi)
      rw [show (j + 1) * 2 = j * 2 + 2 by omega]
      simpa using this
theorem cellsE_app (a b : List Ent) : cellsE (a ++ b) = cellsE a ++ cellsE b := by unfold cellsE; rw [List.flatMap_append]
theorem cellsE_set (ts : List Ent) : ∀ i t, i < ts.length → ((cellsE ts).set (i * 2) (.int .i64 t.1)).set (i * 2 + 1) (.string t.2) = cellsE (ts.set i t) := by
  unfold cellsE
  induction ts with
  | nil => intro i t h; simp at h
  | cons u r ih =>
    intro i t hi
    cases i with
    | zero => simp
    | succ j =>
      have := ih j t (by simpa using hi)
      rw [show (j + 1) * 2 = j * 2 + 2 by omega]
      simpa using this

def OwnE (w : World) (base : Nat) (e : TypeId) (v : Value) (ts : List Ent) : Prop := w.ownsRow base e 2 v ts.length (cellsE ts)
theorem OwnE.lt {w : World} {base : Nat} {e : TypeId} {v : Value} {ts : List Ent} (h : OwnE w base e v ts) : ∀ g, v.ownBlock = some g → base ≤ g ∧ g < w.heap.size := World.ownsRow.lt h
theorem OwnE.chg {w w' : World} {base l r : Nat} {e : TypeId} {v : Value} {ts : List Ent} (h : OwnE w base e v ts) (c : Chg l r w w') (d : ∀ g, v.ownBlock = some g → g < l ∨ r ≤ g) : OwnE w' base e v ts := by
  obtain ⟨h1, h2⟩ := h
  refine ⟨h1, ?_⟩
  rcases h2 with h2 | ⟨g, cap, cur, hv, hg, hh, r⟩
  · exact Or.inl h2
  · refine Or.inr ⟨g, cap, cur, hv, hg, ?_, r⟩
    rw [c.block g (Array.getElem?_eq_some_iff.1 hh).1 (d g (by rw [hv]; rfl))]; exact hh
theorem OwnE.view {w : World} {base : Nat} {e : TypeId} {v : Value} {ts : List Ent} (h : OwnE w base e v ts) (hl : ts.length ≤ 9223372036854775807) {hi : Nat} (hb : ∀ g, v.ownBlock = some g → g < hi) : EView w base hi v ts := by
  have h' := h
  obtain ⟨_, h2⟩ := h
  rcases h2 with ⟨rfl, h0⟩ | ⟨g, cap, cur, rfl, hg, hh, hc, hm, hs, ht⟩
  · obtain rfl : ts = [] := List.eq_nil_of_length_eq_zero h0
    exact EView.nil _ _ _
  · refine ⟨_, cap, rfl, hl, hc, Or.inr ⟨g, 0, rfl, hg, hb g rfl, fun i hi => ?_⟩⟩
    have := cellsE_get ts i hi
    constructor
    · rw [Nat.zero_add, World.ownsRow.cellAt h' (i * 2) (by omega)]; exact this.1
    · rw [Nat.zero_add, World.ownsRow.cellAt h' (i * 2 + 1) (by omega)]; exact this.2

/-- How much they hold. -/
def cntE (ts : List Ent) : Nat := (ts.map fun t => t.2.size + 1).sum
theorem cntE_ge (ts : List Ent) : ts.length ≤ cntE ts := by
  unfold cntE
  induction ts with
  | nil => simp
  | cons p r ih => simp at *; omega
theorem cntE_take_succ (ts : List Ent) (k : Nat) (h : k < ts.length) : cntE (ts.take (k + 1)) = cntE (ts.take k) + ((ts.getD k Ent.none).2.size + 1) := by
  unfold cntE
  rw [List.take_succ_eq_append_getElem h, List.map_append, List.sum_append_nat]
  simp [List.getD_eq_getElem?_getD, h]
theorem cntE_split (ts : List Ent) (k : Nat) : cntE ts = cntE (ts.take k) + cntE (ts.drop k) := by
  unfold cntE; rw [← List.sum_append_nat, ← List.map_append, List.take_append_drop]
theorem cntE_take_le (ts : List Ent) (k : Nat) : cntE (ts.take k) ≤ cntE ts := by have := cntE_split ts k; omega
theorem cntE_rest (ts : List Ent) (k : Nat) : cntE (ts.take k) + (ts.length - k) ≤ cntE ts := by
  have h1 := cntE_split ts k
  have h2 := cntE_ge (ts.drop k)
  rw [List.length_drop] at h2
  omega
theorem cntE_at {ts : List Ent} {k : Nat} (h : k < ts.length) : (ts.getD k Ent.none).2.size ≤ cntE ts := by
  have := cntE_take_succ ts k h; have := cntE_take_le ts (k + 1); omega

set_option maxRecDepth 20000 in
set_option maxHeartbeats 400000 in
theorem szEntry_calls (w : World) (q : Int) (s : ByteArray) (left : Nat) (hl : s.size ≤ 9223372036854775807) (hb : left ≤ 1048576) :
    Calls Try.prog 9 #[.agg #[.int .i64 q, .string s], .int .i64 left] w fun e w' => e = .returned (.int .i64 (lft left s.size)) ∧ Chg 0 0 w w' := by
  have HC : Hid (Chg 0 0 w (w.alloc (.cells #[.int .i64 q, .string s] 31))) := Chg.alloc (Chg.refl 0 0 w) _
  by_cases h : s.size ≤ left
  · rw [lft_pos h]
    go_enter Try.func9, Try.ntmps9
    go_wp2
    go_ret
    exact ⟨ret_int (by omega), HC.out⟩
  · rw [lft_neg h]
    have h' : (left : Int) - s.size < 0 := by omega
    go_enter Try.func9, Try.ntmps9
    go_wp2
    go_ret
    exact ⟨rfl, HC.out⟩

set_option maxRecDepth 20000 in
set_option maxHeartbeats 1000000 in
theorem szEntryS_some (w : World) (ts : List Ent) (b off cap left : Nat) (hl : ts.length ≤ 9223372036854775807) (hb : left ≤ 1048576) (hz : ∀ i, i < ts.length → (ts.getD i Ent.none).2.size ≤ 9223372036854775807)
    (h1 : ∀ i, i < ts.length → EAt w b (off + i * 2) (ts.getD i Ent.none)) :
    Calls Try.prog 4 #[.slice (some ⟨b, off, none⟩) ts.length cap, .int .i64 left] w fun e w' => e = .returned (.int .i64 (lft left (cntE ts))) ∧ Chg 0 0 w w' := by
  have hcg := cntE_ge ts
  by_cases h0 : ts.length ≤ left
  · go_enter Try.func4, Try.ntmps4
    go_wp2
    go_loopw [1, 5] (fun q i wr => Chg 0 0 w wr ∧ ∃ k : Nat, k ≤ ts.length ∧ i = .int .i64 k ∧ ts.length + cntE (ts.take k) - k ≤ left ∧ q = .int .i64 ((left - (ts.length + cntE (ts.take k) - k) : Nat) : Int)) (fun _ i _ => ts.length - (intOf i).toNat)
    case atStart => exact ⟨Chg.refl _ _ _, 0, Nat.zero_le _, rfl, by simp [cntE]; exact h0, by simp [cntE]; omega⟩
    case round =>
      obtain ⟨hch, k, hk, rfl, hle, rfl⟩ := hrel
      by_cases hlt : k < ts.length
      · obtain ⟨c1, c2⟩ := h1 k hlt
        have hsz := hz k hlt
        clear h1 hz
        have hcs := cntE_take_succ ts k hlt
        have hcl := cntE_rest ts (k + 1)
        have hcg2 := cntE_ge (ts.take k)
        rw [List.length_take, Nat.min_eq_left hk] at hcg2
        generalize (ts.getD k Ent.none).1 = q at *
        generalize (ts.getD k Ent.none).2 = s at *
        have c1 := hch.cell c1 (by omega)
        have c2 := hch.cell c2 (by omega)
        have hi : (k : Int) < (ts.length : Int) := by omega
        generalize cntE (ts.take k) = c at *
        have Hcs : Hid (cntE (ts.take (k + 1)) = c + (s.size + 1)) := hcs
        clear hcs
        generalize hL : left - (ts.length + c - k) = L at *
        have HL : Hid (left - (ts.length + c - k) = L) := hL
        have hLb : L ≤ 1048576 := by omega
        clear hL
        go_wp2_with fail
        refine (szEntry_calls _ q s L hsz hLb).mono ?_
        rintro e w1 ⟨rfl, hs⟩
        have hch' := hch.trans hs
        clear hs hch c1 c2
        generalize s.size = n at *
        by_cases hn : n ≤ L
        · rw [lft_pos hn]
          go_wp2
          go_roundw
          case rel => exact ⟨hch', k + 1, by omega, by go_num, by have := HL.out; have := Hcs.out; omega, by have := HL.out; have := Hcs.out; congr 1; omega⟩
          case measure => simp [intOf]; omega
        · rw [lft_neg hn]
          have hfin : ¬ cntE ts ≤ left := by have := HL.out; have := Hcs.out; omega
          go_wp2
          go_ret
          exact ⟨by rw [lft_neg hfin]; rfl, hch'⟩
      · obtain rfl : k = ts.length := by omega
        clear h1 hz
        rw [List.take_length] at *
        have hfin : cntE ts ≤ left := by omega
        go_wp2
        go_ret
        exact ⟨by rw [lft_pos hfin]; exact ret_int (by omega), hch⟩
  · have h' : (left : Int) - ts.length < 0 := by omega
    have hfin : ¬ cntE ts ≤ left := by omega
    clear h1 hz
    go_enter Try.func4, Try.ntmps4
    go_wp2
    go_ret
    exact ⟨by rw [lft_neg hfin]; rfl, Chg.refl _ _ _⟩

set_option maxRecDepth 20000 in
set_option maxHeartbeats 400000 in
theorem szEntryS_none (w : World) (ao : Option Addr) (cap left : Nat) (hb : left ≤ 1048576) :
    Calls Try.prog 4 #[.slice ao 0 cap, .int .i64 left] w fun e w' => e = .returned (.int .i64 (left : Int)) ∧ Chg 0 0 w w' := by
  go_enter Try.func4, Try.ntmps4
  go_wp2
  refine wp_loop_rounds 1 ?_; rw [rounds_succ]
  go_wp2
  go_ret
  exact ⟨rfl, Chg.refl _ _ _⟩

/-- Each name has a size that a text may have. -/
def Sized (ts : List Ent) : Prop := ∀ i, i < ts.length → (ts.getD i Ent.none).2.size ≤ 9223372036854775807

theorem szEntryS_calls (w : World) {lo hi : Nat} {a : Value} (ts : List Ent) (left : Nat) (hb : left ≤ 1048576) (hz : Sized ts) (h1 : EView w lo hi a ts) :
    Calls Try.prog 4 #[a, .int .i64 left] w fun e w' => e = .returned (.int .i64 (lft left (cntE ts))) ∧ Chg 0 0 w w' := by
  obtain ⟨ao, cap, rfl, hl, _, h1⟩ := h1
  rcases h1 with rfl | ⟨x, off, rfl, _, _, h1⟩
  · exact szEntryS_none w ao cap left hb
  · exact szEntryS_some w ts x off cap left hl hb hz h1

set_option maxRecDepth 20000 in
set_option maxHeartbeats 400000 in
theorem toEntry_calls (w : World) (q : Int) (s : ByteArray) :
    Calls Try.prog 10 #[.agg #[.int .i64 q, .string s]] w fun e w' => e = .returned (.agg #[.int .i64 q, .string s]) ∧ Chg 0 0 w w' := by
  go_enter Try.func10, Try.ntmps10
  go_wp2
  exact bodyPost_ret (v := .agg #[.int .i64 q, .string s]) (by simp [results, Try.results10, go_sem]) rfl ⟨rfl, ((Chg.alloc (Chg.refl 0 0 w) _).alloc _).alloc _⟩

set_option maxRecDepth 20000 in
set_option maxHeartbeats 400000 in
theorem eqEntry_calls (w : World) (q : Int) (s : ByteArray) :
    Calls Try.prog 13 #[.agg #[.int .i64 q, .string s], .agg #[.int .i64 q, .string s]] w fun e w' => e = .returned (.bool true) ∧ Chg 0 0 w w' := by
  have HC : Hid (Chg 0 0 w ((w.alloc (.cells #[.int .i64 q, .string s] 32)).alloc (.cells #[.int .i64 q, .string s] 32))) := (Chg.alloc (Chg.refl 0 0 w) _).alloc _
  have n0 : (q != q) = false := by simp
  go_enter Try.func13, Try.ntmps13
  go_wp2
  go_ret
  exact ⟨rfl, HC.out⟩

end Go.Proofs.Ytnodnpphiigcgaa
