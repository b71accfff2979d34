/- Lists of transactions as they are seen in memory; the law's helpers over them: szTxnS, toTxnS, eqTxnS. -/
import Derived.Test.YtdddphgjiokjpaaTxnBase
import Derived.Deep.RegionWith
namespace Go.Proofs.Ytdddphgjiokjpaa
open Go.RowKit

def Tx.none : Tx := ⟨0, [], []⟩

/-- The cells of one of them. -/
def TAt (w : World) (lo hi b off : Nat) (t : Tx) : Prop := ∃ hv rv, w.cell? ⟨b, off, none⟩ = some (.int .i64 t.seq) ∧ w.cell? ⟨b, off + 1, none⟩ = some hv ∧ w.cell? ⟨b, off + 2, none⟩ = some rv ∧
  PView w lo hi hv t.homes ∧ View w lo hi .i64 rv t.revs

def TSView (w : World) (lo hi : Nat) (v : Value) (ts : List Tx) : Prop :=
  ∃ ao cap, v = .slice ao ts.length cap ∧ ts.length ≤ 9223372036854775807 ∧ ts.length ≤ cap ∧
    (ts = [] ∨ ∃ b off, ao = some ⟨b, off, none⟩ ∧ lo ≤ b ∧ b < hi ∧ ∀ i, i < ts.length → TAt w lo hi b (off + i * 3) (ts.getD i Tx.none))

theorem TAt.chg {w w' : World} {lo hi l r b off : Nat} {t : Tx} (h : TAt w lo hi b off t) (c : Chg l r w w') (hb : lo ≤ b) (hb' : b < hi) (d : hi ≤ l ∨ r ≤ lo ∨ r ≤ l) : TAt w' lo hi b off t := by
  obtain ⟨hv, rv, a0, a1, a2, p, v⟩ := h
  exact ⟨hv, rv, c.cell a0 (by show b < l ∨ r ≤ b; omega), c.cell a1 (by show b < l ∨ r ≤ b; omega), c.cell a2 (by show b < l ∨ r ≤ b; omega), p.chg c d, v.chg c d⟩

theorem TSView.chg {w w' : World} {lo hi l r : Nat} {v : Value} {ts : List Tx} (h : TSView w lo hi v ts) (c : Chg l r w w') (d : hi ≤ l ∨ r ≤ lo ∨ r ≤ l) : TSView w' lo hi v ts := by
  obtain ⟨ao, cap, hv, h1, h2, h3⟩ := h
  refine ⟨ao, cap, hv, h1, h2, ?_⟩
  rcases h3 with h3 | ⟨b, off, hao, hb, hb', h3⟩
  · exact Or.inl h3
  · exact Or.inr ⟨b, off, hao, hb, hb', fun i hi => (h3 i hi).chg c hb hb' d⟩

theorem TSView.slice {w : World} {lo hi : Nat} {v : Value} {ts : List Tx} (h : TSView w lo hi v ts) : ∃ ao cap, v = .slice ao ts.length cap := by
  obtain ⟨ao, cap, rfl, _⟩ := h; exact ⟨ao, cap, rfl⟩
theorem TSView.nil (w : World) (lo hi : Nat) : TSView w lo hi (.slice none 0 0) [] := ⟨none, 0, rfl, by simp, by simp, Or.inl rfl⟩

/-- How much they hold. -/
def cntTS (ts : List Tx) : Nat := (ts.map fun t => cntT t + 1).sum

theorem cntTS_ge (ts : List Tx) : ts.length ≤ cntTS ts := by
  unfold cntTS
  induction ts with
  | nil => simp
  | cons p r ih => simp at *; omega

theorem cntTS_take_succ (ts : List Tx) (k : Nat) (h : k < ts.length) : cntTS (ts.take (k + 1)) = cntTS (ts.take k) + (cntT (ts.getD k Tx.none) + 1) := by
  unfold cntTS
  rw [List.take_succ_eq_append_getElem h, List.map_append, List.sum_append_nat]
  simp [List.getD_eq_getElem?_getD, h]

theorem cntTS_split (ts : List Tx) (k : Nat) : cntTS ts = cntTS (ts.take k) + cntTS (ts.drop k) := by
  unfold cntTS; rw [← List.sum_append_nat, ← List.map_append, List.take_append_drop]
theorem cntTS_take_le (ts : List Tx) (k : Nat) : cntTS (ts.take k) ≤ cntTS ts := by
  have := cntTS_split ts k; omega
theorem cntTS_rest (ts : List Tx) (k : Nat) : cntTS (ts.take k) + (ts.length - k) ≤ cntTS ts := by
  have h1 := cntTS_split ts k
  have h2 := cntTS_ge (ts.drop k)
  rw [List.length_drop] at h2
  omega
theorem cntT_le {ts : List Tx} {k : Nat} (h : k < ts.length) : cntT (ts.getD k Tx.none) ≤ cntTS ts := by
  have := cntTS_take_succ ts k h; have := cntTS_take_le ts (k + 1); omega

set_option maxRecDepth 20000 in
set_option maxHeartbeats 1000000 in
theorem szTxnS_some (w : World) (ts : List Tx) (lo hi b off cap left : Nat) (hl : ts.length ≤ 9223372036854775807) (hb : left ≤ 1048576)
    (h1 : ∀ i, i < ts.length → TAt w lo hi b (off + i * 3) (ts.getD i Tx.none)) :
    Calls Try.prog 4 #[.slice (some ⟨b, off, none⟩) ts.length cap, .int .i64 left] w fun e w' => e = .returned (.int .i64 (lft left (cntTS ts))) ∧ Chg 0 0 w w' := by
  have hcg := cntTS_ge ts
  by_cases h0 : ts.length ≤ left
  · go_enter Try.func4, Try.ntmps4
    go_wp2
    go_loopw [1, 5] (fun q i wr => Chg 0 0 w wr ∧ ∃ k : Nat, k ≤ ts.length ∧ i = .int .i64 k ∧ ts.length + cntTS (ts.take k) - k ≤ left ∧ q = .int .i64 ((left - (ts.length + cntTS (ts.take k) - k) : Nat) : Int)) (fun _ i _ => ts.length - (intOf i).toNat)
    case atStart => exact ⟨Chg.refl _ _ _, 0, Nat.zero_le _, rfl, by simp [cntTS]; exact h0, by simp [cntTS]; omega⟩
    case round =>
      obtain ⟨hch, k, hk, rfl, hle, rfl⟩ := hrel
      by_cases hlt : k < ts.length
      · obtain ⟨hv, rv, c1, c2, c3, p1, v1⟩ := h1 k hlt
        clear h1
        have hcs := cntTS_take_succ ts k hlt
        have hcl := cntTS_rest ts (k + 1)
        have hcg2 := cntTS_ge (ts.take k)
        rw [List.length_take, Nat.min_eq_left hk] at hcg2
        have tv : TView wr lo hi (.agg #[.int .i64 (ts.getD k Tx.none).seq, hv, rv]) (ts.getD k Tx.none) := ⟨hv, rv, rfl, p1.chg hch (by omega), v1.chg hch (by omega)⟩
        generalize ts.getD k Tx.none = t at *
        have c1 := hch.cell c1 (by omega)
        have c2 := hch.cell c2 (by omega)
        have c3 := hch.cell c3 (by omega)
        have hi : (k : Int) < (ts.length : Int) := by omega
        generalize cntTS (ts.take k) = c at *
        have Hcs : Hid (cntTS (ts.take (k + 1)) = c + (cntT t + 1)) := hcs
        clear hcs p1 v1
        generalize hL : left - (ts.length + c - k) = L at *
        have HL : Hid (left - (ts.length + c - k) = L) := hL
        have hLb : L ≤ 1048576 := by omega
        clear hL
        go_wp2_with fail
        refine (szTxn_calls _ t L hLb tv).mono ?_
        rintro e w1 ⟨rfl, hs⟩
        have hch' := hch.trans hs
        clear hs hch c1 c2 c3 tv
        generalize cntT t = n at *
        by_cases hn : n ≤ L
        · rw [lft_pos hn]
          go_wp2
          go_roundw
          case rel => exact ⟨hch', k + 1, by omega, by go_num, by have := HL.out; have := Hcs.out; omega, by have := HL.out; have := Hcs.out; congr 1; omega⟩
          case measure => simp [intOf]; omega
        · rw [lft_neg hn]
          have hfin : ¬ cntTS ts ≤ left := by have := HL.out; have := Hcs.out; omega
          go_wp2
          go_ret
          exact ⟨by rw [lft_neg hfin]; rfl, hch'⟩
      · obtain rfl : k = ts.length := by omega
        clear h1
        rw [List.take_length] at *
        have hfin : cntTS ts ≤ left := by omega
        go_wp2
        go_ret
        exact ⟨by rw [lft_pos hfin]; exact ret_int (by omega), hch⟩
  · have h' : (left : Int) - ts.length < 0 := by omega
    have hfin : ¬ cntTS ts ≤ left := by omega
    clear h1
    go_enter Try.func4, Try.ntmps4
    go_wp2
    go_ret
    exact ⟨by rw [lft_neg hfin]; rfl, Chg.refl _ _ _⟩

set_option maxRecDepth 20000 in
set_option maxHeartbeats 400000 in
theorem szTxnS_none (w : World) (ao : Option Addr) (cap left : Nat) (hb : left ≤ 1048576) :
    Calls Try.prog 4 #[.slice ao 0 cap, .int .i64 left] w fun e w' => e = .returned (.int .i64 (left : Int)) ∧ Chg 0 0 w w' := by
  go_enter Try.func4, Try.ntmps4
  go_wp2
  refine wp_loop_rounds 1 ?_; rw [rounds_succ]
  go_wp2
  go_ret
  exact ⟨rfl, Chg.refl _ _ _⟩

theorem szTxnS_calls (w : World) {lo hi : Nat} {a : Value} (ts : List Tx) (left : Nat) (hb : left ≤ 1048576) (h1 : TSView w lo hi a ts) :
    Calls Try.prog 4 #[a, .int .i64 left] w fun e w' => e = .returned (.int .i64 (lft left (cntTS ts))) ∧ Chg 0 0 w w' := by
  obtain ⟨ao, cap, rfl, hl, _, h1⟩ := h1
  rcases h1 with rfl | ⟨x, off, rfl, _, _, h1⟩
  · exact szTxnS_none w ao cap left hb
  · exact szTxnS_some w ts lo hi x off cap left hl hb h1

/-- A row of which the first k are there. -/
def TRow (w : World) (g n k : Nat) (ts : List Tx) : Prop :=
  ∃ cells, w.ownsRow g 37 3 (.slice (some ⟨g, 0, none⟩) n n) n cells ∧ ∀ i, i < k → ∃ hv rv, cells[i * 3]? = some (.int .i64 (ts.getD i Tx.none).seq) ∧ cells[i * 3 + 1]? = some hv ∧ cells[i * 3 + 2]? = some rv ∧
    PView w (g + 1) w.heap.size hv (ts.getD i Tx.none).homes ∧ View w (g + 1) w.heap.size .i64 rv (ts.getD i Tx.none).revs

theorem TRow.chg {w w' : World} {g n k : Nat} {ts : List Tx} (h : TRow w g n k ts) (c : Chg 0 0 w w') : TRow w' g n k ts := by
  obtain ⟨cells, ⟨h1, h2⟩, h3⟩ := h
  refine ⟨cells, ⟨h1, ?_⟩, fun i hi => ?_⟩
  · rcases h2 with h2 | ⟨g', cap, cur, hv, hg, hh, r⟩
    · exact Or.inl h2
    · refine Or.inr ⟨g', cap, cur, hv, hg, ?_, r⟩
      rw [c.block g' (Array.getElem?_eq_some_iff.1 hh).1 (by omega)]; exact hh
  · obtain ⟨hv, rv, a0, a1, a2, p, v⟩ := h3 i hi
    have := c.size
    exact ⟨hv, rv, a0, a1, a2, (p.chg c (by omega)).mono (by omega) (by omega), (v.chg c (by omega)).mono (by omega) (by omega)⟩

theorem TRow.put {w : World} {g n k : Nat} {ts : List Tx} {hv rv : Value} (h : TRow w g n k ts) (hk : k < n) (p : PView w (g + 1) w.heap.size hv (ts.getD k Tx.none).homes) (v : View w (g + 1) w.heap.size .i64 rv (ts.getD k Tx.none).revs) :
    TRow (((w.setCell ⟨g, k * 3, none⟩ (.int .i64 (ts.getD k Tx.none).seq)).setCell ⟨g, k * 3 + 1, none⟩ hv).setCell ⟨g, k * 3 + 2, none⟩ rv) g n (k + 1) ts := by
  obtain ⟨cells, hr, h3⟩ := h
  have hlen : cells.length = n * 3 := hr.1
  have C : Chg g (g + 1) w (((w.setCell ⟨g, k * 3, none⟩ (.int .i64 (ts.getD k Tx.none).seq)).setCell ⟨g, k * 3 + 1, none⟩ hv).setCell ⟨g, k * 3 + 2, none⟩ rv) := by
    refine Chg.setCell (Chg.setCell (Chg.setCell (Chg.refl _ _ _) ?_ _) ?_ _) ?_ _ <;> exact Or.inl ⟨Nat.le_refl _, Nat.lt_succ_self _⟩
  have hs : (((w.setCell ⟨g, k * 3, none⟩ (.int .i64 (ts.getD k Tx.none).seq)).setCell ⟨g, k * 3 + 1, none⟩ hv).setCell ⟨g, k * 3 + 2, none⟩ rv).heap.size = w.heap.size := by simp [World.setCell]
  refine ⟨_, (World.ownsRow.stored (World.ownsRow.stored (World.ownsRow.stored hr (k * 3) (.int .i64 (ts.getD k Tx.none).seq)).1 (k * 3 + 1) hv).1 (k * 3 + 2) rv).1, fun i hi => ?_⟩
  rw [hs]
  by_cases e : i = k
  · subst e
    refine ⟨hv, rv, ?_, ?_, ?_, p.chg C (by omega), v.chg C (by omega)⟩
    · rw [List.getElem?_set_ne (by omega), List.getElem?_set_ne (by omega), List.getElem?_set_self (by omega)]
    · rw [List.getElem?_set_ne (by omega), List.getElem?_set_self (by simp; omega)]
    · rw [List.getElem?_set_self (by simp; omega)]
  · obtain ⟨hv', rv', a0, a1, a2, p', v'⟩ := h3 i (by omega)
    refine ⟨hv', rv', ?_, ?_, ?_, p'.chg C (by omega), v'.chg C (by omega)⟩
    · rw [List.getElem?_set_ne (by omega), List.getElem?_set_ne (by omega), List.getElem?_set_ne (by omega)]; exact a0
    · rw [List.getElem?_set_ne (by omega), List.getElem?_set_ne (by omega), List.getElem?_set_ne (by omega)]; exact a1
    · rw [List.getElem?_set_ne (by omega), List.getElem?_set_ne (by omega), List.getElem?_set_ne (by omega)]; exact a2

theorem TRow.done {w : World} {g : Nat} {ts : List Tx} (h : TRow w g ts.length ts.length ts) (hl : ts.length ≤ 1048576) : TSView w g w.heap.size (.slice (some ⟨g, 0, none⟩) ts.length ts.length) ts := by
  obtain ⟨cells, hr, h3⟩ := h
  refine ⟨_, _, rfl, by omega, Nat.le_refl _, ?_⟩
  by_cases e : ts = []
  · exact Or.inl e
  have hp : 0 < ts.length := List.length_pos_iff.2 e
  refine Or.inr ⟨g, 0, rfl, Nat.le_refl _, (World.ownsRow.lt hr g rfl).2, fun i hi => ?_⟩
  obtain ⟨hv, rv, a0, a1, a2, p, v⟩ := h3 i hi
  refine ⟨hv, rv, ?_, ?_, ?_, p.mono (by omega) (by omega), v.mono (by omega) (by omega)⟩
  · rw [Nat.zero_add, World.ownsRow.cellAt hr (i * 3) (by omega)]; exact a0
  · rw [Nat.zero_add, World.ownsRow.cellAt hr (i * 3 + 1) (by omega)]; exact a1
  · rw [Nat.zero_add, World.ownsRow.cellAt hr (i * 3 + 2) (by omega)]; exact a2

theorem Try.infoT : (Try.prog.info? 37).map (fun i => (i.zero, i.size, i.bytes)) = some (some (.agg #[.int .i64 0, .slice none 0 0, .slice none 0 0]), 3, 56) := by kernel_rfl

set_option maxRecDepth 20000 in
set_option maxHeartbeats 1000000 in
theorem toTxnS_some (w : World) (ts : List Tx) (lo hi b off cap : Nat) (hl : cntTS ts ≤ 1048576) (h1 : ∀ i, i < ts.length → TAt w lo hi b (off + i * 3) (ts.getD i Tx.none)) :
    Calls Try.prog 6 #[.slice (some ⟨b, off, none⟩) ts.length cap] w fun e w' => ∃ v, e = .returned v ∧ TSView w' w.heap.size w'.heap.size v ts ∧ Chg 0 0 w w' := by
  obtain ⟨ii, hii, hz0, hz1, hz2⟩ := info_parts Try.infoT
  have hlp := cntTS_ge ts
  go_enter Try.func6, Try.ntmps6
  go_wp2_with (at_make; refine wpList_make_full _ rfl _ _ 25 rfl w.heap.size 37 ii (.agg #[.int .i64 0, .slice none 0 0, .slice none 0 0]) 3 Try.underlying25 hii hz0 hz1 _ _ _ _ ts.length rfl rfl rfl rfl (by rw [hz2]; omega) (by unfold maxLen; omega) (by simp) ?_)
  intro w1 hown hgrow
  have hch : Chg 0 0 w w1 := Chg.ofGrown hgrow (by simp)
  have hO : TRow w1 w.heap.size ts.length 0 ts := ⟨_, hown, fun i h => absurd h (Nat.not_lt_zero i)⟩
  clear hown hgrow
  go_wp2
  go_loopw [4] (fun i wr => ∃ k : Nat, k ≤ ts.length ∧ i = .int .i64 k ∧ TRow wr w.heap.size ts.length k ts ∧ Chg 0 0 w wr) (fun i _ => ts.length - (intOf i).toNat)
  case atStart => exact ⟨0, Nat.zero_le _, rfl, hO, hch⟩
  case round =>
    obtain ⟨k, hk, rfl, hown, hc⟩ := hrel
    clear hO hch
    by_cases hlt : k < ts.length
    · obtain ⟨hv, rv, c1, c2, c3, p1, v1⟩ := h1 k hlt
      clear h1
      have hxl : cntT (ts.getD k Tx.none) ≤ 1048576 := Nat.le_trans (cntT_le hlt) hl
      have tv : TView wr lo hi (.agg #[.int .i64 (ts.getD k Tx.none).seq, hv, rv]) (ts.getD k Tx.none) := ⟨hv, rv, rfl, p1.chg hc (by omega), v1.chg hc (by omega)⟩
      have c1 := hc.cell c1 (by omega)
      have c2 := hc.cell c2 (by omega)
      have c3 := hc.cell c3 (by omega)
      have hik : (k : Int) < (ts.length : Int) := by omega
      obtain ⟨t, HT⟩ : ∃ t, Hid (ts.getD k Tx.none = t) := ⟨_, rfl⟩
      rw [HT.out] at c1 tv hxl
      clear p1 v1
      go_wp2_with fail
      refine (toTxn_calls _ hxl tv).mono ?_
      rintro e w2 ⟨xv, rfl, xt, hs⟩
      obtain ⟨hv', rv', rfl, p2, v2⟩ := xt
      obtain ⟨xo, xcap, rfl⟩ := p2.slice
      obtain ⟨yo, ycap, rfl⟩ := v2.slice
      have hsz := hs.size
      have hlow := hc.size
      have hown2 := hown.chg hs
      have hgl : w.heap.size < wr.heap.size := by obtain ⟨_, hr, _⟩ := hown; exact (World.ownsRow.lt hr _ rfl).2
      have hp := hown2.put hlt (by rw [HT.out]; exact p2.mono (by omega) (by omega)) (by rw [HT.out]; exact v2.mono (by omega) (by omega))
      rw [HT.out] at hp
      obtain ⟨cells, hrow2, _⟩ := hown2
      have hcl : cells.length = ts.length * 3 := hrow2.1
      obtain ⟨u0, e0⟩ : ∃ u, w2.cell? ⟨w.heap.size, k * 3, none⟩ = some u := ⟨_, (World.ownsRow.cellAt hrow2 (k * 3) (by omega)).trans (List.getElem?_eq_getElem (by omega))⟩
      obtain ⟨u1, e1⟩ : ∃ u, w2.cell? ⟨w.heap.size, k * 3 + 1, none⟩ = some u := ⟨_, (World.ownsRow.cellAt hrow2 (k * 3 + 1) (by omega)).trans (List.getElem?_eq_getElem (by omega))⟩
      obtain ⟨u2, e2⟩ : ∃ u, w2.cell? ⟨w.heap.size, k * 3 + 2, none⟩ = some u := ⟨_, (World.ownsRow.cellAt hrow2 (k * 3 + 2) (by omega)).trans (List.getElem?_eq_getElem (by omega))⟩
      have f0 := World.ownsRow.frozenAt hrow2 (k * 3)
      have f1 := World.ownsRow.frozenAt hrow2 (k * 3 + 1)
      have f2 := World.ownsRow.frozenAt hrow2 (k * 3 + 2)
      have HR : Hid (TRow (((w2.setCell ⟨w.heap.size, k * 3, none⟩ (.int .i64 t.seq)).setCell ⟨w.heap.size, k * 3 + 1, none⟩ (.slice xo t.homes.length xcap)).setCell ⟨w.heap.size, k * 3 + 2, none⟩ (.slice yo t.revs.length ycap)) w.heap.size ts.length (k + 1) ts) := hp
      have HR2 : Hid (Chg 0 0 w (((w2.setCell ⟨w.heap.size, k * 3, none⟩ (.int .i64 t.seq)).setCell ⟨w.heap.size, k * 3 + 1, none⟩ (.slice xo t.homes.length xcap)).setCell ⟨w.heap.size, k * 3 + 2, none⟩ (.slice yo t.revs.length ycap))) :=
        (((hc.trans hs).setCell (Or.inr (Nat.le_refl _)) _).setCell (Or.inr (Nat.le_refl _)) _).setCell (Or.inr (Nat.le_refl _)) _
      clear hp hown hrow2 hcl hs hc c1 c2 c3 tv p2 v2
      go_wp2
      go_roundw
      case rel => exact ⟨k + 1, by omega, by go_num, HR.out, HR2.out⟩
      case measure => simp [intOf]; omega
    · obtain rfl : k = ts.length := by omega
      have HR : Hid (TSView wr w.heap.size wr.heap.size (.slice (some ⟨w.heap.size, 0, none⟩) ts.length ts.length) ts) := hown.done (by omega)
      clear hown h1
      go_wp2
      go_ret
      exact ⟨_, rfl, HR.out, hc⟩

set_option maxRecDepth 20000 in
set_option maxHeartbeats 400000 in
theorem toTxnS_none (w : World) (ao : Option Addr) (cap : Nat) :
    Calls Try.prog 6 #[.slice ao 0 cap] w fun e w' => ∃ v, e = .returned v ∧ TSView w' w.heap.size w'.heap.size v [] ∧ Chg 0 0 w w' := by
  obtain ⟨ii, hii, hz0, hz1, hz2⟩ := info_parts Try.infoT
  go_enter Try.func6, Try.ntmps6
  go_wp2_with (at_make; refine wpList_make_full _ rfl _ _ 25 rfl w.heap.size 37 ii (.agg #[.int .i64 0, .slice none 0 0, .slice none 0 0]) 3 Try.underlying25 hii hz0 hz1 _ _ _ _ 0 rfl rfl rfl rfl (by omega) (by unfold maxLen; omega) (by simp) ?_)
  intro w1 hown hgrow
  have hch : Chg 0 0 w w1 := Chg.ofGrown hgrow (by simp)
  have HO : Hid (TSView w1 w.heap.size w1.heap.size (.slice (some ⟨w.heap.size, 0, none⟩) 0 0) []) := ⟨_, _, rfl, by simp, by simp, Or.inl rfl⟩
  clear hown hgrow
  go_wp2
  refine wp_loop_rounds 1 ?_; rw [rounds_succ]
  go_wp2
  go_ret
  exact ⟨_, rfl, HO.out, hch⟩

theorem toTxnS_calls (w : World) {lo hi : Nat} {a : Value} {ts : List Tx} (hl : cntTS ts ≤ 1048576) (h1 : TSView w lo hi a ts) :
    Calls Try.prog 6 #[a] w fun e w' => ∃ v, e = .returned v ∧ TSView w' w.heap.size w'.heap.size v ts ∧ Chg 0 0 w w' := by
  obtain ⟨ao, cap, rfl, _, _, h1⟩ := h1
  rcases h1 with rfl | ⟨x, off, rfl, _, _, h1⟩
  · exact toTxnS_none w ao cap
  · exact toTxnS_some w ts lo hi x off cap hl h1

set_option maxRecDepth 20000 in
set_option maxHeartbeats 1000000 in
theorem eqTxnS_some (w : World) (ts : List Tx) (lo hi lo' hi' b off b' off' cap cap' : Nat) (hl : ts.length ≤ 9223372036854775807)
    (h1 : ∀ i, i < ts.length → TAt w lo hi b (off + i * 3) (ts.getD i Tx.none)) (h2 : ∀ i, i < ts.length → TAt w lo' hi' b' (off' + i * 3) (ts.getD i Tx.none)) :
    Calls Try.prog 8 #[.slice (some ⟨b, off, none⟩) ts.length cap, .slice (some ⟨b', off', none⟩) ts.length cap'] w fun e w' => e = .returned (.bool true) ∧ Chg 0 0 w w' := by
  have hne : ((ts.length : Int) != (ts.length : Int)) = false := by simp
  go_enter Try.func8, Try.ntmps8
  go_wp2
  go_loopw [5] (fun i wr => Chg 0 0 w wr ∧ ∃ k : Nat, k ≤ ts.length ∧ i = .int .i64 k) (fun i _ => ts.length - (intOf i).toNat)
  case atStart => exact ⟨Chg.refl _ _ _, 0, Nat.zero_le _, rfl⟩
  case round =>
    obtain ⟨hch, k, hk, rfl⟩ := hrel
    by_cases hlt : k < ts.length
    · obtain ⟨hv, rv, c1, c2, c3, p1, v1⟩ := h1 k hlt
      obtain ⟨hv', rv', c4, c5, c6, p2, v2⟩ := h2 k hlt
      clear h1 h2
      have t1 : TView wr.drew lo hi (.agg #[.int .i64 (ts.getD k Tx.none).seq, hv, rv]) (ts.getD k Tx.none) := ⟨hv, rv, rfl, p1.chg hch.drew (by omega), v1.chg hch.drew (by omega)⟩
      have t2 : TView wr.drew lo' hi' (.agg #[.int .i64 (ts.getD k Tx.none).seq, hv', rv']) (ts.getD k Tx.none) := ⟨hv', rv', rfl, p2.chg hch.drew (by omega), v2.chg hch.drew (by omega)⟩
      generalize ts.getD k Tx.none = t at *
      have c1 := hch.cell c1 (by omega)
      have c2 := hch.cell c2 (by omega)
      have c3 := hch.cell c3 (by omega)
      have c4 := hch.cell c4 (by omega)
      have c5 := hch.cell c5 (by omega)
      have c6 := hch.cell c6 (by omega)
      have hi : (k : Int) < (ts.length : Int) := by omega
      clear p1 v1 p2 v2
      go_wp2
      go_region_with (go_at_call 13; refine (eqTxn_calls _ t1 t2).mono ?_; rintro e w1 ⟨rfl, hs⟩)
      all_goals
        have hch' : Chg 0 0 w w1 := hch.drew.trans hs
        clear hs hch
        go_wp2
        go_roundw
        case rel => exact ⟨hch', k + 1, by omega, by go_num⟩
        case measure => simp [intOf]; omega
    · clear h1 h2
      go_wp2
      go_ret
      exact ⟨rfl, hch⟩

set_option maxRecDepth 20000 in
set_option maxHeartbeats 400000 in
theorem eqTxnS_none (w : World) (ao bo : Option Addr) (cap cap' : Nat) :
    Calls Try.prog 8 #[.slice ao 0 cap, .slice bo 0 cap'] w fun e w' => e = .returned (.bool true) ∧ Chg 0 0 w w' := by
  go_enter Try.func8, Try.ntmps8
  go_wp2
  refine wp_loop_rounds 1 ?_; rw [rounds_succ]
  go_wp2
  go_ret
  exact ⟨rfl, Chg.refl _ _ _⟩

theorem eqTxnS_calls (w : World) {lo hi lo' hi' : Nat} {a b : Value} {ts : List Tx} (h1 : TSView w lo hi a ts) (h2 : TSView w lo' hi' b ts) :
    Calls Try.prog 8 #[a, b] w fun e w' => e = .returned (.bool true) ∧ Chg 0 0 w w' := by
  obtain ⟨ao, cap, rfl, hl, _, h1⟩ := h1
  obtain ⟨bo, cap', rfl, _, _, h2⟩ := h2
  rcases h1 with rfl | ⟨x, off, rfl, _, _, h1⟩
  · exact eqTxnS_none w ao bo cap cap'
  · rcases h2 with rfl | ⟨y, off', rfl, _, _, h2⟩
    · exact eqTxnS_none w _ bo cap cap'
    · exact eqTxnS_some w ts lo hi lo' hi' x off y off' cap cap' hl h1 h2

end Go.Proofs.Ytdddphgjiokjpaa
