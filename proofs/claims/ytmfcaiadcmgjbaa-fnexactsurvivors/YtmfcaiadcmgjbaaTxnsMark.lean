/- Lists of transactions that are one's own: toTxnS told sharper, markTxnS. -/
import Derived.Test.YtmfcaiadcmgjbaaTxnL
import Derived.Test.YtmfcaiadcmgjbaaTxnMark
namespace Go.Proofs.Ytmfcaiadcmgjbaa
open Go.RowKit

def upd (f : Nat → Nat) (k a i : Nat) : Nat := if i = k then a else f i
theorem upd_same (f : Nat → Nat) (k a : Nat) : upd f k a k = a := if_pos rfl
theorem upd_ne {f : Nat → Nat} {k a i : Nat} (h : i ≠ k) : upd f k a i = f i := if_neg h

/-- A row of which the first k are there, each with memory of its own. -/
def TRowO (w : World) (g n k : Nat) (ts : List Tx) (lo hi : Nat → Nat) : Prop :=
  ∃ cells, w.ownsRow g 39 3 (.slice (some ⟨g, 0, none⟩) n n) n cells ∧ (∀ i, i < k → ∃ hv rv, cells[i * 3]? = some (.int .i64 (ts.getD i Tx.none).seq) ∧ cells[i * 3 + 1]? = some hv ∧ cells[i * 3 + 2]? = some rv ∧
    TOwn w (lo i) (hi i) (.agg #[.int .i64 (ts.getD i Tx.none).seq, hv, rv]) (ts.getD i Tx.none)) ∧ (∀ i, i < k → g < lo i ∧ hi i ≤ w.heap.size) ∧ (∀ i j, i < j → j < k → hi i ≤ lo j)

theorem TRowO.chg {w w' : World} {g n k : Nat} {ts : List Tx} {lo hi : Nat → Nat} (h : TRowO w g n k ts lo hi) (c : Chg 0 0 w w') : TRowO w' g n k ts lo hi := by
  obtain ⟨cells, ⟨h1, h2⟩, h3, h4, h5⟩ := h
  have := c.size
  refine ⟨cells, ⟨h1, ?_⟩, fun i hi => ?_, fun i hi => ⟨(h4 i hi).1, Nat.le_trans (h4 i hi).2 this⟩, h5⟩
  · rcases h2 with h2 | ⟨g', cap, cur, hv, hg, hh, r⟩
    · exact Or.inl h2
    · refine Or.inr ⟨g', cap, cur, hv, hg, ?_, r⟩
      rw [c.block g' (Array.getElem?_eq_some_iff.1 hh).1 (by omega)]; exact hh
  · obtain ⟨hv, rv, a0, a1, a2, t⟩ := h3 i hi
    exact ⟨hv, rv, a0, a1, a2, t.chg c (by omega)⟩

theorem TRowO.put {w : World} {g n k : Nat} {ts : List Tx} {lo hi : Nat → Nat} {hv rv : Value} (h : TRowO w g n k ts lo hi) (hk : k < n) {lo' hi' : Nat} (t : TOwn w lo' hi' (.agg #[.int .i64 (ts.getD k Tx.none).seq, hv, rv]) (ts.getD k Tx.none)) (hlo : g < lo') (hhi : hi' ≤ w.heap.size) (hall : ∀ i, i < k → hi i ≤ lo') :
    TRowO (((w.setCell ⟨g, k * 3, none⟩ (.int .i64 (ts.getD k Tx.none).seq)).setCell ⟨g, k * 3 + 1, none⟩ hv).setCell ⟨g, k * 3 + 2, none⟩ rv) g n (k + 1) ts (upd lo k lo') (upd hi k hi') := by
  obtain ⟨cells, hr, h3, h4, h5⟩ := h
  have hlen : cells.length = n * 3 := hr.1
  have C : Chg g (g + 1) w (((w.setCell ⟨g, k * 3, none⟩ (.int .i64 (ts.getD k Tx.none).seq)).setCell ⟨g, k * 3 + 1, none⟩ hv).setCell ⟨g, k * 3 + 2, none⟩ rv) := by
    refine Chg.setCell (Chg.setCell (Chg.setCell (Chg.refl _ _ _) ?_ _) ?_ _) ?_ _ <;> exact Or.inl ⟨Nat.le_refl _, Nat.lt_succ_self _⟩
  have hs : (((w.setCell ⟨g, k * 3, none⟩ (.int .i64 (ts.getD k Tx.none).seq)).setCell ⟨g, k * 3 + 1, none⟩ hv).setCell ⟨g, k * 3 + 2, none⟩ rv).heap.size = w.heap.size := by simp [World.setCell]
  refine ⟨_, (World.ownsRow.stored (World.ownsRow.stored (World.ownsRow.stored hr (k * 3) (.int .i64 (ts.getD k Tx.none).seq)).1 (k * 3 + 1) hv).1 (k * 3 + 2) rv).1, fun i hi => ?_, fun i hi => ?_, fun i j hij hj => ?_⟩
  · by_cases e : i = k
    · subst e
      refine ⟨hv, rv, ?_, ?_, ?_, ?_⟩
      · rw [List.getElem?_set_ne (by omega), List.getElem?_set_ne (by omega), List.getElem?_set_self (by omega)]
      · rw [List.getElem?_set_ne (by omega), List.getElem?_set_self (by simp; omega)]
      · rw [List.getElem?_set_self (by simp; omega)]
      · rw [upd_same, upd_same]
        exact t.chg C (by omega)
    · obtain ⟨hv', rv', a0, a1, a2, t'⟩ := h3 i (by omega)
      have := h4 i (by omega)
      refine ⟨hv', rv', ?_, ?_, ?_, ?_⟩
      · rw [List.getElem?_set_ne (by omega), List.getElem?_set_ne (by omega), List.getElem?_set_ne (by omega)]; exact a0
      · rw [List.getElem?_set_ne (by omega), List.getElem?_set_ne (by omega), List.getElem?_set_ne (by omega)]; exact a1
      · rw [List.getElem?_set_ne (by omega), List.getElem?_set_ne (by omega), List.getElem?_set_ne (by omega)]; exact a2
      · rw [upd_ne e, upd_ne e]
        exact t'.chg C (by omega)
  · rw [hs]
    by_cases e : i = k
    · rw [e, upd_same, upd_same]; exact ⟨hlo, hhi⟩
    · rw [upd_ne e, upd_ne e]; exact h4 i (by omega)
  · by_cases e : j = k
    · rw [e, upd_same, upd_ne (by omega)]; exact hall i (by omega)
    · rw [upd_ne e, upd_ne (by omega)]; exact h5 i j hij (by omega)

theorem TRowO.view {w : World} {g : Nat} {ts : List Tx} {lo hi : Nat → Nat} (h : TRowO w g ts.length ts.length ts lo hi) (hl : cntTS ts ≤ 1048576) : TSView w g w.heap.size (.slice (some ⟨g, 0, none⟩) ts.length ts.length) ts := by
  obtain ⟨cells, hr, h3, h4, _⟩ := h
  have := cntTS_ge ts
  refine ⟨_, _, rfl, by omega, Nat.le_refl _, ?_⟩
  by_cases e : ts = []
  · exact Or.inl e
  have hp : 0 < ts.length := List.length_pos_iff.2 e
  refine Or.inr ⟨g, 0, rfl, Nat.le_refl _, (World.ownsRow.lt hr g rfl).2, fun i hi => ?_⟩
  obtain ⟨hv, rv, a0, a1, a2, hv2, rv2, cells2, dvs, eq, h1, h2, _⟩ := h3 i hi
  obtain ⟨rfl, rfl⟩ : hv = hv2 ∧ rv = rv2 := by simpa using eq
  have hc : cntT (ts.getD i Tx.none) ≤ 1048576 := Nat.le_trans (cntT_le hi) hl
  unfold cntT at hc
  have hg := (h4 i hi).1
  refine ⟨hv, rv, ?_, ?_, ?_, (h1.pview (by omega)).mono (by omega) (Nat.le_refl _), (h2.view (by omega) (fun g hg => (h2.lt g hg).2)).mono (by omega) (Nat.le_refl _)⟩
  · rw [Nat.zero_add, World.ownsRow.cellAt hr (i * 3) (by omega)]; exact a0
  · rw [Nat.zero_add, World.ownsRow.cellAt hr (i * 3 + 1) (by omega)]; exact a1
  · rw [Nat.zero_add, World.ownsRow.cellAt hr (i * 3 + 2) (by omega)]; exact a2

/-- What toTxnS hands back. -/
def TsAns (w w' : World) (ts : List Tx) (e : Ending) : Prop := e = .returned (.slice (some ⟨w.heap.size, 0, none⟩) ts.length ts.length) ∧ (∃ l h, TRowO w' w.heap.size ts.length ts.length ts l h) ∧ Chg 0 0 w w'

set_option maxRecDepth 20000 in
set_option maxHeartbeats 1000000 in
theorem toTxnSO_some (w : World) (ts : List Tx) (lo hi b off cap : Nat) (hl : cntTS ts ≤ 1048576) (h1 : ∀ i, i < ts.length → TAt w lo hi b (off + i * 3) (ts.getD i Tx.none)) :
    Calls Try.prog 6 #[.slice (some ⟨b, off, none⟩) ts.length cap] w fun e w' => TsAns w w' ts e := by
  obtain ⟨ii, hii, hz0, hz1, hz2⟩ := info_parts Try.infoT
  have hlp := cntTS_ge ts
  go_enter Try.func6, Try.ntmps6
  go_wp2_with (at_make; refine wpList_make_full _ rfl _ _ 26 rfl w.heap.size 39 ii (.agg #[.int .i64 0, .slice none 0 0, .slice none 0 0]) 3 Try.underlying26 hii hz0 hz1 _ _ _ _ ts.length rfl rfl rfl rfl (by rw [hz2]; omega) (by unfold maxLen; omega) (by simp) ?_)
  intro w1 hown hgrow
  have hch : Chg 0 0 w w1 := Chg.ofGrown hgrow (by simp)
  have hO : TRowO w1 w.heap.size ts.length 0 ts (fun _ => 0) (fun _ => 0) := ⟨_, hown, fun i h => absurd h (Nat.not_lt_zero i), fun i h => absurd h (Nat.not_lt_zero i), fun i j _ h => absurd h (Nat.not_lt_zero j)⟩
  clear hown hgrow
  go_wp2
  go_loopw [4] (fun i wr => ∃ k : Nat, k ≤ ts.length ∧ i = .int .i64 k ∧ (∃ l h, TRowO wr w.heap.size ts.length k ts l h) ∧ Chg 0 0 w wr) (fun i _ => ts.length - (intOf i).toNat)
  case atStart => exact ⟨0, Nat.zero_le _, rfl, ⟨_, _, hO⟩, hch⟩
  case round =>
    obtain ⟨k, hk, rfl, ⟨bl, bh, hown⟩, hc⟩ := hrel
    clear hO hch
    by_cases hlt : k < ts.length
    · obtain ⟨hv, rv, c1, c2, c3, p1, v1⟩ := h1 k hlt
      clear h1
      have hxl : cntT (ts.getD k Tx.none) ≤ 1048576 := Nat.le_trans (cntT_le hlt) hl
      have tv : TView wr lo hi (.agg #[.int .i64 (ts.getD k Tx.none).seq, hv, rv]) (ts.getD k Tx.none) := ⟨hv, rv, rfl, p1.chg hc (by omega), v1.chg hc (by omega)⟩
      have c1 := hc.cell c1 (by omega)
      have c2 := hc.cell c2 (by omega)
      have c3 := hc.cell c3 (by omega)
      have hik : (k : Int) < (ts.length : Int) := by omega
      obtain ⟨t, HT⟩ : ∃ t, Hid (ts.getD k Tx.none = t) := ⟨_, rfl⟩
      rw [HT.out] at c1 tv hxl
      clear p1 v1
      go_wp2_with fail
      refine (toTxn_own _ hxl tv).mono ?_
      rintro e w2 ⟨xv, rfl, xt, xw, hs⟩
      obtain ⟨hv', rv', rfl, p2, v2⟩ := xt
      obtain ⟨xo, xcap, rfl⟩ := p2.slice
      obtain ⟨yo, ycap, rfl⟩ := v2.slice
      have hsz := hs.size
      have hlow := hc.size
      have hown2 := hown.chg hs
      have hgl : w.heap.size < wr.heap.size := by obtain ⟨_, hr, _⟩ := hown; exact (World.ownsRow.lt hr _ rfl).2
      have hih : ∀ i, i < k → bh i ≤ wr.heap.size := by obtain ⟨_, _, _, hb, _⟩ := hown; exact fun i hi => (hb i hi).2
      have hp := hown2.put hlt (lo' := wr.heap.size) (hi' := w2.heap.size) (by rw [HT.out]; exact xw) (by omega) (Nat.le_refl _) hih
      rw [HT.out] at hp
      obtain ⟨cells, hrow2, _⟩ := hown2
      have hcl : cells.length = ts.length * 3 := hrow2.1
      obtain ⟨u0, e0⟩ : ∃ u, w2.cell? ⟨w.heap.size, k * 3, none⟩ = some u := ⟨_, (World.ownsRow.cellAt hrow2 (k * 3) (by omega)).trans (List.getElem?_eq_getElem (by omega))⟩
      obtain ⟨u1, e1⟩ : ∃ u, w2.cell? ⟨w.heap.size, k * 3 + 1, none⟩ = some u := ⟨_, (World.ownsRow.cellAt hrow2 (k * 3 + 1) (by omega)).trans (List.getElem?_eq_getElem (by omega))⟩
      obtain ⟨u2, e2⟩ : ∃ u, w2.cell? ⟨w.heap.size, k * 3 + 2, none⟩ = some u := ⟨_, (World.ownsRow.cellAt hrow2 (k * 3 + 2) (by omega)).trans (List.getElem?_eq_getElem (by omega))⟩
      have f0 := World.ownsRow.frozenAt hrow2 (k * 3)
      have f1 := World.ownsRow.frozenAt hrow2 (k * 3 + 1)
      have f2 := World.ownsRow.frozenAt hrow2 (k * 3 + 2)
      have HR : Hid (∃ l h, TRowO (((w2.setCell ⟨w.heap.size, k * 3, none⟩ (.int .i64 t.seq)).setCell ⟨w.heap.size, k * 3 + 1, none⟩ (.slice xo t.homes.length xcap)).setCell ⟨w.heap.size, k * 3 + 2, none⟩ (.slice yo t.revs.length ycap)) w.heap.size ts.length (k + 1) ts l h) := ⟨_, _, hp⟩
      have HR2 : Hid (Chg 0 0 w (((w2.setCell ⟨w.heap.size, k * 3, none⟩ (.int .i64 t.seq)).setCell ⟨w.heap.size, k * 3 + 1, none⟩ (.slice xo t.homes.length xcap)).setCell ⟨w.heap.size, k * 3 + 2, none⟩ (.slice yo t.revs.length ycap))) :=
        (((hc.trans hs).setCell (Or.inr (Nat.le_refl _)) _).setCell (Or.inr (Nat.le_refl _)) _).setCell (Or.inr (Nat.le_refl _)) _
      clear hp hown hrow2 hcl hs hc c1 c2 c3 tv p2 v2
      go_wp2
      go_roundw
      case rel => exact ⟨k + 1, by omega, by go_num, HR.out, HR2.out⟩
      case measure => simp [intOf]; omega
    · obtain rfl : k = ts.length := by omega
      have HR : Hid (∃ l h, TRowO wr w.heap.size ts.length ts.length ts l h) := ⟨_, _, hown⟩
      clear hown h1
      go_wp2
      go_ret
      exact ⟨rfl, HR.out, hc⟩

set_option maxRecDepth 20000 in
set_option maxHeartbeats 400000 in
theorem toTxnSO_none (w : World) (ao : Option Addr) (cap : Nat) :
    Calls Try.prog 6 #[.slice ao 0 cap] w fun e w' => TsAns w w' [] e := by
  obtain ⟨ii, hii, hz0, hz1, hz2⟩ := info_parts Try.infoT
  go_enter Try.func6, Try.ntmps6
  go_wp2_with (at_make; refine wpList_make_full _ rfl _ _ 26 rfl w.heap.size 39 ii (.agg #[.int .i64 0, .slice none 0 0, .slice none 0 0]) 3 Try.underlying26 hii hz0 hz1 _ _ _ _ 0 rfl rfl rfl rfl (by omega) (by unfold maxLen; omega) (by simp) ?_)
  intro w1 hown hgrow
  have hch : Chg 0 0 w w1 := Chg.ofGrown hgrow (by simp)
  have HO : Hid (∃ l h, TRowO w1 w.heap.size 0 0 [] l h) := ⟨fun _ => 0, fun _ => 0, _, hown, fun i h => absurd h (Nat.not_lt_zero i), fun i h => absurd h (Nat.not_lt_zero i), fun i j _ h => absurd h (Nat.not_lt_zero j)⟩
  clear hown hgrow
  go_wp2
  refine wp_loop_rounds 1 ?_; rw [rounds_succ]
  go_wp2
  go_ret
  exact ⟨rfl, HO.out, hch⟩

theorem toTxnS_own (w : World) {lo hi : Nat} {a : Value} {ts : List Tx} (hl : cntTS ts ≤ 1048576) (h1 : TSView w lo hi a ts) :
    Calls Try.prog 6 #[a] w fun e w' => TsAns w w' ts e := by
  obtain ⟨ao, cap, rfl, _, _, h1⟩ := h1
  rcases h1 with rfl | ⟨x, off, rfl, _, _, h1⟩
  · exact toTxnSO_none w ao cap
  · exact toTxnSO_some w ts lo hi x off cap hl h1

end Go.Proofs.Ytmfcaiadcmgjbaa
