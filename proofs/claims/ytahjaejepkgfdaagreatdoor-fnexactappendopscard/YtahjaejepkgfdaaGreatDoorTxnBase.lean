/- A transaction as it is seen in memory; the law's helpers over it: szTxn, toTxn, eqTxn. -/
import Derived.Test.YtahjaejepkgfdaaGreatDoorToB
import Derived.Test.YtahjaejepkgfdaaGreatDoorHomeEq
import Derived.Test.YtahjaejepkgfdaaGreatDoorSzI
namespace Go.Proofs.YtahjaejepkgfdaaGreatDoor
open Go.RowKit

/-- A transaction. -/
structure Tx where
  seq : Int
  homes : List Wr
  revs : List Int

def TView (w : World) (lo hi : Nat) (v : Value) (t : Tx) : Prop := ∃ hv rv, v = .agg #[.int .i64 t.seq, hv, rv] ∧ PView w lo hi hv t.homes ∧ View w lo hi .i64 rv t.revs

theorem TView.chg {w w' : World} {lo hi l r : Nat} {v : Value} {t : Tx} (h : TView w lo hi v t) (c : Chg l r w w') (e : hi ≤ l ∨ r ≤ lo ∨ r ≤ l) : TView w' lo hi v t := by
  obtain ⟨hv, rv, hv', h1, h2⟩ := h
  exact ⟨hv, rv, hv', h1.chg c e, h2.chg c e⟩

/-- How much it holds. -/
def cntT (t : Tx) : Nat := cnt t.homes + t.revs.length

theorem tri {w : World} {s : Nat} {a b c : Value} {t : TypeId} (h : w.heap[s]? = some (.cells #[a, b, c] t (0, 0))) :
    (w.cell? ⟨s, 0, none⟩ = some a ∧ w.cell? ⟨s, 1, none⟩ = some b ∧ w.cell? ⟨s, 2, none⟩ = some c) ∧ w.frozen? ⟨s, 0, none⟩ = false ∧ w.frozen? ⟨s, 1, none⟩ = false ∧ w.frozen? ⟨s, 2, none⟩ = false := by
  simp [World.cell?, World.frozen?, h]

theorem View.slice {w : World} {lo hi : Nat} {k : IntKind} {v : Value} {xs : List Int} (h : View w lo hi k v xs) : ∃ ao cap, v = .slice ao xs.length cap := by
  obtain ⟨ao, cap, rfl, _⟩ := h; exact ⟨ao, cap, rfl⟩
theorem PView.slice {w : World} {lo hi : Nat} {v : Value} {ps : List Wr} (h : PView w lo hi v ps) : ∃ ao cap, v = .slice ao ps.length cap := by
  obtain ⟨ao, cap, rfl, _⟩ := h; exact ⟨ao, cap, rfl⟩

set_option maxRecDepth 20000 in
set_option maxHeartbeats 400000 in
theorem szTxn_calls (w : World) {lo hi : Nat} {a : Value} (t : Tx) (left : Nat) (hb : left ≤ 1048576) (h1 : TView w lo hi a t) :
    Calls Tryz.prog 4 #[a, .int .i64 left] w fun e w' => e = .returned (.int .i64 (lft left (cntT t))) ∧ Chg 0 0 w w' := by
  obtain ⟨hv, rv, rfl, p1, v1⟩ := h1
  have p0 := p1
  obtain ⟨po, pcap, rfl⟩ := p1.slice
  obtain ⟨ao, cap, rfl, hl, _, _⟩ := v1
  have hA : Chg 0 0 w (w.alloc (.cells #[.int .i64 t.seq, .slice po t.homes.length pcap, .slice ao t.revs.length cap] 27)) := Chg.alloc (Chg.refl 0 0 w) _
  obtain ⟨⟨k0, k1, k2⟩, _⟩ := tri (heap_new w (.cells #[.int .i64 t.seq, .slice po t.homes.length pcap, .slice ao t.revs.length cap] 27))
  by_cases hn : cnt t.homes ≤ left
  · go_enter Tryz.func4, Tryz.ntmps4
    go_wp2_with fail
    generalize (w.alloc (.cells #[.int .i64 t.seq, .slice po t.homes.length pcap, .slice ao t.revs.length cap] 27)) = w0 at *
    refine (szHomeS_calls _ t.homes left hb (p0.chg hA (by omega))).mono ?_
    rintro e w1 ⟨rfl, h1⟩
    have k2 := h1.cell k2 (by omega)
    have hA := hA.trans h1
    rw [lft_pos hn]
    clear h1 k0 k1 p0 p1
    go_wp2_with fail
    refine (szInt64S_calls _ ao _ cap (left - cnt t.homes) hl (by omega)).mono ?_
    rintro e w2 ⟨rfl, rfl⟩
    by_cases hm : t.revs.length ≤ left - cnt t.homes
    · rw [lft_pos hm]
      have hfin : cntT t ≤ left := by unfold cntT; omega
      go_wp2
      go_ret
      exact ⟨by rw [lft_pos hfin]; exact ret_int (by unfold cntT; omega), hA⟩
    · rw [lft_neg hm]
      have hfin : ¬ cntT t ≤ left := by unfold cntT; omega
      go_wp2
      go_ret
      exact ⟨by rw [lft_neg hfin]; rfl, hA⟩
  · have hfin : ¬ cntT t ≤ left := by unfold cntT; omega
    go_enter Tryz.func4, Tryz.ntmps4
    go_wp2_with fail
    generalize (w.alloc (.cells #[.int .i64 t.seq, .slice po t.homes.length pcap, .slice ao t.revs.length cap] 27)) = w0 at *
    refine (szHomeS_calls _ t.homes left hb (p0.chg hA (by omega))).mono ?_
    rintro e w1 ⟨rfl, h1⟩
    have hA := hA.trans h1
    rw [lft_neg hn]
    clear h1 k0 k1 k2 p0 p1
    go_wp2
    go_ret
    exact ⟨by rw [lft_neg hfin]; rfl, hA⟩

theorem OwnPx.pview {w : World} {base : Nat} {eW eB : TypeId} {v : Value} {ps : List Wr} {cells : List Value} {dvs : Nat → Value} (h : OwnPx w base eW eB v ps cells dvs) (hl : cnt ps ≤ 1048576) : PView w base w.heap.size v ps := by
  have hg := cnt_ge ps
  refine h.view (by omega) (fun i hi => ?_) (fun g hg => (World.ownsRow.lt h.row g hg).2) (fun i g hi hg => ((h.data i hi).lt g hg).2)
  have := cnt_take_succ ps i hi
  have := cnt_take_le ps (i + 1)
  omega

set_option maxRecDepth 20000 in
set_option maxHeartbeats 1000000 in
theorem toTxn_calls (w : World) {lo hi : Nat} {a : Value} {t : Tx} (hl : cntT t ≤ 1048576) (h1 : TView w lo hi a t) :
    Calls Tryz.prog 7 #[a] w fun e w' => ∃ v, e = .returned v ∧ TView w' w.heap.size w'.heap.size v t ∧ Chg 0 0 w w' := by
  have hl1 : cnt t.homes ≤ 1048576 := by unfold cntT at hl; omega
  have hl2 : t.revs.length ≤ 1048576 := by unfold cntT at hl; omega
  obtain ⟨hv, rv, rfl, p1, v1⟩ := h1
  obtain ⟨po, pcap, rfl⟩ := p1.slice
  obtain ⟨ao, cap, rfl⟩ := v1.slice
  obtain ⟨z1, z2, z3, z4⟩ := alloc3 w (.cells #[.int .i64 t.seq, .slice po t.homes.length pcap, .slice ao t.revs.length cap] 27) (.cells #[.int .i64 0, .slice none 0 0, .slice none 0 0] 35) (.cells #[.int .i64 t.seq, .slice none 0 0, .slice none 0 0] 35)
  have hw3 : Chg 0 0 w (((w.alloc (.cells #[.int .i64 t.seq, .slice po t.homes.length pcap, .slice ao t.revs.length cap] 27)).alloc (.cells #[.int .i64 0, .slice none 0 0, .slice none 0 0] 35)).alloc (.cells #[.int .i64 t.seq, .slice none 0 0, .slice none 0 0] 35)) := (((Chg.alloc (Chg.refl 0 0 w) _).alloc _).alloc _)
  go_enter Tryz.func7, Tryz.ntmps7
  go_wp2_with fail
  generalize (((w.alloc (.cells #[.int .i64 t.seq, .slice po t.homes.length pcap, .slice ao t.revs.length cap] 27)).alloc (.cells #[.int .i64 0, .slice none 0 0, .slice none 0 0] 35)).alloc (.cells #[.int .i64 t.seq, .slice none 0 0, .slice none 0 0] 35)) = w3 at *
  refine (toHomeS_calls _ hl1 (p1.chg hw3 (by omega))).mono ?_
  rintro e w4 ⟨g, rfl, ⟨cells, dvs, ho⟩, hc⟩
  have s4 := hc.size
  have hp := ho.pview hl1
  have Z2 := (hc.block w.heap.size (by omega) (by omega)).trans z2
  have Z3 := (hc.block (w.heap.size + 1) (by omega) (by omega)).trans z3
  have Z4 := (hc.block (w.heap.size + 1 + 1) (by omega) (by omega)).trans z4
  have hch : Chg 0 0 w w4 := hw3.trans hc
  clear z2 z3 z4 hc hw3 ho p1
  have C5 : Chg (w.heap.size + 1 + 1) (w.heap.size + 1 + 1 + 1) w4 (w4.setCell ⟨w.heap.size + 1 + 1, 1, none⟩ (.slice (some ⟨g, 0, none⟩) t.homes.length t.homes.length)) := Chg.setCell (p := ⟨w.heap.size + 1 + 1, 1, none⟩) (Chg.refl _ _ _) (Or.inl ⟨Nat.le_refl _, Nat.lt_succ_self _⟩) _
  have B5 : (w4.setCell ⟨w.heap.size + 1 + 1, 1, none⟩ (.slice (some ⟨g, 0, none⟩) t.homes.length t.homes.length)).heap[w.heap.size + 1 + 1]? = some (.cells #[.int .i64 t.seq, .slice (some ⟨g, 0, none⟩) t.homes.length t.homes.length, .slice none 0 0] 35 (0, 0)) := by
    simp [World.setCell, Z4, Array.getElem?_modify]
  have Y2 := (C5.block w.heap.size (by omega) (by omega)).trans Z2
  have Y3 := (C5.block (w.heap.size + 1) (by omega) (by omega)).trans Z3
  have hp5 := hp.chg C5 (by omega)
  have hch5 : Chg 0 0 w (w4.setCell ⟨w.heap.size + 1 + 1, 1, none⟩ (.slice (some ⟨g, 0, none⟩) t.homes.length t.homes.length)) := hch.step C5 (by omega)
  have s5 : (w4.setCell ⟨w.heap.size + 1 + 1, 1, none⟩ (.slice (some ⟨g, 0, none⟩) t.homes.length t.homes.length)).heap.size = w4.heap.size := by simp [World.setCell]
  obtain ⟨⟨x0, x1, x2⟩, xf0, xf1, xf2⟩ := tri Z4
  obtain ⟨⟨u0, u1, u2⟩, _⟩ := tri Z2
  obtain ⟨⟨b0, b1, b2⟩, _⟩ := tri Y2
  clear hp hch C5 Z2 Z3 Z4
  go_wp2_with fail
  generalize w4.setCell ⟨w.heap.size + 1 + 1, 1, none⟩ (.slice (some ⟨g, 0, none⟩) t.homes.length t.homes.length) = w5 at *
  clear x0 x1 x2 xf0 xf1 xf2 u0 u1 u2 b0 b1 b2
  refine (toInt64S_calls _ hl2 (v1.chg hch5 (by omega))).mono ?_
  rintro e w6 ⟨h, rfl, ho, hc⟩
  have hvv := ho.view (hi := w6.heap.size) (by omega) (fun g hg => (ho.lt g hg).2)
  have s6 := hc.size
  have hp6 := hp5.chg hc (by omega)
  have hch6 := hch5.trans hc
  obtain ⟨⟨x0, x1, x2⟩, xf0, xf1, xf2⟩ := tri ((hc.block (w.heap.size + 1 + 1) (by omega) (by omega)).trans B5)
  obtain ⟨⟨y0, y1, y2⟩, yf0, yf1, yf2⟩ := tri ((hc.block (w.heap.size + 1) (by omega) (by omega)).trans Y3)
  have HS : Hid (∀ (u1 u2 u3 u4 : Value), Chg 0 0 w ((((w6.setCell ⟨w.heap.size + 1 + 1, 2, none⟩ u1).setCell ⟨w.heap.size + 1, 0, none⟩ u2).setCell ⟨w.heap.size + 1, 1, none⟩ u3).setCell ⟨w.heap.size + 1, 2, none⟩ u4) ∧ TView ((((w6.setCell ⟨w.heap.size + 1 + 1, 2, none⟩ u1).setCell ⟨w.heap.size + 1, 0, none⟩ u2).setCell ⟨w.heap.size + 1, 1, none⟩ u3).setCell ⟨w.heap.size + 1, 2, none⟩ u4) w.heap.size ((((w6.setCell ⟨w.heap.size + 1 + 1, 2, none⟩ u1).setCell ⟨w.heap.size + 1, 0, none⟩ u2).setCell ⟨w.heap.size + 1, 1, none⟩ u3).setCell ⟨w.heap.size + 1, 2, none⟩ u4).heap.size (.agg #[.int .i64 t.seq, .slice (some ⟨g, 0, none⟩) t.homes.length t.homes.length, .slice (some ⟨h, 0, none⟩) t.revs.length t.revs.length]) t) := by
    intro u1 u2 u3 u4
    have C : Chg (w.heap.size + 1) (w.heap.size + 1 + 1 + 1) w6 ((((w6.setCell ⟨w.heap.size + 1 + 1, 2, none⟩ u1).setCell ⟨w.heap.size + 1, 0, none⟩ u2).setCell ⟨w.heap.size + 1, 1, none⟩ u3).setCell ⟨w.heap.size + 1, 2, none⟩ u4) := by
      refine Chg.setCell (Chg.setCell (Chg.setCell (Chg.setCell (Chg.refl _ _ _) ?_ _) ?_ _) ?_ _) ?_ _ <;> exact Or.inl ⟨by simp, by simp⟩
    have hs : ((((w6.setCell ⟨w.heap.size + 1 + 1, 2, none⟩ u1).setCell ⟨w.heap.size + 1, 0, none⟩ u2).setCell ⟨w.heap.size + 1, 1, none⟩ u3).setCell ⟨w.heap.size + 1, 2, none⟩ u4).heap.size = w6.heap.size := by simp [World.setCell]
    refine ⟨hch6.step C (by omega), _, _, rfl, ?_, ?_⟩
    · rw [hs]
      exact (hp6.chg C (by omega)).mono (by omega) (by omega)
    · rw [hs]
      exact (hvv.chg C (by omega)).mono (by omega) (by omega)
  clear hvv hp5 hp6 hch5 hch6 ho hc B5 Y2 Y3
  go_wp2
  exact bodyPost_ret (v := .agg #[.int .i64 t.seq, .slice (some ⟨g, 0, none⟩) t.homes.length t.homes.length, .slice (some ⟨h, 0, none⟩) t.revs.length t.revs.length]) (by simp [results, Tryz.results7, go_sem, *]) rfl ⟨_, rfl, (HS.out _ _ _ _).2, (HS.out _ _ _ _).1⟩

set_option maxRecDepth 20000 in
set_option maxHeartbeats 400000 in
theorem eqTxn_calls (w : World) {lo hi lo' hi' : Nat} {a b : Value} {t : Tx} (h1 : TView w lo hi a t) (h2 : TView w lo' hi' b t) :
    Calls Tryz.prog 10 #[a, b] w fun e w' => e = .returned (.bool true) ∧ Chg 0 0 w w' := by
  obtain ⟨hv, rv, rfl, p1, v1⟩ := h1
  obtain ⟨hv', rv', rfl, p2, v2⟩ := h2
  obtain ⟨z1, z2, z3⟩ := alloc2 w (.cells #[.int .i64 t.seq, hv, rv] 35) (.cells #[.int .i64 t.seq, hv', rv'] 35)
  have hA : Chg 0 0 w ((w.alloc (.cells #[.int .i64 t.seq, hv, rv] 35)).alloc (.cells #[.int .i64 t.seq, hv', rv'] 35)) := (Chg.alloc (Chg.refl 0 0 w) _).alloc _
  go_enter Tryz.func10, Tryz.ntmps10
  go_wp2_with fail
  generalize ((w.alloc (.cells #[.int .i64 t.seq, hv, rv] 35)).alloc (.cells #[.int .i64 t.seq, hv', rv'] 35)) = w0 at *
  refine (eqHomeS_calls _ (p1.chg hA (by omega)) (p2.chg hA (by omega))).mono ?_
  rintro e w1 ⟨rfl, h1⟩
  obtain ⟨⟨x0, x1, x2⟩, _⟩ := tri ((h1.block w.heap.size (by omega) (by omega)).trans z2)
  obtain ⟨⟨y0, y1, y2⟩, _⟩ := tri ((h1.block (w.heap.size + 1) (by omega) (by omega)).trans z3)
  have hA := hA.trans h1
  clear h1 z2 z3 p1 p2
  go_wp2_with fail
  refine (eqInt64S_calls _ (v1.chg hA (by omega)) (v2.chg hA (by omega))).mono ?_
  rintro e w2 ⟨rfl, h2⟩
  have hA := hA.trans (h2.chg 0 0)
  clear h2 x0 x1 x2 y0 y1 y2
  go_wp2
  go_ret
  exact ⟨rfl, hA⟩

end Go.Proofs.YtahjaejepkgfdaaGreatDoor
