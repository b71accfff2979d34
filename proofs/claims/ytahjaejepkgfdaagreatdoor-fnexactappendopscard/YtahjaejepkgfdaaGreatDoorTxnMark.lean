/- A transaction that is one's own: toTxn told sharper, markTxn. (made by tools/mktxnmark.py) -/
import Derived.Test.YtahjaejepkgfdaaGreatDoorTxnBase
import Derived.Test.YtahjaejepkgfdaaGreatDoorHomeMark
import Derived.Test.YtahjaejepkgfdaaGreatDoorRowsE
namespace Go.Proofs.YtahjaejepkgfdaaGreatDoor
open Go.RowKit

/-- A transaction that is one's own, between two blocks. -/
def TOwn (w : World) (lo hi : Nat) (v : Value) (t : Tx) : Prop := ∃ hv rv cells dvs, v = .agg #[.int .i64 t.seq, hv, rv] ∧ OwnPx w lo 82 5 hv t.homes cells dvs ∧ OwnI w lo 2 rv t.revs ∧ (∀ g, hv.ownBlock = some g → g < hi) ∧ (∀ i g, i < t.homes.length → (dvs i).ownBlock = some g → g < hi) ∧ (∀ g, rv.ownBlock = some g → g < hi)

theorem row_low {w : World} {base base' : Nat} {e : TypeId} {size n : Nat} {v : Value} {xs : List Value} (h : w.ownsRow base e size v n xs) (hb : base' ≤ base) : w.ownsRow base' e size v n xs := by
  obtain ⟨h1, h2⟩ := h
  refine ⟨h1, ?_⟩
  rcases h2 with h2 | ⟨g, cap, cur, hv, hg, r⟩
  · exact Or.inl h2
  · exact Or.inr ⟨g, cap, cur, hv, Nat.le_trans hb hg, r⟩
theorem OwnPx.low {w : World} {base base' : Nat} {eW eB : TypeId} {v : Value} {ps : List Wr} {cells : List Value} {dvs : Nat → Value} (h : OwnPx w base eW eB v ps cells dvs) (hb : base' ≤ base) : OwnPx w base' eW eB v ps cells dvs :=
  ⟨row_low h.row hb, h.at0, h.at1, fun i hi => row_low (h.data i hi) hb, h.apart⟩
theorem OwnI.low {w : World} {base base' : Nat} {e : TypeId} {v : Value} {xs : List Int} (h : OwnI w base e v xs) (hb : base' ≤ base) : OwnI w base' e v xs := row_low h hb
theorem OwnI.same {w w' : World} {base : Nat} {e : TypeId} {v : Value} {xs : List Int} (h : OwnI w base e v xs) (hs : ∀ j, v.ownBlock = some j → w'.heap[j]? = w.heap[j]?) : OwnI w' base e v xs := by
  obtain ⟨h1, h2⟩ := h
  refine ⟨h1, ?_⟩
  rcases h2 with h2 | ⟨g, cap, cur, hv, hg, hh, r⟩
  · exact Or.inl h2
  · exact Or.inr ⟨g, cap, cur, hv, hg, (hs g (by rw [hv]; rfl)).trans hh, r⟩

theorem TOwn.chg {w w' : World} {lo hi l r : Nat} {v : Value} {t : Tx} (h : TOwn w lo hi v t) (c : Chg l r w w') (hd : r ≤ lo ∨ hi ≤ l ∨ r ≤ l) : TOwn w' lo hi v t := by
  obtain ⟨hv, rv, cells, dvs, e, h1, h2, h3, h4, h5⟩ := h
  exact ⟨hv, rv, cells, dvs, e, h1.chg c (fun g hg => by have := h3 g hg; have := h1.lt g hg; omega) (fun i g hi hg => by have := h4 i g hi hg; have := (h1.data i hi).lt g hg; omega), h2.chg c (fun g hg => by have := h5 g hg; have := h2.lt g hg; omega), h3, h4, h5⟩

set_option maxRecDepth 20000 in
set_option maxHeartbeats 1000000 in
theorem toTxn_own (w : World) {lo hi : Nat} {a : Value} {t : Tx} (hl : cntT t ≤ 1048576) (h1 : TView w lo hi a t) :
    Calls Tryz.prog 7 #[a] w fun e w' => ∃ v, e = .returned v ∧ TView w' w.heap.size w'.heap.size v t ∧ TOwn w' w.heap.size w'.heap.size v t ∧ Chg 0 0 w w' := by
  have hl1 : cnt t.homes ≤ 1048576 := by unfold cntT at hl; omega
  have hl2 : t.revs.length ≤ 1048576 := by unfold cntT at hl; omega
  obtain ⟨hv, rv, rfl, p1, v1⟩ := h1
  obtain ⟨po, pcap, rfl⟩ := p1.slice
  obtain ⟨ao, cap, rfl⟩ := v1.slice
  obtain ⟨z1, z2, z3, z4⟩ := alloc3 w (.cells #[.int .i64 t.seq, .slice po t.homes.length pcap, .slice ao t.revs.length cap] 27) (.cells #[.int .i64 0, .slice none 0 0, .slice none 0 0] 35) (.cells #[.int .i64 t.seq, .slice none 0 0, .slice none 0 0] 35)
  have hw3 : Chg 0 0 w (((w.alloc (.cells #[.int .i64 t.seq, .slice po t.homes.length pcap, .slice ao t.revs.length cap] 27)).alloc (.cells #[.int .i64 0, .slice none 0 0, .slice none 0 0] 35)).alloc (.cells #[.int .i64 t.seq, .slice none 0 0, .slice none 0 0] 35)) := (((Chg.alloc (Chg.refl 0 0 w) _).alloc _).alloc _)
  go_enter Tryz.func7, Tryz.ntmps7
  go_wp2_with fail
  generalize (((w.alloc (.cells #[.int .i64 t.seq, .slice po t.homes.length pcap, .slice ao t.revs.length cap] 27)).alloc (.cells #[.int .i64 0, .slice none 0 0, .slice none 0 0] 35)).alloc (.cells #[.int .i64 t.seq, .slice none 0 0, .slice none 0 0] 35)) = w3 at *
  refine (toHomeS_calls _ hl1 (p1.chg hw3 (by omega))).mono ?_
  rintro e w4 ⟨g, rfl, ⟨cells, dvs, ho⟩, hc⟩
  have s4 := hc.size
  have hp := ho.pview hl1
  have Z2 := (hc.block w.heap.size (by omega) (by omega)).trans z2
  have Z3 := (hc.block (w.heap.size + 1) (by omega) (by omega)).trans z3
  have Z4 := (hc.block (w.heap.size + 1 + 1) (by omega) (by omega)).trans z4
  have hch : Chg 0 0 w w4 := hw3.trans hc
  have ho4 := ho
  clear z2 z3 z4 hc hw3 ho p1
  have C5 : Chg (w.heap.size + 1 + 1) (w.heap.size + 1 + 1 + 1) w4 (w4.setCell ⟨w.heap.size + 1 + 1, 1, none⟩ (.slice (some ⟨g, 0, none⟩) t.homes.length t.homes.length)) := Chg.setCell (p := ⟨w.heap.size + 1 + 1, 1, none⟩) (Chg.refl _ _ _) (Or.inl ⟨Nat.le_refl _, Nat.lt_succ_self _⟩) _
  have B5 : (w4.setCell ⟨w.heap.size + 1 + 1, 1, none⟩ (.slice (some ⟨g, 0, none⟩) t.homes.length t.homes.length)).heap[w.heap.size + 1 + 1]? = some (.cells #[.int .i64 t.seq, .slice (some ⟨g, 0, none⟩) t.homes.length t.homes.length, .slice none 0 0] 35 (0, 0)) := by
    simp [World.setCell, Z4, Array.getElem?_modify]
  have Y2 := (C5.block w.heap.size (by omega) (by omega)).trans Z2
  have Y3 := (C5.block (w.heap.size + 1) (by omega) (by omega)).trans Z3
  have hp5 := hp.chg C5 (by omega)
  have HO5 : Hid (OwnPx (w4.setCell ⟨w.heap.size + 1 + 1, 1, none⟩ (.slice (some ⟨g, 0, none⟩) t.homes.length t.homes.length)) w3.heap.size 82 5 (.slice (some ⟨g, 0, none⟩) t.homes.length t.homes.length) t.homes cells dvs) := ho4.chg C5 (fun g hg => by have := ho4.lt g hg; omega) (fun i g hi hg => by have := (ho4.data i hi).lt g hg; omega)
  clear ho4
  have hch5 : Chg 0 0 w (w4.setCell ⟨w.heap.size + 1 + 1, 1, none⟩ (.slice (some ⟨g, 0, none⟩) t.homes.length t.homes.length)) := hch.step C5 (by omega)
  have s5 : (w4.setCell ⟨w.heap.size + 1 + 1, 1, none⟩ (.slice (some ⟨g, 0, none⟩) t.homes.length t.homes.length)).heap.size = w4.heap.size := by simp [World.setCell]
  obtain ⟨⟨x0, x1, x2⟩, xf0, xf1, xf2⟩ := tri Z4
  obtain ⟨⟨u0, u1, u2⟩, _⟩ := tri Z2
  obtain ⟨⟨b0, b1, b2⟩, _⟩ := tri Y2
  clear hp hch C5 Z2 Z3 Z4
  go_wp2_with fail
  generalize w4.setCell ⟨w.heap.size + 1 + 1, 1, none⟩ (.slice (some ⟨g, 0, none⟩) t.homes.length t.homes.length) = w5 at *
  clear x0 x1 x2 xf0 xf1 xf2 u0 u1 u2 b0 b1 b2
  refine (toInt64S_calls _ hl2 (v1.chg hch5 (by omega))).mono ?_
  rintro e w6 ⟨h, rfl, ho, hc⟩
  have hvv := ho.view (hi := w6.heap.size) (by omega) (fun g hg => (ho.lt g hg).2)
  have s6 := hc.size
  have HO6 : Hid (OwnPx w6 w3.heap.size 82 5 (.slice (some ⟨g, 0, none⟩) t.homes.length t.homes.length) t.homes cells dvs) := HO5.out.chg hc (fun g hg => by have := HO5.out.lt g hg; omega) (fun i g hi hg => by have := (HO5.out.data i hi).lt g hg; omega)
  have HI6 : Hid (OwnI w6 w5.heap.size 2 (.slice (some ⟨h, 0, none⟩) t.revs.length t.revs.length) t.revs) := ho
  clear HO5
  have hp6 := hp5.chg hc (by omega)
  have hch6 := hch5.trans hc
  obtain ⟨⟨x0, x1, x2⟩, xf0, xf1, xf2⟩ := tri ((hc.block (w.heap.size + 1 + 1) (by omega) (by omega)).trans B5)
  obtain ⟨⟨y0, y1, y2⟩, yf0, yf1, yf2⟩ := tri ((hc.block (w.heap.size + 1) (by omega) (by omega)).trans Y3)
  have HS : Hid (∀ (u1 u2 u3 u4 : Value), Chg 0 0 w ((((w6.setCell ⟨w.heap.size + 1 + 1, 2, none⟩ u1).setCell ⟨w.heap.size + 1, 0, none⟩ u2).setCell ⟨w.heap.size + 1, 1, none⟩ u3).setCell ⟨w.heap.size + 1, 2, none⟩ u4) ∧ TView ((((w6.setCell ⟨w.heap.size + 1 + 1, 2, none⟩ u1).setCell ⟨w.heap.size + 1, 0, none⟩ u2).setCell ⟨w.heap.size + 1, 1, none⟩ u3).setCell ⟨w.heap.size + 1, 2, none⟩ u4) w.heap.size ((((w6.setCell ⟨w.heap.size + 1 + 1, 2, none⟩ u1).setCell ⟨w.heap.size + 1, 0, none⟩ u2).setCell ⟨w.heap.size + 1, 1, none⟩ u3).setCell ⟨w.heap.size + 1, 2, none⟩ u4).heap.size (.agg #[.int .i64 t.seq, .slice (some ⟨g, 0, none⟩) t.homes.length t.homes.length, .slice (some ⟨h, 0, none⟩) t.revs.length t.revs.length]) t ∧ TOwn ((((w6.setCell ⟨w.heap.size + 1 + 1, 2, none⟩ u1).setCell ⟨w.heap.size + 1, 0, none⟩ u2).setCell ⟨w.heap.size + 1, 1, none⟩ u3).setCell ⟨w.heap.size + 1, 2, none⟩ u4) w.heap.size ((((w6.setCell ⟨w.heap.size + 1 + 1, 2, none⟩ u1).setCell ⟨w.heap.size + 1, 0, none⟩ u2).setCell ⟨w.heap.size + 1, 1, none⟩ u3).setCell ⟨w.heap.size + 1, 2, none⟩ u4).heap.size (.agg #[.int .i64 t.seq, .slice (some ⟨g, 0, none⟩) t.homes.length t.homes.length, .slice (some ⟨h, 0, none⟩) t.revs.length t.revs.length]) t) := by
    intro u1 u2 u3 u4
    have C : Chg (w.heap.size + 1) (w.heap.size + 1 + 1 + 1) w6 ((((w6.setCell ⟨w.heap.size + 1 + 1, 2, none⟩ u1).setCell ⟨w.heap.size + 1, 0, none⟩ u2).setCell ⟨w.heap.size + 1, 1, none⟩ u3).setCell ⟨w.heap.size + 1, 2, none⟩ u4) := by
      refine Chg.setCell (Chg.setCell (Chg.setCell (Chg.setCell (Chg.refl _ _ _) ?_ _) ?_ _) ?_ _) ?_ _ <;> exact Or.inl ⟨by simp, by simp⟩
    have hs : ((((w6.setCell ⟨w.heap.size + 1 + 1, 2, none⟩ u1).setCell ⟨w.heap.size + 1, 0, none⟩ u2).setCell ⟨w.heap.size + 1, 1, none⟩ u3).setCell ⟨w.heap.size + 1, 2, none⟩ u4).heap.size = w6.heap.size := by simp [World.setCell]
    have hp7 := HO6.out.chg C (fun g hg => by have := HO6.out.lt g hg; omega) (fun i g hi hg => by have := (HO6.out.data i hi).lt g hg; omega)
    have hi7 := HI6.out.chg C (fun g hg => by have := HI6.out.lt g hg; omega)
    refine ⟨hch6.step C (by omega), ⟨_, _, rfl, ?_, ?_⟩, _, _, cells, dvs, rfl, hp7.low (by omega), hi7.low (by omega), fun g hg => (hp7.lt g hg).2, fun i g hi hg => ((hp7.data i hi).lt g hg).2, fun g hg => (hi7.lt g hg).2⟩
    · rw [hs]
      exact (hp6.chg C (by omega)).mono (by omega) (by omega)
    · rw [hs]
      exact (hvv.chg C (by omega)).mono (by omega) (by omega)
  clear hvv hp5 hp6 hch5 hch6 ho hc B5 Y2 Y3
  go_wp2
  exact bodyPost_ret (v := .agg #[.int .i64 t.seq, .slice (some ⟨g, 0, none⟩) t.homes.length t.homes.length, .slice (some ⟨h, 0, none⟩) t.revs.length t.revs.length]) (by simp [results, Tryz.results7, go_sem, *]) rfl ⟨_, rfl, (HS.out _ _ _ _).2.1, (HS.out _ _ _ _).2.2, (HS.out _ _ _ _).1⟩

set_option maxRecDepth 20000 in
set_option maxHeartbeats 1000000 in
theorem markTxn_calls (w : World) (v : Value) (t : Tx) (k0 lo hi : Nat) (hk : k0 + cntT t ≤ 4194304) (h : TOwn w lo hi v t) (hhi : hi ≤ w.heap.size) :
    Calls Tryz.prog 11 #[v, .int .i64 k0] w fun r w' => (∃ k : Nat, r = .returned (.int .i64 (k : Int))) ∧ Chg lo hi w w' := by
  obtain ⟨hv, rv, cells, dvs, rfl, h1, h2, h3, h4, h5⟩ := h
  obtain ⟨n1, n2⟩ : cnt t.homes ≤ 4194304 ∧ t.revs.length ≤ 4194304 := by unfold cntT at hk; omega
  have n3 : k0 + cnt t.homes ≤ 4194304 := by unfold cntT at hk; omega
  have n4 := cnt_ge t.homes
  have hA : Chg lo hi w (w.alloc (.cells #[.int .i64 t.seq, hv, rv] 35)) := Chg.alloc (Chg.refl lo hi w) _
  have hB := heap_new w (.cells #[.int .i64 t.seq, hv, rv] 35)
  have hs : (w.alloc (.cells #[.int .i64 t.seq, hv, rv] 35)).heap.size = w.heap.size + 1 := by simp
  have cA : Chg 0 0 w (w.alloc (.cells #[.int .i64 t.seq, hv, rv] 35)) := Chg.alloc (Chg.refl 0 0 w) _
  have o1 := h1.chg cA (fun g hg => by omega) (fun i g hi hg => by omega)
  have o2 := h2.chg cA (fun g hg => by omega)
  obtain ⟨⟨k0', k1, k2⟩, _⟩ := tri hB
  have hN := markHomeS_calls _ lo 82 5 (by decide) hv t.homes k0 lo hi (by omega) (by omega) cells dvs o1 (fun g hg => ⟨(o1.lt g hg).1, h3 g hg⟩) (fun i g hi hg => ⟨((o1.data i hi).lt g hg).1, h4 i g hi hg⟩)
  obtain ⟨ha, hn, hc, rfl⟩ : ∃ a n c, hv = .slice a n c := by
    rcases h1.row.2 with ⟨rfl, _⟩ | ⟨g, cap, cur, rfl, _⟩
    · exact ⟨_, _, _, rfl⟩
    · exact ⟨_, _, _, rfl⟩
  obtain ⟨ra, rn, rc, rfl⟩ : ∃ a n c, rv = .slice a n c := by
    rcases h2.2 with ⟨rfl, _⟩ | ⟨g, cap, cur, rfl, _⟩
    · exact ⟨_, _, _, rfl⟩
    · exact ⟨_, _, _, rfl⟩
  clear h1 h2 cA
  go_enter Tryz.func11, Tryz.ntmps11
  go_wp2_with fail
  generalize w.alloc (.cells #[.int .i64 t.seq, .slice ha hn hc, .slice ra rn rc] 35) = w0 at *
  refine hN.mono ?_
  rintro e w1 ⟨rfl, _, c1, same⟩
  have o3 : OwnI w1 lo 2 (.slice ra rn rc) t.revs := o2.same (fun j hj => by
    obtain ⟨cu, hcu⟩ := row_elem' o2 hj
    refine same j (fun e => ?_) (fun i hi e => ?_) (o2.lt j hj).2
    · obtain ⟨cv, hcv⟩ := row_elem' o1.row e
      exact cells_ne hcu hcv (by decide) rfl
    · obtain ⟨cv, hcv⟩ := row_elem' (o1.data i hi) e
      exact cells_ne hcu hcv (by decide) rfl)
  have HB1 := (c1.block w.heap.size (by omega) (by omega)).trans hB
  obtain ⟨⟨q0, q1, q2⟩, _⟩ := tri HB1
  have HA1 : Hid (Chg lo hi w w1) := hA.trans c1
  have hN2 := markInt64S_calls _ lo 2 (.slice ra rn rc) t.revs (k0 + cnt t.homes) lo hi (by omega) (by omega) o3 (fun g hg => ⟨(o3.lt g hg).1, h5 g hg⟩)
  clear hN o1 o2 o3 same c1 HB1 hA hB k0' k1 k2
  generalize k0 + cnt t.homes = kk at *
  go_wp2_with fail
  refine hN2.mono ?_
  rintro e w2 ⟨rfl, _, c2, _⟩
  have HA2 : Hid (Chg lo hi w w2) := HA1.out.trans c2
  clear hN2 c2 q0 q1 q2
  generalize kk + t.revs.length = km at *
  go_wp2
  go_ret
  exact ⟨⟨_, rfl⟩, HA2.out⟩

end Go.Proofs.YtahjaejepkgfdaaGreatDoor
