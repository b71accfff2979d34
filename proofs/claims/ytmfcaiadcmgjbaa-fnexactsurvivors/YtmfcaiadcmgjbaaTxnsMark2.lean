/- markTxnS. -/
import Derived.Test.YtmfcaiadcmgjbaaTxnsMark
namespace Go.Proofs.Ytmfcaiadcmgjbaa
open Go.RowKit

/-- Where the first k have been marked. -/
def TRowM (w : World) (g n k : Nat) (ts : List Tx) (lo hi : Nat → Nat) : Prop :=
  ∃ cells, w.ownsRow g 39 3 (.slice (some ⟨g, 0, none⟩) n n) n cells ∧ ∀ i, k ≤ i → i < n → ∃ hv rv, cells[i * 3 + 1]? = some hv ∧ cells[i * 3 + 2]? = some rv ∧
    TOwn w (lo i) (hi i) (.agg #[.int .i64 (ts.getD i Tx.none).seq, hv, rv]) (ts.getD i Tx.none)
theorem TRowM.of {w : World} {g n : Nat} {ts : List Tx} {lo hi : Nat → Nat} (h : TRowO w g n n ts lo hi) : TRowM w g n 0 ts lo hi := by
  obtain ⟨cells, h1, h2, _⟩ := h
  exact ⟨cells, h1, fun i _ hi => by obtain ⟨hv, rv, _, a1, a2, t⟩ := h2 i hi; exact ⟨hv, rv, a1, a2, t⟩⟩

set_option maxRecDepth 20000 in
set_option maxHeartbeats 2000000 in
theorem markTxnS_some (w : World) (ts : List Tx) (k0 g H : Nat) (lo hi : Nat → Nat) (hk0 : k0 + cntTS ts ≤ 4194304) (h1 : TRowO w g ts.length ts.length ts lo hi) (hH : ∀ i, i < ts.length → hi i ≤ H) (hg : g < H) :
    Calls Try.prog 10 #[.slice (some ⟨g, 0, none⟩) ts.length ts.length, .int .i64 k0] w fun r w' => r = .returned (.int .i64 ((k0 + cntTS ts : Nat) : Int)) ∧ Chg g H w w' := by
  have hB : ∀ i, i < ts.length → g < lo i := fun i hi => by obtain ⟨_, _, _, h4, _⟩ := h1; exact (h4 i hi).1
  have hO : ∀ i j, i < j → j < ts.length → hi i ≤ lo j := by obtain ⟨_, _, _, _, h5⟩ := h1; exact h5
  have hM := TRowM.of h1
  have hlp := cntTS_ge ts
  clear h1
  go_enter Try.func10, Try.ntmps10
  go_wp2
  go_loopw [1, 5] (fun q i wr => ∃ k : Nat, k ≤ ts.length ∧ i = .int .i64 k ∧ q = .int .i64 ((k0 + cntTS (ts.take k) : Nat) : Int) ∧ TRowM wr g ts.length k ts lo hi ∧ Chg g H w wr) (fun _ i _ => ts.length - (intOf i).toNat)
  case atStart => exact ⟨0, Nat.zero_le _, rfl, rfl, hM, Chg.refl _ _ _⟩
  case round =>
    obtain ⟨k, hk, rfl, rfl, hM, hch⟩ := hrel
    by_cases hlt : k < ts.length
    · obtain ⟨cells, hr, hall⟩ := hM
      have hlen : cells.length = ts.length * 3 := hr.1
      obtain ⟨hv, rv, a1, a2, hv2, rv2, cells2, dvs, eq, o1, o2, b1, b2, b3⟩ := hall k (Nat.le_refl _) hlt
      obtain ⟨rfl, rfl⟩ : hv = hv2 ∧ rv = rv2 := by simpa using eq
      have hcs := cntTS_take_succ ts k hlt
      have hcl := cntTS_take_le ts (k + 1)
      have hBk := hB k hlt
      have hHk := hH k hlt
      have hOk : ∀ i, k < i → i < ts.length → hi k ≤ lo i := fun i h h' => hO k i h h'
      have hsq : ∃ u, wr.cell? ⟨g, k * 3, none⟩ = some u := ⟨_, (World.ownsRow.cellAt hr (k * 3) (by omega)).trans (List.getElem?_eq_getElem (by omega))⟩
      obtain ⟨u0, c0⟩ := hsq
      have f0 := World.ownsRow.frozenAt hr (k * 3)
      have hc0 : cntT (ts.getD k Tx.none) = cnt (ts.getD k Tx.none).homes + (ts.getD k Tx.none).revs.length := rfl
      rw [hc0] at hcs
      have hq1 : k0 + cntTS (ts.take k) + 1 + (cnt (ts.getD k Tx.none).homes + (ts.getD k Tx.none).revs.length) ≤ 4194304 := by omega
      have HQ2 : Hid (k0 + cntTS (ts.take (k + 1)) = k0 + cntTS (ts.take k) + 1 + (cnt (ts.getD k Tx.none).homes) + (ts.getD k Tx.none).revs.length) := by show _ = _; omega
      have n4 := cnt_ge (ts.getD k Tx.none).homes
      clear hcs hcl hc0
      generalize (ts.getD k Tx.none).homes = hs at *
      generalize (ts.getD k Tx.none).revs = rs at *
      generalize k0 + cntTS (ts.take k) = q at *
      have hik : (k : Int) < (ts.length : Int) := by omega
      obtain ⟨ha, hn, hcp, rfl⟩ : ∃ a n c, hv = .slice a n c := by
        rcases o1.row.2 with ⟨rfl, _⟩ | ⟨g, cap, cur, rfl, _⟩
        · exact ⟨_, _, _, rfl⟩
        · exact ⟨_, _, _, rfl⟩
      obtain ⟨ra, rn, rcp, rfl⟩ : ∃ a n c, rv = .slice a n c := by
        rcases o2.2 with ⟨rfl, _⟩ | ⟨g, cap, cur, rfl, _⟩
        · exact ⟨_, _, _, rfl⟩
        · exact ⟨_, _, _, rfl⟩
      have C1 : Chg g (g + 1) wr (wr.setCell ⟨g, k * 3, none⟩ (.int .i64 (q : Int))) := Chg.setCell (p := ⟨g, k * 3, none⟩) (Chg.refl _ _ _) (Or.inl ⟨Nat.le_refl _, Nat.lt_succ_self _⟩) _
      have hra := (World.ownsRow.stored hr (k * 3) (.int .i64 (q : Int))).1
      have o1a := o1.chg C1 (fun g hg => by have := o1.lt g hg; omega) (fun i g hi hg => by have := (o1.data i hi).lt g hg; omega)
      have o2a := o2.chg C1 (fun g hg => by have := o2.lt g hg; omega)
      have d1 : (wr.setCell ⟨g, k * 3, none⟩ (.int .i64 (q : Int))).cell? ⟨g, k * 3 + 1, none⟩ = some (.slice ha hn hcp) := by
        rw [World.ownsRow.cellAt hra (k * 3 + 1) (by omega), List.getElem?_set_ne (by omega)]; exact a1
      have hMN : ∀ i, k + 1 ≤ i → i < ts.length → ∃ hv rv, (cells.set (k * 3) (.int .i64 (q : Int)))[i * 3 + 1]? = some hv ∧ (cells.set (k * 3) (.int .i64 (q : Int)))[i * 3 + 2]? = some rv ∧ TOwn (wr.setCell ⟨g, k * 3, none⟩ (.int .i64 (q : Int))) (lo i) (hi i) (.agg #[.int .i64 (ts.getD i Tx.none).seq, hv, rv]) (ts.getD i Tx.none) := fun i h1 h2 => by
        obtain ⟨hv, rv, e1, e2, t⟩ := hall i (by omega) h2
        have := hB i h2
        exact ⟨hv, rv, by rw [List.getElem?_set_ne (by omega)]; exact e1, by rw [List.getElem?_set_ne (by omega)]; exact e2, t.chg C1 (by omega)⟩
      have e2 : (cells.set (k * 3) (.int .i64 (q : Int)))[k * 3 + 2]? = some (.slice ra rn rcp) := by rw [List.getElem?_set_ne (by omega)]; exact a2
      have hcha : Chg g H w (wr.setCell ⟨g, k * 3, none⟩ (.int .i64 (q : Int))) := hch.setCell (p := ⟨g, k * 3, none⟩) (Or.inl ⟨Nat.le_refl _, hg⟩) _
      have HMN : Hid (∀ i, k + 1 ≤ i → i < ts.length → ∃ hv rv, (cells.set (k * 3) (.int .i64 (q : Int)))[i * 3 + 1]? = some hv ∧ (cells.set (k * 3) (.int .i64 (q : Int)))[i * 3 + 2]? = some rv ∧ TOwn (wr.setCell ⟨g, k * 3, none⟩ (.int .i64 (q : Int))) (lo i) (hi i) (.agg #[.int .i64 (ts.getD i Tx.none).seq, hv, rv]) (ts.getD i Tx.none)) := hMN
      have HRA : Hid ((wr.setCell ⟨g, k * 3, none⟩ (.int .i64 (q : Int))).ownsRow g 39 3 (.slice (some ⟨g, 0, none⟩) ts.length ts.length) ts.length (cells.set (k * 3) (.int .i64 (q : Int)))) := hra
      have HCA : Hid (Chg g H w (wr.setCell ⟨g, k * 3, none⟩ (.int .i64 (q : Int)))) := hcha
      have HOk : Hid (∀ i, k < i → i < ts.length → hi k ≤ lo i) := hOk
      have hgs : g < (wr.setCell ⟨g, k * 3, none⟩ (.int .i64 (q : Int))).heap.size := (World.ownsRow.lt hra g rfl).2
      have hN := markHomeS_calls _ (lo k) 44 5 (by decide) (.slice ha hn hcp) hs (q + 1) (lo k) (hi k) (by omega) (by omega) cells2 dvs o1a (fun g hg => ⟨(o1a.lt g hg).1, b1 g hg⟩) (fun i g hi hg => ⟨((o1a.data i hi).lt g hg).1, b2 i g hi hg⟩)
      clear hMN hra hcha C1 hall hr o1 o2 hch eq hOk hO hB hH a1 a2
      go_wp2_with fail
      rw [show (q : Int) + 1 = ((q + 1 : Nat) : Int) from by omega]
      refine hN.mono ?_
      rintro e w2 ⟨rfl, _, c2, same⟩
      have o3 : OwnI w2 (lo k) 2 (.slice ra rn rcp) rs := o2a.same (fun j hj => by
        obtain ⟨cu, hcu⟩ := row_elem' o2a hj
        refine same j (fun e => ?_) (fun i hi e => ?_) (o2a.lt j hj).2
        · obtain ⟨cv, hcv⟩ := row_elem' o1a.row e
          exact cells_ne hcu hcv (by decide) rfl
        · obtain ⟨cv, hcv⟩ := row_elem' (o1a.data i hi) e
          exact cells_ne hcu hcv (by decide) rfl)
      have hd2 : w2.cell? ⟨g, k * 3 + 2, none⟩ = some (.slice ra rn rcp) := c2.cell (by rw [World.ownsRow.cellAt HRA.out (k * 3 + 2) (by omega)]; exact e2) (by omega)
      have HC2 : Hid (Chg (lo k) (hi k) (wr.setCell ⟨g, k * 3, none⟩ (.int .i64 (q : Int))) w2) := c2
      have hN2 := markInt64S_calls w2 (lo k) 2 (.slice ra rn rcp) rs (q + 1 + cnt hs) (lo k) (hi k) (by omega) (by omega) o3 (fun g hg => ⟨(o3.lt g hg).1, b3 g hg⟩)
      clear hN o1a o2a o3 same c2 d1 c0 f0 e2
      generalize q + 1 + cnt hs = kk at *
      go_wp2_with fail
      refine hN2.mono ?_
      rintro e w3 ⟨rfl, _, c3, _⟩
      have C3 : Chg (lo k) (hi k) (wr.setCell ⟨g, k * 3, none⟩ (.int .i64 (q : Int))) w3 := HC2.out.trans c3
      have HCN : Hid (Chg g H w w3) := HCA.out.trans (C3.widen (by omega) (by omega))
      have HMN3 : Hid (TRowM w3 g ts.length (k + 1) ts lo hi) := by
        refine ⟨cells.set (k * 3) (.int .i64 (q : Int)), ?_, fun i h1 h2 => ?_⟩
        rotate_left
        · obtain ⟨hv, rv, e1, e2, t⟩ := HMN.out i h1 h2
          have := HOk.out i (by omega) h2
          exact ⟨hv, rv, e1, e2, t.chg C3 (by omega)⟩
        · obtain ⟨r1, r2⟩ := HRA.out
          refine ⟨r1, ?_⟩
          rcases r2 with r2 | ⟨g', cap, cur, hv, hg', hh, rr⟩
          · exact Or.inl r2
          · have e : g' = g := by injection hv with hv _ _; injection hv with hv; injection hv with hv _; exact hv.symm
            subst e
            exact Or.inr ⟨_, cap, cur, hv, hg', (C3.block _ hgs (by omega)).trans hh, rr⟩
      clear hN2 c3 C3 hd2 HC2 HRA HMN HCA
      go_wp2
      go_roundw
      case rel => exact ⟨k + 1, by omega, by go_num, by rw [HQ2.out]; go_num, HMN3.out, HCN.out⟩
      case measure => simp [intOf]; omega
    · obtain rfl : k = ts.length := by omega
      rw [List.take_length]
      clear hM
      go_wp2
      go_ret
      exact ⟨rfl, hch⟩

theorem markTxnS_calls (w : World) (ts : List Tx) (k0 g H : Nat) (hk0 : k0 + cntTS ts ≤ 4194304) (h1 : ∃ l h, TRowO w g ts.length ts.length ts l h) (hH : w.heap.size ≤ H) :
    Calls Try.prog 10 #[.slice (some ⟨g, 0, none⟩) ts.length ts.length, .int .i64 k0] w fun r w' => r = .returned (.int .i64 ((k0 + cntTS ts : Nat) : Int)) ∧ Chg g H w w' := by
  obtain ⟨l, h, h1⟩ := h1
  refine markTxnS_some w ts k0 g H l h hk0 h1 ?_ ?_
  · obtain ⟨_, _, _, h4, _⟩ := h1
    exact fun i hi => Nat.le_trans (h4 i hi).2 hH
  · obtain ⟨_, hr, _⟩ := h1
    have := (World.ownsRow.lt hr g rfl).2
    omega

end Go.Proofs.Ytmfcaiadcmgjbaa
