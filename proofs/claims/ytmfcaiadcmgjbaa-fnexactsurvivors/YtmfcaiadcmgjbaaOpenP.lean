/- Several short texts in one: TxnsMark2, SurvFin, OpenP. -/
import Derived.Test.YtmfcaiadcmgjbaaTxnsMark
import Derived.Test.YtmfcaiadcmgjbaaSurvImpl
import Derived.Test.YtmfcaiadcmgjbaaSurvModel
import Derived.Test.YtmfcaiadcmgjbaaHomeEq
import Derived.Test.YtmfcaiadcmgjbaaHomeHeld
import Derived.Test.YtmfcaiadcmgjbaaRows
import Derived.Test.YtmfcaiadcmgjbaaMem
import Derived.ProofKit
import Derived.OpenShut
import Derived.Carry
import Derived.ChangeOld
import Derived.Below
import Derived.Lib.SmallJoins
import Derived.Deep.SlicePairs
namespace Go.Proofs.Ytmfcaiadcmgjbaa
open Go.RowKit

/-- Where the first k have been marked. -/
def TRowM (w : World) (g n k : Nat) (ts : List Tx) (lo hi : Nat → Nat) : Prop :=
  ∃ cells, w.ownsRow g 39 3 (.slice (some ⟨g, 0, none⟩) n n) n cells ∧ ∀ i, k ≤ i → i < n → ∃ hv rv, cells[i * 3 + 1]? = some hv ∧ cells[i * 3 + 2]? = some rv ∧
    TOwn w (lo i) (hi i) (.agg #[.int .i64 (ts.getD i Tx.none).seq, hv, rv]) (ts.getD i Tx.none)
theorem TRowM.of {w : World} {g n : Nat} {ts : List Tx} {lo hi : Nat → Nat} (h : TRowO w g n n ts lo hi) : TRowM w g n 0 ts lo hi := by
  obtain ⟨cells, h1, h2, _⟩ := h
  exact ⟨cells, h1, fun i _ hi => by obtain ⟨hv, rv, _, a1, a2, t⟩ := h2 i hi; exact ⟨hv, rv, a1, a2, t⟩⟩

set_option maxRecDepth 20000 in
set_option maxHeartbeats 2000000 in
theorem markTxnS_some (w : World) (ts : List Tx) (k0 g H : Nat) (lo hi : Nat → Nat) (hk0 : k0 + cntTS ts ≤ 4194304) (h1 : TRowO w g ts.length ts.length ts lo hi) (hH : ∀ i, i < ts.length → hi i ≤ H) (hg : g < H) :
    Calls Try.prog 10 #[.slice (some ⟨g, 0, none⟩) ts.length ts.length, .int .i64 k0] w fun r w' => r = .returned (.int .i64 ((k0 + cntTS ts : Nat) : Int)) ∧ Chg g H w w' := by
  have hB : ∀ i, i < ts.length → g < lo i := fun i hi => by obtain ⟨_, _, _, h4, _⟩ := h1; exact (h4 i hi).1
  have hO : ∀ i j, i < j → j < ts.length → hi i ≤ lo j := by obtain ⟨_, _, _, _, h5⟩ := h1; exact h5
  have hM := TRowM.of h1
  have hlp := cntTS_ge ts
  clear h1
  go_enter Try.func10, Try.ntmps10
  go_wp2
  go_loopw [1, 5] (fun q i wr => ∃ k : Nat, k ≤ ts.length ∧ i = .int .i64 k ∧ q = .int .i64 ((k0 + cntTS (ts.take k) : Nat) : Int) ∧ TRowM wr g ts.length k ts lo hi ∧ Chg g H w wr) (fun _ i _ => ts.length - (intOf i).toNat)
  case atStart => exact ⟨0, Nat.zero_le _, rfl, rfl, hM, Chg.refl _ _ _⟩
  case round =>
    obtain ⟨k, hk, rfl, rfl, hM, hch⟩ := hrel
    by_cases hlt : k < ts.length
    · obtain ⟨cells, hr, hall⟩ := hM
      have hlen : cells.length = ts.length * 3 := hr.1
      obtain ⟨hv, rv, a1, a2, hv2, rv2, cells2, dvs, eq, o1, o2, b1, b2, b3⟩ := hall k (Nat.le_refl _) hlt
      obtain ⟨rfl, rfl⟩ : hv = hv2 ∧ rv = rv2 := by simpa using eq
      have hcs := cntTS_take_succ ts k hlt
      have hcl := cntTS_take_le ts (k + 1)
      have hBk := hB k hlt
      have hHk := hH k hlt
      have hOk : ∀ i, k < i → i < ts.length → hi k ≤ lo i := fun i h h' => hO k i h h'
      have hsq : ∃ u, wr.cell? ⟨g, k * 3, none⟩ = some u := ⟨_, (World.ownsRow.cellAt hr (k * 3) (by omega)).trans (List.getElem?_eq_getElem (by omega))⟩
      obtain ⟨u0, c0⟩ := hsq
      have f0 := World.ownsRow.frozenAt hr (k * 3)
      have hc0 : cntT (ts.getD k Tx.none) = cnt (ts.getD k Tx.none).homes + (ts.getD k Tx.none).revs.length := rfl
      rw [hc0] at hcs
      have hq1 : k0 + cntTS (ts.take k) + 1 + (cnt (ts.getD k Tx.none).homes + (ts.getD k Tx.none).revs.length) ≤ 4194304 := by omega
      have HQ2 : Hid (k0 + cntTS (ts.take (k + 1)) = k0 + cntTS (ts.take k) + 1 + (cnt (ts.getD k Tx.none).homes) + (ts.getD k Tx.none).revs.length) := by show _ = _; omega
      have n4 := cnt_ge (ts.getD k Tx.none).homes
      clear hcs hcl hc0
      generalize (ts.getD k Tx.none).homes = hs at *
      generalize (ts.getD k Tx.none).revs = rs at *
      generalize k0 + cntTS (ts.take k) = q at *
      have hik : (k : Int) < (ts.length : Int) := by omega
      obtain ⟨ha, hn, hcp, rfl⟩ : ∃ a n c, hv = .slice a n c := by
        rcases o1.row.2 with ⟨rfl, _⟩ | ⟨g, cap, cur, rfl, _⟩
        · exact ⟨_, _, _, rfl⟩
        · exact ⟨_, _, _, rfl⟩
      obtain ⟨ra, rn, rcp, rfl⟩ : ∃ a n c, rv = .slice a n c := by
        rcases o2.2 with ⟨rfl, _⟩ | ⟨g, cap, cur, rfl, _⟩
        · exact ⟨_, _, _, rfl⟩
        · exact ⟨_, _, _, rfl⟩
      have C1 : Chg g (g + 1) wr (wr.setCell ⟨g, k * 3, none⟩ (.int .i64 (q : Int))) := Chg.setCell (p := ⟨g, k * 3, none⟩) (Chg.refl _ _ _) (Or.inl ⟨Nat.le_refl _, Nat.lt_succ_self _⟩) _
      have hra := (World.ownsRow.stored hr (k * 3) (.int .i64 (q : Int))).1
      have o1a := o1.chg C1 (fun g hg => by have := o1.lt g hg; omega) (fun i g hi hg => by have := (o1.data i hi).lt g hg; omega)
      have o2a := o2.chg C1 (fun g hg => by have := o2.lt g hg; omega)
      have d1 : (wr.setCell ⟨g, k * 3, none⟩ (.int .i64 (q : Int))).cell? ⟨g, k * 3 + 1, none⟩ = some (.slice ha hn hcp) := by
        rw [World.ownsRow.cellAt hra (k * 3 + 1) (by omega), List.getElem?_set_ne (by omega)]; exact a1
      have hMN : ∀ i, k + 1 ≤ i → i < ts.length → ∃ hv rv, (cells.set (k * 3) (.int .i64 (q : Int)))[i * 3 + 1]? = some hv ∧ (cells.set (k * 3) (.int .i64 (q : Int)))[i * 3 + 2]? = some rv ∧ TOwn (wr.setCell ⟨g, k * 3, none⟩ (.int .i64 (q : Int))) (lo i) (hi i) (.agg #[.int .i64 (ts.getD i Tx.none).seq, hv, rv]) (ts.getD i Tx.none) := fun i h1 h2 => by
        obtain ⟨hv, rv, e1, e2, t⟩ := hall i (by omega) h2
        have := hB i h2
        exact ⟨hv, rv, by rw [List.getElem?_set_ne (by omega)]; exact e1, by rw [List.getElem?_set_ne (by omega)]; exact e2, t.chg C1 (by omega)⟩
      have e2 : (cells.set (k * 3) (.int .i64 (q : Int)))[k * 3 + 2]? = some (.slice ra rn rcp) := by rw [List.getElem?_set_ne (by omega)]; exact a2
      have hcha : Chg g H w (wr.setCell ⟨g, k * 3, none⟩ (.int .i64 (q : Int))) := hch.setCell (p := ⟨g, k * 3, none⟩) (Or.inl ⟨Nat.le_refl _, hg⟩) _
      have HMN : Hid (∀ i, k + 1 ≤ i → i < ts.length → ∃ hv rv, (cells.set (k * 3) (.int .i64 (q : Int)))[i * 3 + 1]? = some hv ∧ (cells.set (k * 3) (.int .i64 (q : Int)))[i * 3 + 2]? = some rv ∧ TOwn (wr.setCell ⟨g, k * 3, none⟩ (.int .i64 (q : Int))) (lo i) (hi i) (.agg #[.int .i64 (ts.getD i Tx.none).seq, hv, rv]) (ts.getD i Tx.none)) := hMN
      have HRA : Hid ((wr.setCell ⟨g, k * 3, none⟩ (.int .i64 (q : Int))).ownsRow g 39 3 (.slice (some ⟨g, 0, none⟩) ts.length ts.length) ts.length (cells.set (k * 3) (.int .i64 (q : Int)))) := hra
      have HCA : Hid (Chg g H w (wr.setCell ⟨g, k * 3, none⟩ (.int .i64 (q : Int)))) := hcha
      have HOk : Hid (∀ i, k < i → i < ts.length → hi k ≤ lo i) := hOk
      have hgs : g < (wr.setCell ⟨g, k * 3, none⟩ (.int .i64 (q : Int))).heap.size := (World.ownsRow.lt hra g rfl).2
      have hN := markHomeS_calls _ (lo k) 44 5 (by decide) (.slice ha hn hcp) hs (q + 1) (lo k) (hi k) (by omega) (by omega) cells2 dvs o1a (fun g hg => ⟨(o1a.lt g hg).1, b1 g hg⟩) (fun i g hi hg => ⟨((o1a.data i hi).lt g hg).1, b2 i g hi hg⟩)
      clear hMN hra hcha C1 hall hr o1 o2 hch eq hOk hO hB hH a1 a2
      go_wp2_with fail
      rw [show (q : Int) + 1 = ((q + 1 : Nat) : Int) from by omega]
      refine hN.mono ?_
      rintro e w2 ⟨rfl, _, c2, same⟩
      have o3 : OwnI w2 (lo k) 2 (.slice ra rn rcp) rs := o2a.same (fun j hj => by
        obtain ⟨cu, hcu⟩ := row_elem' o2a hj
        refine same j (fun e => ?_) (fun i hi e => ?_) (o2a.lt j hj).2
        · obtain ⟨cv, hcv⟩ := row_elem' o1a.row e
          exact cells_ne hcu hcv (by decide) rfl
        · obtain ⟨cv, hcv⟩ := row_elem' (o1a.data i hi) e
          exact cells_ne hcu hcv (by decide) rfl)
      have hd2 : w2.cell? ⟨g, k * 3 + 2, none⟩ = some (.slice ra rn rcp) := c2.cell (by rw [World.ownsRow.cellAt HRA.out (k * 3 + 2) (by omega)]; exact e2) (by omega)
      have HC2 : Hid (Chg (lo k) (hi k) (wr.setCell ⟨g, k * 3, none⟩ (.int .i64 (q : Int))) w2) := c2
      have hN2 := markInt64S_calls w2 (lo k) 2 (.slice ra rn rcp) rs (q + 1 + cnt hs) (lo k) (hi k) (by omega) (by omega) o3 (fun g hg => ⟨(o3.lt g hg).1, b3 g hg⟩)
      clear hN o1a o2a o3 same c2 d1 c0 f0 e2
      generalize q + 1 + cnt hs = kk at *
      go_wp2_with fail
      refine hN2.mono ?_
      rintro e w3 ⟨rfl, _, c3, _⟩
      have C3 : Chg (lo k) (hi k) (wr.setCell ⟨g, k * 3, none⟩ (.int .i64 (q : Int))) w3 := HC2.out.trans c3
      have HCN : Hid (Chg g H w w3) := HCA.out.trans (C3.widen (by omega) (by omega))
      have HMN3 : Hid (TRowM w3 g ts.length (k + 1) ts lo hi) := by
        refine ⟨cells.set (k * 3) (.int .i64 (q : Int)), ?_, fun i h1 h2 => ?_⟩
        rotate_left
        · obtain ⟨hv, rv, e1, e2, t⟩ := HMN.out i h1 h2
          have := HOk.out i (by omega) h2
          exact ⟨hv, rv, e1, e2, t.chg C3 (by omega)⟩
        · obtain ⟨r1, r2⟩ := HRA.out
          refine ⟨r1, ?_⟩
          rcases r2 with r2 | ⟨g', cap, cur, hv, hg', hh, rr⟩
          · exact Or.inl r2
          · have e : g' = g := by injection hv with hv _ _; injection hv with hv; injection hv with hv _; exact hv.symm
            subst e
            exact Or.inr ⟨_, cap, cur, hv, hg', (C3.block _ hgs (by omega)).trans hh, rr⟩
      clear hN2 c3 C3 hd2 HC2 HRA HMN HCA
      go_wp2
      go_roundw
      case rel => exact ⟨k + 1, by omega, by go_num, by rw [HQ2.out]; go_num, HMN3.out, HCN.out⟩
      case measure => simp [intOf]; omega
    · obtain rfl : k = ts.length := by omega
      rw [List.take_length]
      clear hM
      go_wp2
      go_ret
      exact ⟨rfl, hch⟩

theorem markTxnS_calls (w : World) (ts : List Tx) (k0 g H : Nat) (hk0 : k0 + cntTS ts ≤ 4194304) (h1 : ∃ l h, TRowO w g ts.length ts.length ts l h) (hH : w.heap.size ≤ H) :
    Calls Try.prog 10 #[.slice (some ⟨g, 0, none⟩) ts.length ts.length, .int .i64 k0] w fun r w' => r = .returned (.int .i64 ((k0 + cntTS ts : Nat) : Int)) ∧ Chg g H w w' := by
  obtain ⟨l, h, h1⟩ := h1
  refine markTxnS_some w ts k0 g H l h hk0 h1 ?_ ?_
  · obtain ⟨_, _, _, h4, _⟩ := h1
    exact fun i hi => Nat.le_trans (h4 i hi).2 hH
  · obtain ⟨_, hr, _⟩ := h1
    have := (World.ownsRow.lt hr g rfl).2
    omega

end Go.Proofs.Ytmfcaiadcmgjbaa

namespace Go.Proofs.Ytmfcaiadcmgjbaa
open Go.RowKit

abbrev psH (es : List Hv) : List Wr := es.map fun e => (e.1, e.2.2)
theorem psH_at {es : List Hv} {i : Nat} (h : i < es.length) : (psH es).getD i (0, []) = (es[i].1, es[i].2.2) := by
  simp [psH, List.getD_eq_getElem?_getD, h]
theorem OwnB.len {w : World} {base : Nat} {e : TypeId} {v : Value} {xs : List Int} (h : OwnB w base e v xs) : xs.length ≤ 9223372036854775807 := by
  rcases h.2 with ⟨_, h0⟩ | ⟨g, cap, cur, _, _, _, hc, hm, _⟩
  · omega
  · unfold maxLen at hm; omega
/-- Homes whose data are seen are seen. -/
theorem pview_of_own {w : World} {base : Nat} {v : Value} {es : List Hv} (h : OwnH w base v es) (hs : SeenH w base es) : PView w base w.heap.size v (psH es) := by
  have hl : (psH es).length = es.length := by simp [psH]
  have h' := h
  rcases h.2 with ⟨e, h0⟩ | ⟨g, cap, cur, e, hg, hh, hc, hm, _⟩
  · have : es = [] := List.eq_nil_of_length_eq_zero h0
    subst this
    exact ⟨none, 0, by rw [e]; rfl, by simp, by simp, Or.inl rfl⟩
  · subst e
    unfold maxLen at hm
    refine ⟨_, cap, by rw [hl], by omega, by omega, ?_⟩
    refine Or.inr ⟨g, 0, rfl, hg, (h'.lt g rfl).2, fun i hi => ?_⟩
    rw [hl] at hi
    obtain ⟨a, b⟩ := OwnH.cells h' i hi
    rw [psH_at hi]
    have hd := hs es[i] (List.getElem_mem hi)
    exact ⟨es[i].2.1, by rw [Nat.zero_add]; exact a, by rw [Nat.zero_add]; exact b, hd.view hd.len (fun g hg => (hd.lt g hg).2)⟩
theorem OwnHs.view {w : World} {base : Nat} {v : Value} {es : List Hv} (h : OwnHs w base v es) : PView w base w.heap.size v (psH es) := pview_of_own h.row h.data
theorem SvSt.view {w wr : World} {v : Value} {ps : List Wr} {n : Nat} (h : SvSt w wr v ps n) : PView wr w.heap.size wr.heap.size v ps := by
  obtain ⟨g, cp, es, _, h2, h3, _, rfl, _⟩ := h
  exact pview_of_own h2 h3
/-- As the marks want them. -/
theorem OwnHs.px {w : World} {base : Nat} {v : Value} {es : List Hv} (h : OwnHs w base v es) : OwnPx w base 44 5 v (psH es) (cellsH es) (fun i => (es.getD i (0, .slice none 0 0, [])).2.1) := by
  have hl : (psH es).length = es.length := by simp [psH]
  have hg : ∀ i (hi : i < es.length), es.getD i (0, .slice none 0 0, []) = es[i] := fun i hi => by simp [List.getD_eq_getElem?_getD, hi]
  refine ⟨by rw [hl]; exact h.row, fun i hi => ?_, fun i hi => ?_, fun i hi => ?_, fun i j g hij hj h1 h2 => ?_⟩
  · rw [hl] at hi; rw [psH_at hi]; exact (cellsH_at es i hi).1
  · rw [hl] at hi; rw [hg i hi]; exact (cellsH_at es i hi).2
  · rw [hl] at hi; rw [psH_at hi, hg i hi]; exact h.data _ (List.getElem_mem hi)
  · rw [hl] at hj
    rw [hg i (by omega)] at h1
    rw [hg j hj] at h2
    exact List.pairwise_iff_getElem.1 h.apart i j (by omega) hj hij g h1 h2
theorem surv_len {ts : List Tx} {p : Wr} (h : p ∈ survO ts) : p.2.length ≤ cntTS ts := by
  have h' : p ∈ survL ts := by
    unfold survO at h
    split at h
    · cases h
    · exact h
  rw [rises_look (surv_rises ts)] at h'
  obtain ⟨b, _, rfl⟩ := List.mem_map.1 h'
  simp only
  rw [look_surv]
  unfold keptL
  cases hc : copsL ts b with
  | none => simp
  | some c =>
    obtain ⟨q, d⟩ := c
    have := copsL_len hc
    simp only
    split
    · exact this
    · split <;> simp [this]
theorem cnt_small {ps : List Wr} {N : Nat} (h : ∀ p ∈ ps, p.2.length ≤ N) : cnt ps ≤ ps.length * (N + 1) := by
  induction ps with
  | nil => simp [cnt]
  | cons p ps ih =>
    have e : cnt (p :: ps) = p.2.length + 1 + cnt ps := by simp [cnt]
    have h1 := h p List.mem_cons_self
    have h2 := ih fun q hq => h q (List.mem_cons_of_mem _ hq)
    rw [e, List.length_cons, Nat.add_mul]
    omega
theorem surv_cnt {ts : List Tx} (hl : cntTS ts ≤ 1048576) (hn : (survO ts).length ≤ 20000) : cnt (survO ts) ≤ 30000000000 := by
  have h := cnt_small (ps := survO ts) (N := 1048576) fun p hp => Nat.le_trans (surv_len hp) hl
  have : (survO ts).length * (1048576 + 1) ≤ 20000 * (1048576 + 1) := Nat.mul_le_mul_right _ hn
  omega

end Go.Proofs.Ytmfcaiadcmgjbaa

namespace Go.Proofs.Ytmfcaiadcmgjbaa
open Go.ChangeShapes Go.WideShapes Go.ChangeAt Go.RowKit Go.Joins Go.Deep

theorem own : ownKnob Try.prog.godebug = none := by kernel_rfl
theorem laidOut : laidOutB Try.prog = true := by kernel_rfl

theorem addr_plain {w : World} {a : Addr} {x : Value} {i : Nat} (h : w.cell? (a.add 0) = some x) : a.add i = ⟨a.block, a.off + i, none⟩ ∧ a = ⟨a.block, a.off, none⟩ := by
  obtain ⟨b, off, spot⟩ := a
  have hspot : spot = none := by simpa [Addr.add] using World.cell?_spot h
  subst hspot
  exact ⟨Go.WideShapes.add_plain _ _ _, rfl⟩

/-- A slice of numbers that came in. -/
theorem view_of_trod {H : Type} {enc : TypeId × Value → H} {W : World} {fuel t e : Nat} {k : IntKind} {v : Value} {x : DataW H × List MemPlace} (ht : Try.prog.underlying t = some (.slice e)) (he : Try.prog.underlying e = some (.int k)) (hc : Try.prog.cellsOf e = 1)
    (h : DataW.trod enc Try.prog W 0 (fun _ => true) true fuel t [v] = some x) : ∃ xs, View W 0 W.heap.size k v xs := by
  rcases open_ints ht he hc h with ⟨hcs, _⟩ | ⟨a, len, cap, zs, hcs, _, hl, hm, hz, _, hcell, _⟩
  · simp at hcs; subst hcs; exact ⟨[], View.nil _ _ _ _⟩
  · simp at hcs hz; subst hcs
    unfold maxLen at hm
    refine ⟨zs.take len, some a, cap, by rw [List.length_take, Nat.min_eq_left (by omega)], by rw [List.length_take]; omega, ⟨by rw [List.length_take]; omega, by simp⟩, ?_⟩
    by_cases h0 : len = 0
    · left; subst h0; rfl
    · right
      obtain ⟨b, off, rfl, hc2⟩ := ints_at hcell (by omega)
      refine ⟨b, off, rfl, Nat.zero_le _, lt_of_cell (hc2 0 (by omega)), fun i hi => ?_⟩
      rw [List.length_take] at hi
      rw [hc2 i (by omega)]
      simp only [List.getD_eq_getElem?_getD, List.getElem?_take]
      rw [if_pos (by omega)]

/-- A slice of writes that came in. -/
theorem pview_of_trod {H : Type} {enc : TypeId × Value → H} {W : World} {fuel t e ti ts tb : Nat} {f0 f1 : Field} {v : Value} {x : DataW H × List MemPlace} (ht : Try.prog.underlying t = some (.slice e)) (he : Try.prog.underlying e = some (.struct #[f0, f1]))
    (ce : Try.prog.cellsOf e = 2) (o0 : f0.offset = 0) (o1 : f1.offset = 1) (e0 : f0.type = ti) (e1 : f1.type = ts) (c0 : Try.prog.cellsOf ti = 1) (c1 : Try.prog.cellsOf ts = 1)
    (hi : Try.prog.underlying ti = some (.int .i64)) (hs : Try.prog.underlying ts = some (.slice tb)) (hb : Try.prog.underlying tb = some (.int .u8)) (hcb : Try.prog.cellsOf tb = 1)
    (h : DataW.trod enc Try.prog W 0 (fun _ => true) true fuel t [v] = some x) : ∃ ps, PView W 0 W.heap.size v ps := by
  subst e0 e1
  rcases open_slice_pairs ht he ce o0 o1 c0 c1 h with ⟨hcs, _⟩ | ⟨a, len, cap, m, n, V0, V1, D0, D1, P0, P1, hcs, _, hl, hm, hmm, _, hx⟩
  · simp at hcs; subst hcs; exact ⟨[], PView.nil _ _ _⟩
  · simp at hcs hmm; subst hcs
    subst hmm
    unfold maxLen at hm
    by_cases h0 : len = 0
    · subst h0; exact ⟨[], some a, m, rfl, by simp, by simp, Or.inl rfl⟩
    have hp : ∀ i, a.add i = ⟨a.block, a.off + i, none⟩ := fun i => (addr_plain (i := i) (by simpa using (hx 0 (by omega)).1)).1
    have hp0 : a = ⟨a.block, a.off, none⟩ := (addr_plain (i := 0) (by simpa using (hx 0 (by omega)).1)).2
    have each : ∀ i, i < len → ∃ p : Wr, V0 i = .int .i64 p.1 ∧ View W 0 W.heap.size .u8 (V1 i) p.2 := by
      intro i hi'
      obtain ⟨_, _, t0, t1⟩ := hx i (by omega)
      obtain ⟨q, hq, _, _⟩ := DataW.trod_int hi t0
      obtain ⟨xs, hxs⟩ := view_of_trod hs hb hcb t1
      simp at hq
      exact ⟨(q, xs), hq, hxs⟩
    obtain ⟨f, hf⟩ := choose_lt each
    have hlen : ((List.range len).map f).length = len := by simp
    refine ⟨(List.range len).map f, some a, m, by rw [hlen], by rw [hlen]; omega, by rw [hlen]; exact hl, Or.inr ⟨a.block, a.off, by rw [← hp0], Nat.zero_le _, ?_, ?_⟩⟩
    · have := (hx 0 (by omega)).1
      rw [hp] at this
      exact lt_of_cell this
    · intro i hi'
      rw [hlen] at hi'
      obtain ⟨k0, k1, _, _⟩ := hx i (by omega)
      obtain ⟨g0, g1⟩ := hf i hi'
      have eg : ((List.range len).map f).getD i (0, []) = f i := by simp [List.getD_eq_getElem?_getD, hi']
      rw [hp] at k0 k1
      rw [eg]
      exact ⟨V1 i, by rw [k0, g0], by rw [← k1, Nat.add_assoc], g1⟩

end Go.Proofs.Ytmfcaiadcmgjbaa
