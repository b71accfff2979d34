/- Homes of one's own as the law sees them. -/
import Derived.Test.YtmfcaiadcmgjbaaSurvImpl
import Derived.Test.YtmfcaiadcmgjbaaSurvModel
import Derived.Test.YtmfcaiadcmgjbaaHomeEq
import Derived.Test.YtmfcaiadcmgjbaaHomeHeld
import Derived.Test.YtmfcaiadcmgjbaaTxnsMark2
namespace Go.Proofs.Ytmfcaiadcmgjbaa
open Go.RowKit

abbrev psH (es : List Hv) : List Wr := es.map fun e => (e.1, e.2.2)
theorem psH_at {es : List Hv} {i : Nat} (h : i < es.length) : (psH es).getD i (0, []) = (es[i].1, es[i].2.2) := by
  simp [psH, List.getD_eq_getElem?_getD, h]
theorem OwnB.len {w : World} {base : Nat} {e : TypeId} {v : Value} {xs : List Int} (h : OwnB w base e v xs) : xs.length ≤ 9223372036854775807 := by
  rcases h.2 with ⟨_, h0⟩ | ⟨g, cap, cur, _, _, _, hc, hm, _⟩
  · omega
  · unfold maxLen at hm; omega
/-- Homes whose data are seen are seen. -/
theorem pview_of_own {w : World} {base : Nat} {v : Value} {es : List Hv} (h : OwnH w base v es) (hs : SeenH w base es) : PView w base w.heap.size v (psH es) := by
  have hl : (psH es).length = es.length := by simp [psH]
  have h' := h
  rcases h.2 with ⟨e, h0⟩ | ⟨g, cap, cur, e, hg, hh, hc, hm, _⟩
  · have : es = [] := List.eq_nil_of_length_eq_zero h0
    subst this
    exact ⟨none, 0, by rw [e]; rfl, by simp, by simp, Or.inl rfl⟩
  · subst e
    unfold maxLen at hm
    refine ⟨_, cap, by rw [hl], by omega, by omega, ?_⟩
    refine Or.inr ⟨g, 0, rfl, hg, (h'.lt g rfl).2, fun i hi => ?_⟩
    rw [hl] at hi
    obtain ⟨a, b⟩ := OwnH.cells h' i hi
    rw [psH_at hi]
    have hd := hs es[i] (List.getElem_mem hi)
    exact ⟨es[i].2.1, by rw [Nat.zero_add]; exact a, by rw [Nat.zero_add]; exact b, hd.view hd.len (fun g hg => (hd.lt g hg).2)⟩
theorem OwnHs.view {w : World} {base : Nat} {v : Value} {es : List Hv} (h : OwnHs w base v es) : PView w base w.heap.size v (psH es) := pview_of_own h.row h.data
theorem SvSt.view {w wr : World} {v : Value} {ps : List Wr} {n : Nat} (h : SvSt w wr v ps n) : PView wr w.heap.size wr.heap.size v ps := by
  obtain ⟨g, cp, es, _, h2, h3, _, rfl, _⟩ := h
  exact pview_of_own h2 h3
/-- As the marks want them. -/
theorem OwnHs.px {w : World} {base : Nat} {v : Value} {es : List Hv} (h : OwnHs w base v es) : OwnPx w base 44 5 v (psH es) (cellsH es) (fun i => (es.getD i (0, .slice none 0 0, [])).2.1) := by
  have hl : (psH es).length = es.length := by simp [psH]
  have hg : ∀ i (hi : i < es.length), es.getD i (0, .slice none 0 0, []) = es[i] := fun i hi => by simp [List.getD_eq_getElem?_getD, hi]
  refine ⟨by rw [hl]; exact h.row, fun i hi => ?_, fun i hi => ?_, fun i hi => ?_, fun i j g hij hj h1 h2 => ?_⟩
  · rw [hl] at hi; rw [psH_at hi]; exact (cellsH_at es i hi).1
  · rw [hl] at hi; rw [hg i hi]; exact (cellsH_at es i hi).2
  · rw [hl] at hi; rw [psH_at hi, hg i hi]; exact h.data _ (List.getElem_mem hi)
  · rw [hl] at hj
    rw [hg i (by omega)] at h1
    rw [hg j hj] at h2
    exact List.pairwise_iff_getElem.1 h.apart i j (by omega) hj hij g h1 h2
theorem surv_len {ts : List Tx} {p : Wr} (h : p ∈ survO ts) : p.2.length ≤ cntTS ts := by
  have h' : p ∈ survL ts := by
    unfold survO at h
    split at h
    · cases h
    · exact h
  rw [rises_look (surv_rises ts)] at h'
  obtain ⟨b, _, rfl⟩ := List.mem_map.1 h'
  simp only
  rw [look_surv]
  unfold keptL
  cases hc : copsL ts b with
  | none => simp
  | some c =>
    obtain ⟨q, d⟩ := c
    have := copsL_len hc
    simp only
    split
    · exact this
    · split <;> simp [this]
theorem cnt_small {ps : List Wr} {N : Nat} (h : ∀ p ∈ ps, p.2.length ≤ N) : cnt ps ≤ ps.length * (N + 1) := by
  induction ps with
  | nil => simp [cnt]
  | cons p ps ih =>
    have e : cnt (p :: ps) = p.2.length + 1 + cnt ps := by simp [cnt]
    have h1 := h p List.mem_cons_self
    have h2 := ih fun q hq => h q (List.mem_cons_of_mem _ hq)
    rw [e, List.length_cons, Nat.add_mul]
    omega
theorem surv_cnt {ts : List Tx} (hl : cntTS ts ≤ 1048576) (hn : (survO ts).length ≤ 20000) : cnt (survO ts) ≤ 30000000000 := by
  have h := cnt_small (ps := survO ts) (N := 1048576) fun p hp => Nat.le_trans (surv_len hp) hl
  have : (survO ts).length * (1048576 + 1) ≤ 20000 * (1048576 + 1) := Nat.mul_le_mul_right _ hn
  omega

end Go.Proofs.Ytmfcaiadcmgjbaa
