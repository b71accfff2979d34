/- Homes that a loop builds of the copies. -/
import Derived.Test.YtmfcaiadcmgjbaaSurvKeys
import Derived.Test.YtmfcaiadcmgjbaaImplClone
namespace Go.Proofs.Ytmfcaiadcmgjbaa
open Go.RowKit

/-- A copy looked up without asking whether there is one. -/
theorem look_one {W : World} {bm n : Nat} {D : DataW Value} {f : Int → Option Cp} (h : W.ownsMap Try.prog 2 rC bm n D) (hs : SaysF zC D (fun x => (f x).map cpD)) {x : Int} (hx : (Lit.int .i64 x).wf = true) {c : Cp} (hf : f x = some c) :
    (Instr.lookup 47 (.map (some bm)) (.int .i64 x) false).run Try.prog W = .ok (.agg #[.int .i64 (c.1 : Nat), c.2.1]) W := by
  have K := Maps.int_keyed (P := Try.prog) (k := 2) Try.underlying2
  obtain ⟨v, ps, hrun, hv⟩ := h.lookup K Try.underlying47 (z := .agg #[.int .i64 0, .slice none 0 0]) (by kernel_rfl) (zd := zC) rfl (kI_of hx)
  have hd : DataW.held v = D.atKey (kI x) zC := (Prod.mk.inj (Option.some.inj hv)).1
  rw [hrun]
  rw [hs.at' x (cpD c) (by rw [hf]; rfl)] at hd
  injection hd with hd
  rw [hd]
theorem field_copy (w : World) (a : Int) (ao : Option Addr) (l c : Nat) : (Instr.field 52 (.agg #[.int .i64 a, .slice ao l c]) 1).run Try.prog w = .ok (.slice ao l c) w := by
  simp [Instr.field, run_underlying Try.underlying52, asAgg, part, isAgg, run_underlying Try.underlying42]

theorem lastL_len {l : List Wr} {b : Int} {d : List Int} (h : lastL l b = some d) : d.length ≤ cnt l := by
  induction l with
  | nil => cases h
  | cons p l ih =>
    have e : cnt (p :: l) = p.2.length + 1 + cnt l := by simp [cnt]
    simp only [lastL] at h
    cases hl : lastL l b with
    | some d' =>
      rw [hl] at h
      simp at h
      subst h
      have := ih hl
      omega
    | none =>
      rw [hl] at h
      by_cases hp : p.1 = b
      · simp [hp] at h
        subst h
        omega
      · simp [hp] at h
theorem copsL_len {ts : List Tx} {b : Int} {p : Nat} {d : List Int} (h : copsL ts b = some (p, d)) : d.length ≤ cntTS ts := by
  induction ts generalizing p with
  | nil => cases h
  | cons t ts ih =>
    have e : cntTS (t :: ts) = cntT t + 1 + cntTS ts := by simp [cntTS]
    simp only [copsL] at h
    cases hc : copsL ts b with
    | some c =>
      rw [hc] at h
      simp at h
      have := ih (p := c.1) (by rw [hc, ← h.2])
      omega
    | none =>
      rw [hc] at h
      cases hd : lastL t.homes b with
      | none => rw [hd] at h; cases h
      | some d' =>
        rw [hd] at h
        simp at h
        have := lastL_len hd
        unfold cntT at e
        rw [h.2] at this
        omega

/-- The data of homes, each apart. -/
def ApartH (es : List Hv) : Prop := es.Pairwise fun a b => ∀ g, a.2.1.ownBlock = some g → b.2.1.ownBlock ≠ some g
/-- Homes that are one's own with all that they hold. -/
structure OwnHs (w : World) (base : Nat) (v : Value) (es : List Hv) : Prop where
  row : OwnH w base v es
  data : SeenH w base es
  apart : ApartH es
theorem OwnHs.zero (w : World) (base : Nat) : OwnHs w base (.slice none 0 0) [] := ⟨⟨rfl, Or.inl ⟨rfl, rfl⟩⟩, fun _ h => by simp at h, List.Pairwise.nil⟩
theorem OwnHs.low {w : World} {base base' : Nat} {v : Value} {es : List Hv} (h : OwnHs w base v es) (hb : base' ≤ base) : OwnHs w base' v es :=
  ⟨h.row.low hb, fun e he => (h.data e he).base (fun g hg => by have := ((h.data e he).lt g hg).1; omega), h.apart⟩
theorem OwnHs.chg {w w' : World} {base l r : Nat} {v : Value} {es : List Hv} (h : OwnHs w base v es) (c : Chg l r w w') (d : r ≤ base ∨ r ≤ l ∨ w.heap.size ≤ l) : OwnHs w' base v es :=
  ⟨h.row.chg c d, h.data.chg c d, h.apart⟩
/-- One home more. -/
theorem OwnHs.more {w w1 w2 : World} {base g cp n r : Nat} {v dv : Value} {es : List Hv} {q : Int} {xs : List Int} (h : OwnHs w base v es) (hb : base ≤ w.heap.size) (hd : OwnB w1 w.heap.size 5 dv xs) (c : Chg 0 0 w w1)
    (ho : OwnH w2 base (.slice (some ⟨g, 0, none⟩) n cp) (es ++ [(q, dv, xs)])) (_c2 : Chg base r (w1.alloc (.cells #[.int .i64 q, dv] 44)) w2)
    (hk : ∀ (j : Nat) (cur : Array Value) (t : TypeId), t ≠ 44 → (w1.alloc (.cells #[.int .i64 q, dv] 44)).heap[j]? = some (.cells cur t (0, 0)) → w2.heap[j]? = some (.cells cur t (0, 0))) :
    OwnHs w2 base (.slice (some ⟨g, 0, none⟩) n cp) (es ++ [(q, dv, xs)]) := by
  have cA : Chg 0 0 w1 (w1.alloc (.cells #[.int .i64 q, dv] 44)) := Chg.alloc (Chg.refl 0 0 w1) _
  refine ⟨ho, fun e he => ?_, ?_⟩
  · rcases List.mem_append.1 he with r | r
    · exact OwnB.keepH (((h.data e r).chg c (fun g _ => by omega)).chg cA (fun g _ => by omega)) hk
    · obtain rfl := List.mem_singleton.1 r
      exact OwnB.keepH ((hd.base (fun g hg => by have := (hd.lt g hg).1; omega)).chg cA (fun g _ => by omega)) hk
  · refine List.pairwise_append.2 ⟨h.apart, List.pairwise_singleton _ _, fun a ha b hb' g h1 h2 => ?_⟩
    obtain rfl := List.mem_singleton.1 hb'
    have := ((h.data a ha).lt g h1).2
    have := (hd.lt g h2).1
    omega
theorem OwnHs.slice {w : World} {base : Nat} {v : Value} {es : List Hv} (h : OwnHs w base v es) : ∃ a n c, v = .slice a n c := by
  obtain ⟨a, c, e⟩ := h.row.slice
  exact ⟨_, _, _, e⟩

/-- What is told of the program's answer. -/
def SurvAns (w w' : World) (ts : List Wr) (e : Ending) : Prop := ∃ v es, e = .returned v ∧ OwnHs w' w.heap.size v es ∧ es.map (fun e => (e.1, e.2.2)) = ts ∧ es.length ≤ 20000 ∧ Chg 0 0 w w'

end Go.Proofs.Ytmfcaiadcmgjbaa
