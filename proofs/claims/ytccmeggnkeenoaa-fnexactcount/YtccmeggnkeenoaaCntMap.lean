/- Count: the program's table of inodes, as a map. -/
import Derived.Test.YtccmeggnkeenoaaCntSpec
import Derived.Maps.Own
import Derived.Maps.OwnSet
import Derived.Maps.Views
import Derived.Maps.RangeWalk
namespace Go.Proofs.Ytccmeggnkeenoaa
open Go.RowKit

def keyI (x : Int) : Lit := .int .i64 x
theorem keyI_inj {x y : Int} (h : keyI x = keyI y) : x = y := by unfold keyI at h; injection h
theorem keyI_of {x : Int} (h : (Lit.int .i64 x).wf = true) : keyOf Try.prog 2 (.int .i64 x) = some (keyI x) := by
  simp [keyOf, Try.underlying2, mapKey, h, keyI]
theorem keyI_key (x : Int) : WideAt.IsKeyLit (keyI x) := trivial

/-- What the map says of the table. -/
structure SaysN (D : DataW Unit) (T : List (Int × Int)) : Prop where
  has : ∀ x : Int, Maps.has D (keyI x) = decide (x ∈ T.map Prod.fst)
  at' : ∀ q ∈ T, D.atKey (keyI q.1) (.lit (.int .i64 0)) = .lit (.int .i64 q.2)
  tidy : Maps.Tidy D
  len : Maps.size D = T.length
  nodup : (T.map Prod.fst).Nodup
theorem SaysN.nil : SaysN (.map []) [] := ⟨fun _ => rfl, fun _ h => absurd h List.not_mem_nil, Maps.tidy_empty, rfl, List.nodup_nil⟩
theorem SaysN.new {D : DataW Unit} {T : List (Int × Int)} {x : Int} (v : Int) (h : SaysN D T) (hx : x ∉ T.map Prod.fst) : SaysN (D.put (keyI x) (.lit (.int .i64 v))) (T ++ [(x, v)]) := by
  have hh : Maps.has D (keyI x) = false := by rw [h.has]; exact decide_eq_false hx
  refine ⟨fun y => ?_, fun q hq => ?_, Maps.Tidy.put h.tidy (keyI_key x) _, ?_, ?_⟩
  · by_cases e : y = x
    · subst e
      rw [Maps.has_put_same h.tidy.isMap (keyI_key y)]
      exact (decide_eq_true (by simp)).symm
    · rw [Maps.has_put_other (fun h' => e (keyI_inj h')), h.has, Bool.eq_iff_iff, decide_eq_true_eq, decide_eq_true_eq, List.map_append, List.mem_append]
      simp [e]
  · rcases List.mem_append.1 hq with hq | hq
    · have : q.1 ≠ x := fun e => hx (by rw [← e]; exact List.mem_map.2 ⟨q, hq, rfl⟩)
      rw [Maps.atKey_put_other (fun h' => this (keyI_inj h'))]
      exact h.at' q hq
    · obtain rfl := List.mem_singleton.1 hq
      exact Maps.atKey_put_same h.tidy.isMap (keyI_key x) _ _
  · rw [Maps.size_put h.tidy, hh, List.length_append, h.len]; rfl
  · rw [List.map_append, List.map_cons, List.map_nil]
    rw [List.nodup_append]
    refine ⟨h.nodup, by simp, fun a ha b hb => ?_⟩
    obtain rfl := List.mem_singleton.1 hb
    exact fun e => hx (by rw [← e]; exact ha)
theorem SaysN.again {D : DataW Unit} {T : List (Int × Int)} {x v : Int} (v' : Int) (h : SaysN D (T ++ [(x, v)])) : SaysN (D.put (keyI x) (.lit (.int .i64 v'))) (T ++ [(x, v')]) := by
  have hm : (T ++ [(x, v')]).map Prod.fst = (T ++ [(x, v)]).map Prod.fst := by simp
  have hh : Maps.has D (keyI x) = true := by rw [h.has]; exact decide_eq_true (by simp)
  have hnd := h.nodup
  rw [List.map_append, List.map_cons, List.map_nil, List.nodup_append] at hnd
  refine ⟨fun y => ?_, fun q hq => ?_, Maps.Tidy.put h.tidy (keyI_key x) _, ?_, by rw [hm]; exact h.nodup⟩
  · rw [hm]
    by_cases e : y = x
    · subst e
      rw [Maps.has_put_same h.tidy.isMap (keyI_key y), ← h.has, hh]
    · rw [Maps.has_put_other (fun h' => e (keyI_inj h')), h.has]
  · rcases List.mem_append.1 hq with hq | hq
    · have : q.1 ≠ x := hnd.2.2 q.1 (List.mem_map.2 ⟨q, hq, rfl⟩) x (by simp)
      rw [Maps.atKey_put_other (fun h' => this (keyI_inj h'))]
      exact h.at' q (List.mem_append.2 (Or.inl hq))
    · obtain rfl := List.mem_singleton.1 hq
      exact Maps.atKey_put_same h.tidy.isMap (keyI_key x) _ _
  · rw [Maps.size_put h.tidy, hh, if_pos rfl, h.len]; simp

/-- The table of nodes. -/
def tabS (T : List (Int × Int)) (t : Nod) : List (Int × Int) := if t.i ∈ T.map Prod.fst then T else T ++ [(t.i, bkN t.b)]
def tabL (ts : List Nod) : List (Int × Int) := ts.foldl tabS []
theorem tabL_succ (ts : List Nod) {k : Nat} (h : k < ts.length) : tabL (ts.take (k + 1)) = tabS (tabL (ts.take k)) (ts.getD k Nod.none) := by
  have e : ts.getD k Nod.none = ts[k] := by simp [List.getD_eq_getElem?_getD, h]
  unfold tabL
  rw [List.take_succ_eq_append_getElem h, List.foldl_append, e]
  rfl
/-- The sum of those that are taken. -/
def sumP (p : Int → Bool) : List (Int × Int) → Int
  | [] => 0
  | q :: r => (if p q.1 = true then q.2 else 0) + sumP p r
theorem sumP_app (p : Int → Bool) (a b : List (Int × Int)) : sumP p (a ++ b) = sumP p a + sumP p b := by
  induction a with
  | nil => simp [sumP]
  | cons q r ih => simp only [List.cons_append, sumP, ih]; omega
theorem sumP_congr {p p' : Int → Bool} {T : List (Int × Int)} (h : ∀ q ∈ T, p q.1 = p' q.1) : sumP p T = sumP p' T := by
  induction T with
  | nil => rfl
  | cons q r ih =>
    simp only [sumP]
    rw [h q (by simp), ih (fun q' hq => h q' (by simp [hq]))]
theorem sumP_none {p : Int → Bool} {T : List (Int × Int)} (h : ∀ q ∈ T, p q.1 = false) : sumP p T = 0 := by
  induction T with
  | nil => rfl
  | cons q r ih =>
    simp only [sumP]
    rw [h q (by simp), ih (fun q' hq => h q' (by simp [hq]))]
    rfl
theorem sumP_step {p p' : Int → Bool} {x c : Int} : ∀ {T : List (Int × Int)}, (T.map Prod.fst).Nodup → (x, c) ∈ T → p x = false → (∀ y, p' y = (p y || y == x)) → sumP p' T = sumP p T + c
  | [], _, h, _, _ => absurd h List.not_mem_nil
  | q :: r, hn, hm, hp, hp' => by
    rw [List.map_cons, List.nodup_cons] at hn
    simp only [sumP]
    rcases List.mem_cons.1 hm with e | hr
    · have hq1 : q.1 = x := by rw [← e]
      have hq2 : q.2 = c := by rw [← e]
      have hrest : sumP p' r = sumP p r := sumP_congr fun q' hq' => by
        rw [hp' q'.1]
        have : q'.1 ≠ x := fun e' => hn.1 (by rw [hq1, ← e']; exact List.mem_map.2 ⟨q', hq', rfl⟩)
        have : (q'.1 == x) = false := by simpa using this
        rw [this, Bool.or_false]
      rw [hrest, hp' q.1, hq1, hq2, hp]
      simp
      omega
    · have hqx : q.1 ≠ x := fun e' => hn.1 (by rw [e']; exact List.mem_map.2 ⟨(x, c), hr, rfl⟩)
      have hqb : (q.1 == x) = false := by simpa using hqx
      rw [sumP_step hn.2 hr hp hp', hp' q.1, hqb, Bool.or_false]
      omega
theorem sumP_bd {p : Int → Bool} {T : List (Int × Int)} (h : ∀ q ∈ T, 0 ≤ q.2 ∧ q.2 ≤ 2048) : 0 ≤ sumP p T ∧ sumP p T ≤ 2048 * (T.length : Int) := by
  induction T with
  | nil => simp [sumP]
  | cons q r ih =>
    have h1 := ih (fun q' hq => h q' (by simp [hq]))
    have h2 := h q (by simp)
    simp only [sumP, List.length_cons]
    split <;> omega
theorem tab_cu (ts : List Nod) : ∀ k, k ≤ ts.length → (tabL (ts.take k)).map Prod.fst = (cuL (ts.take k)).1 ∧ sumP (fun _ => true) (tabL (ts.take k)) = (cuL (ts.take k)).2 ∧ ∀ q ∈ tabL (ts.take k), 0 ≤ q.2 ∧ q.2 ≤ 2048
  | 0, _ => by simp [tabL, cuL, sumP]
  | k + 1, h => by
    obtain ⟨h1, h2, h3⟩ := tab_cu ts k (by omega)
    rw [tabL_succ ts (by omega), cuL_succ ts (by omega)]
    unfold tabS stepU
    rw [h1]
    split
    · exact ⟨h1, h2, h3⟩
    · refine ⟨by rw [List.map_append, h1]; rfl, by rw [sumP_app, h2]; simp [sumP], fun q hq => ?_⟩
      rcases List.mem_append.1 hq with hq | hq
      · exact h3 q hq
      · obtain rfl := List.mem_singleton.1 hq
        exact bkN_bd _

end Go.Proofs.Ytccmeggnkeenoaa
