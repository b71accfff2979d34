/- The device settles: settle, flush. -/
import Derived.Test.YtaciallijnhieaaDoorBase
namespace Go.Proofs.YtaciallijnhieaaDoor
open Go.RowKit

/-- The durable bytes behind the first k pending writes, those that K keeps. -/
def stl (K : Nat → Bool) (ps : List Wr) (dur : List Int) : Nat → List Int
  | 0 => dur
  | k + 1 => if K k = true then splice (stl K ps dur k) ((ps.getD k (0, [])).1.toNat * 64) (ps.getD k (0, [])).2 else stl K ps dur k
theorem stl_length (K : Nat → Bool) (d : Dsk) (hv : Valid d) : ∀ k, k ≤ d.pend.length → (stl K d.pend d.dur k).length = d.dur.length
  | 0, _ => rfl
  | k + 1, hk => by
    have ih := stl_length K d hv k (by omega)
    unfold stl
    split
    · obtain ⟨h1, h2, h3⟩ := hv.2.2.2.2 k (by omega)
      rw [length_splice _ _ _ (by rw [ih, h3]; have := hv.1; omega), ih]
    · exact ih
theorem map_splice (f : Int → Value) (xs ys : List Int) (o : Nat) : (splice xs o ys).map f = splice (xs.map f) o (ys.map f) := by
  simp [splice, List.map_append, List.map_take, List.map_drop]
theorem stl_step (K : Nat → Bool) (ps : List Wr) (dur : List Int) (k : Nat) (h : K k = true) :
    splice ((stl K ps dur k).map (Value.int .u8)) ((ps.getD k (0, [])).1.toNat * 64) ((ps.getD k (0, [])).2.map (Value.int .u8)) = (stl K ps dur (k + 1)).map (Value.int .u8) := by
  rw [← map_splice]
  conv => rhs; unfold stl
  rw [if_pos h]
theorem stl_skip (K : Nat → Bool) (ps : List Wr) (dur : List Int) (k : Nat) (h : K k = false) : stl K ps dur (k + 1) = stl K ps dur k := by
  conv => lhs; unfold stl
  rw [if_neg (by rw [h]; simp)]

/-- What a disk is behind it. -/
def setD (K : Nat → Bool) (d : Dsk) : Dsk := ⟨stl K d.pend d.dur d.pend.length, []⟩
theorem setD_valid (K : Nat → Bool) {d : Dsk} (hv : Valid d) : Valid (setD K d) := by
  have hl := stl_length K d hv d.pend.length (Nat.le_refl _)
  obtain ⟨h1, h2, h3, _, _⟩ := hv
  refine ⟨?_, ?_, ?_, by simp [setD], by simp [setD]⟩ <;> simp only [setD] <;> rw [hl] <;> assumption

/-- What DiskFlush tells. -/
def flushD (d : Dsk) : Dsk := if validB d = true then setD (fun _ => true) d else Dsk.none

theorem OwnD.lower {w : World} {lo lo' hi : Nat} {eW eB : TypeId} {v : Value} {d : Dsk} (h : OwnD w lo hi eW eB v d) (hl : lo' ≤ lo) : OwnD w lo' hi eW eB v d := by
  obtain ⟨dv, pv, cells, dvs, h⟩ := h
  have hp : OwnPx w lo' eW eB pv d.pend cells dvs := by
    refine ⟨?_, h.pend.at0, h.pend.at1, fun i hi => (h.pend.data i hi).base (fun g hg => Nat.le_trans hl ((h.pend.data i hi).lt g hg).1), h.pend.apart⟩
    obtain ⟨h1, h2⟩ := h.pend.row
    refine ⟨h1, ?_⟩
    rcases h2 with h2 | ⟨g, cap, cur, hv, hg, r⟩
    · exact Or.inl h2
    · exact Or.inr ⟨g, cap, cur, hv, by omega, r⟩
  exact ⟨dv, pv, cells, dvs, h.agg, h.dur.base (fun g hg => Nat.le_trans hl (h.dur.lt g hg).1), hp, h.apart, h.hiD, h.hiP, h.hiX⟩

/-- A block of a device's memory that has just been made and filled. -/
theorem filled {w : World} {c : Array Value} {t : TypeId} {full : List Value} (hs : c.size = full.length) :
    ((w.alloc (.cells c t)).setCells w.heap.size 0 full).heap[w.heap.size]? = some (.cells full.toArray t (0, 0)) ∧ Chg 0 0 w ((w.alloc (.cells c t)).setCells w.heap.size 0 full) := by
  refine ⟨?_, (Chg.alloc (Chg.refl 0 0 w) _).step (Chg.setCells w.heap.size full 0 _) (Or.inr (Or.inl (Nat.le_refl _)))⟩
  have hcl : c.toList.length = full.length := hs
  have h0 := heap_new w (.cells c.toList.toArray t)
  have := heap_setCells w.heap.size t full 0 (w.alloc (.cells c.toList.toArray t)) c.toList h0 (by omega)
  have e : splice c.toList 0 full = full := by
    unfold splice
    rw [List.take_zero, List.nil_append, Nat.zero_add, List.drop_of_length_le (by omega), List.append_nil]
  rw [e] at this
  simpa using this

theorem Dev.pend_ne {w : World} {base p : Nat} {d : Dsk} (h : Dev w base p d) : ∃ gD po cap, Valid d ∧ base ≤ p ∧ base ≤ gD ∧
    w.heap[p]? = some (.cells #[.slice (some ⟨gD, 0, none⟩) (d.dur.length / 64) (d.dur.length / 64), .slice po d.pend.length cap] 56 (0, 0)) ∧
    w.heap[gD]? = some (.cells (d.dur.map (Value.int .u8)).toArray 58 (0, 0)) ∧
    (∀ k, k < d.pend.length → ∃ gP, po = some ⟨gP, 0, none⟩ ∧ gP ≠ gD ∧ gP < w.heap.size ∧ w.rangeAt gP (k * 65) (wcells (d.pend.getD k (0, [])))) := by
  obtain ⟨gD, pv, hv, hp, hb, hd, hpd⟩ := h
  have hpd' := hpd
  have hD : ∃ cur, w.heap[gD]? = some (.cells cur 58 (0, 0)) ∧ cur.toList = d.dur.map (Value.int .u8) := by
    rcases hd.2 with ⟨e, _⟩ | ⟨g, cap, cur, e, _, hh, _, _, hs, ht⟩
    · cases e
    · simp only [Value.slice.injEq, Option.some.injEq, Addr.mk.injEq, and_true] at e
      obtain ⟨rfl, _, rfl⟩ := e
      refine ⟨cur, hh, ?_⟩
      rw [List.take_of_length_le (by rw [Array.length_toList, hs]; exact Nat.le_refl _)] at ht
      exact ht
  obtain ⟨cur, hcur, hcl⟩ := hD
  have hG : w.heap[gD]? = some (.cells (d.dur.map (Value.int .u8)).toArray 58 (0, 0)) := by rw [← hcl]; simpa using hcur
  have hg : base ≤ gD := (World.ownsRow.lt hd gD rfl).1
  rcases hpd.2 with ⟨e, h0⟩ | ⟨gP, cap, cur', e, hgP, hh, _⟩
  · subst e
    refine ⟨gD, none, 0, hv, hp, hg, by rw [h0]; exact hb, hG, fun k hk => by omega⟩
  · subst e
    refine ⟨gD, _, cap, hv, hp, hg, hb, hG, fun k hk => ⟨gP, rfl, ?_, (Array.getElem?_eq_some_iff.1 hh).1, ?_⟩⟩
    · intro e
      rw [e, hcur] at hh
      simp only [Option.some.injEq, Obj.cells.injEq] at hh
      exact absurd hh.2.1 (by decide)
    · intro j v hj
      have hw : (wcells (d.pend.getD k (0, []))).length = 65 := by
        have := (hv.2.2.2.2 k hk).2.2
        simp only [wcells, List.length_cons, List.length_map, this]
      have hj65 : j < 65 := by have := (List.getElem?_eq_some_iff.1 hj).1; omega
      have hf := flat_getElem d.pend hv.2.2.2.2 k j hk hj65
      have hm : (k + 1) * 65 ≤ d.pend.length * 65 := Nat.mul_le_mul_right _ hk
      rw [World.ownsRow.cellAt hpd' (k * 65 + j) (by omega), hf]
      exact hj

--BEGIN settle
end Go.Proofs.YtaciallijnhieaaDoor
