/- Several short texts in one: Dev, Base, Settle. -/
import Derived.Test.YtmfkgnifkkkkiaaDoorBytesOf
import Derived.Deep.RegionHeld3
import Derived.Deep.MidRow
import Derived.Laws.ResultCell
namespace Go.Proofs.YtmfkgnifkkkkiaaDoor
open Go.RowKit

theorem Tryd.infoK : (Tryd.prog.info? 58).map (fun i => (i.zero, i.size, i.bytes)) = some (some (.agg (List.replicate 64 (Value.int .u8 0)).toArray), 64, 64) := by kernel_rfl
theorem Tryd.infoC : (Tryd.prog.info? 102).map (fun i => (i.zero, i.size, i.bytes)) = some (some (.agg (.int .i64 0 :: List.replicate 64 (Value.int .u8 0)).toArray), 65, 72) := by kernel_rfl

/-- n cells that bear 0, kept closed. -/
def zrow (n : Nat) : Array Value := madeCells (List.replicate 64 (Value.int .u8 0)).toArray (n * 64)
def crow (n : Nat) : Array Value := madeCells (.int .i64 0 :: List.replicate 64 (Value.int .u8 0)).toArray (n * 65)

theorem mk_dur (w : World) (x : Int) (h0 : 0 ≤ x) (h1 : x ≤ 2048) :
    (Instr.makeSlice 53 (.int .i64 x) (.int .i64 x)).run Tryd.prog w = .ok (.slice (some ⟨w.heap.size, 0, none⟩) x.toNat x.toNat) (w.alloc (.cells (zrow x.toNat) 58)) := by
  obtain ⟨i, hi, hz0, hz1, hz2⟩ := info_parts Tryd.infoK
  have := run_make (P := Tryd.prog) w 53 58 i _ Tryd.underlying53 hi hz0 .i64 .i64 x x h0 (Int.le_refl _) (by rw [hz2]; omega) (by omega)
  rw [this, hz1]; rfl
theorem mk_pend (w : World) (x : Int) (h0 : 0 ≤ x) (h1 : x ≤ 600) :
    (Instr.makeSlice 54 (.int .i64 x) (.int .i64 x)).run Tryd.prog w = .ok (.slice (some ⟨w.heap.size, 0, none⟩) x.toNat x.toNat) (w.alloc (.cells (crow x.toNat) 102)) := by
  obtain ⟨i, hi, hz0, hz1, hz2⟩ := info_parts Tryd.infoC
  have := run_make (P := Tryd.prog) w 54 102 i _ Tryd.underlying54 hi hz0 .i64 .i64 x x h0 (Int.le_refl _) (by rw [hz2]; omega) (by omega)
  rw [this, hz1]; rfl

/-- copy into the middle of a row that is known whole, as one step of a region that draws its order. -/
theorem step_copy_mid {P : Program} {ops : Array Oper} {o : Oper} {a : Act} {w : World} {K : Act → World → Prop} {Q : Exit → Act → World → Prop} {E : Prop} (hgd : o.guard = none) (d s : Operand) (dT sT : TypeId)
    (ho : o.op = .call { callee := .builtin .copy, args := #[d, s], argTypes := #[dT, sT] }) (elem : TypeId) (hu : P.underlying dT = some (.slice elem)) (hsz : (P.info? elem).map (·.size) = some 1)
    (g off dLen dCap : Nat) (ad : Addr) (sLen sCap : Nat) (hd : a.eval d = .slice (some ⟨g, off, none⟩) dLen dCap) (hs : a.eval s = .slice (some ad) sLen sCap)
    (cur : List Value) (t : TypeId) (hg : w.heap[g]? = some (.cells cur.toArray t (0, 0))) (cs : List Value) (hn : cs.length = Nat.min sLen dLen)
    (hsrc : ∀ j v, cs[j]? = some v → w.cell? (ad.add j) = some v) (hfit : off + cs.length ≤ cur.length) (h1 : ∀ v ∈ cs, v.oneCell' = true)
    (h : ∀ w', Hid (w'.heap[g]? = some (.cells (splice cur off cs).toArray t (0, 0))) → Chg g (g + 1) w w' → K (a.put o.dst (goInt cs.length)) w') :
    if Region.wanted o (yielded ops a.tmps) = true then Oper.wp P o a w K Q else E := by
  have hw : Region.wanted o (yielded ops a.tmps) = true := by simp [Region.wanted, hgd]
  rw [if_pos hw]
  have hrun := run_copy_row (P := P) w dT sT o.type elem g off dLen dCap ad sLen sCap cur.toArray t cs hu hsz hg hn hsrc (by simpa using hfit) h1
  unfold Oper.wp
  simp [execOp, ho, resolve, invoke, builtin, hd, hs, hrun, Result.andThen]
  exact h _ (show _ = _ by simpa [splice] using setRow_heap w g _ _ t _ hg) (Chg.setRow _ _ _)

theorem arrayAt_block (w : World) (a : Addr) (cap : Nat) : (Instr.arrayAt 58 (.slice (some a) 64 cap)).run Tryd.prog w = .ok (.pointer (some a)) w := by
  simp [Instr.arrayAt, run_underlying Tryd.underlying58]

/-- The durable row of a device, the first k blocks of it copied. -/
def drow (xs : List Int) (n k : Nat) : List Value := (xs.take (k * 64)).map (Value.int .u8) ++ List.replicate ((n - k) * 64) (.int .u8 0)
theorem made_replicate (z : Value) (m n : Nat) (hm : 0 < m) : (madeCells (List.replicate m z).toArray n).toList = List.replicate n z := by
  apply List.ext_getElem?
  intro j
  by_cases hj : j < n
  · have : j % m < m := Nat.mod_lt _ hm
    simp [madeCells, hj, this]
  · simp [madeCells, hj]
theorem zrow_eq (xs : List Int) (n : Nat) : zrow n = (drow xs n 0).toArray := by
  apply Array.ext'
  unfold zrow drow
  rw [made_replicate _ _ _ (by decide), Nat.zero_mul, List.take_zero, List.map_nil, List.nil_append, Nat.sub_zero]

theorem drow_length (xs : List Int) (n k : Nat) (h : xs.length = n * 64) (hk : k ≤ n) : (drow xs n k).length = n * 64 := by
  unfold drow
  simp only [List.length_append, List.length_map, List.length_take, List.length_replicate]
  have : k * 64 ≤ n * 64 := Nat.mul_le_mul_right _ hk
  rw [Nat.min_eq_left (by omega), Nat.sub_mul]
  omega
theorem drow_splice (xs : List Int) (n k : Nat) (h : xs.length = n * 64) (hk : k < n) : splice (drow xs n k) (k * 64) (((xs.drop (k * 64)).take 64).map (Value.int .u8)) = drow xs n (k + 1) := by
  have h1 : (((xs.drop (k * 64)).take 64).map (Value.int .u8)).length = 64 := by simp; omega
  have hl : ((xs.take (k * 64)).map (Value.int .u8)).length = k * 64 := by simp; omega
  unfold splice
  rw [h1]
  have e1 : (drow xs n k).take (k * 64) = (xs.take (k * 64)).map (Value.int .u8) := by
    unfold drow; rw [List.take_append_of_le_length (by omega), List.take_of_length_le (by omega)]
  have e2 : (drow xs n k).drop (k * 64 + 64) = List.replicate ((n - (k + 1)) * 64) (.int .u8 0) := by
    unfold drow
    rw [List.drop_append, List.drop_of_length_le (by omega), hl, List.nil_append, List.drop_replicate]
    congr 1
    have : (n - k) * 64 = (n - (k + 1)) * 64 + 64 := by rw [show n - k = (n - (k + 1)) + 1 from by omega, Nat.add_mul]
    omega
  rw [e1, e2]
  unfold drow
  rw [← List.append_assoc, ← List.map_append]
  congr 2
  rw [show (k + 1) * 64 = k * 64 + 64 from by omega, List.take_add]

theorem drow_end (xs : List Int) (n : Nat) (h : xs.length = n * 64) : drow xs n n = xs.map (Value.int .u8) := by
  unfold drow
  rw [Nat.sub_self, Nat.zero_mul, List.replicate_zero, List.append_nil, List.take_of_length_le (by omega)]

/-- A write as its 65 cells; writes, one behind the other. -/
def wcells (p : Wr) : List Value := .int .i64 p.1 :: p.2.map (Value.int .u8)
def flat (ps : List Wr) : List Value := ps.flatMap wcells
theorem flat_length (n : Nat) (ps : List Wr) (h : ∀ i, i < ps.length → Good n (ps.getD i (0, []))) : (flat ps).length = ps.length * 65 := by
  induction ps with
  | nil => rfl
  | cons p r ih =>
    have h0 := (h 0 (by simp)).2.2
    have hr := ih (fun i hi => by have := h (i + 1) (by simpa using hi); simpa using this)
    simp only [flat, List.flatMap_cons, List.length_append, List.length_cons] at *
    rw [hr]
    simp [wcells] at *
    omega
theorem flat_append (a b : List Wr) : flat (a ++ b) = flat a ++ flat b := by simp [flat]

/-- The pending row of a device, the first k writes of it copied. -/
def prow (ps : List Wr) (m k : Nat) : List Value := flat (ps.take k) ++ (crow m).toList.drop (k * 65)
theorem crow_length (m : Nat) : (crow m).toList.length = m * 65 := by simp [crow, madeCells]
theorem prow_zero (ps : List Wr) (m : Nat) : (prow ps m 0).toArray = crow m := by simp [prow, flat]
theorem good_take {n k : Nat} {ps : List Wr} (h : ∀ i, i < ps.length → Good n (ps.getD i (0, []))) : ∀ i, i < (ps.take k).length → Good n ((ps.take k).getD i (0, [])) := by
  intro i hi
  rw [List.length_take] at hi
  have := h i (by omega)
  simp only [List.getD_eq_getElem?_getD, List.getElem?_take] at *
  rw [if_pos (by omega)]; exact this
theorem prow_length {n : Nat} (ps : List Wr) (k : Nat) (h : ∀ i, i < ps.length → Good n (ps.getD i (0, []))) (hk : k ≤ ps.length) : (prow ps ps.length k).length = ps.length * 65 := by
  unfold prow
  rw [List.length_append, flat_length n _ (good_take h), List.length_take, Nat.min_eq_left hk, List.length_drop, crow_length]
  omega
theorem prow_splice {n : Nat} (ps : List Wr) (k : Nat) (h : ∀ i, i < ps.length → Good n (ps.getD i (0, []))) (hk : k < ps.length) :
    splice (prow ps ps.length k) (k * 65) (wcells (ps.getD k (0, []))) = prow ps ps.length (k + 1) := by
  have hl : (flat (ps.take k)).length = k * 65 := by rw [flat_length n _ (good_take h), List.length_take, Nat.min_eq_left (by omega)]
  have hw : (wcells (ps.getD k (0, []))).length = 65 := by
    have := (h k hk).2.2
    simp only [wcells, List.length_cons, List.length_map, this]
  unfold splice
  rw [hw]
  have e1 : (prow ps ps.length k).take (k * 65) = flat (ps.take k) := by
    unfold prow; rw [List.take_append_of_le_length (by omega), List.take_of_length_le (by omega)]
  have e2 : (prow ps ps.length k).drop (k * 65 + 65) = (crow ps.length).toList.drop ((k + 1) * 65) := by
    unfold prow
    rw [List.drop_append, List.drop_of_length_le (by omega), hl, List.nil_append, List.drop_drop]
    congr 1; omega
  rw [e1, e2]
  unfold prow
  rw [List.take_succ_eq_append_getElem hk, flat_append, List.append_assoc]
  congr 2
  simp [flat, List.getD_eq_getElem?_getD, hk]
theorem prow_end (ps : List Wr) : prow ps ps.length ps.length = flat ps := by
  unfold prow
  rw [List.take_length, List.drop_of_length_le (by rw [crow_length]; exact Nat.le_refl _), List.append_nil]

theorem foldl_splice (off : Nat) : ∀ (cs : List Value) (k : Nat) (A : Array Value), off + k + cs.length ≤ A.size →
    ((cs.zipIdx k).foldl (fun (B : Array Value) (p : Value × Nat) => B.setIfInBounds (off + p.2) p.1) A).toList = splice A.toList (off + k) cs
  | [], _, A, _ => by simp [splice]
  | c :: r, k, A, h => by
    rw [List.zipIdx_cons, List.foldl_cons, foldl_splice off r (k + 1) _ (by simp at *; omega)]
    simp only [Array.toList_setIfInBounds]
    rw [show off + (k + 1) = off + k + 1 from by omega, splice_cons _ _ _ _ (by simp at *; omega)]

/-- The cells of a write of the cache that was never written. -/
def Z65 : Array Value := (.int .i64 0 :: List.replicate 64 (Value.int .u8 0)).toArray
theorem zero_cached (w : World) : (zeroValue 102).run Tryd.prog w = .ok (.agg Z65) w := by
  obtain ⟨i, hi, hz0, hz1, hz2⟩ := info_parts Tryd.infoC
  simp only [zeroValue, typeInfo, Sem.run_bind]
  simp [hi, hz0, Z65]
theorem Z65_size : Z65.size = 65 := by simp [Z65]
/-- A write of the cache is built of its number and its block. -/
theorem fold_cached (q : Int) (cs : List Value) (h : cs.length = 64) :
    List.foldl (fun (B : Array Value) (x : Value × Nat) => B.setIfInBounds (1 + x.2) x.1) (Z65.setIfInBounds 0 (.int .i64 q)) cs.zipIdx = (Value.int .i64 q :: cs).toArray := by
  apply Array.ext'
  rw [foldl_splice 1 cs 0 _ (by rw [Array.size_setIfInBounds, Z65_size]; omega)]
  have hl : Z65.toList.length = 65 := by rw [Array.length_toList, Z65_size]
  simp only [Array.toList_setIfInBounds]
  unfold splice
  have e2 : (Z65.toList.set 0 (Value.int .i64 q)).drop (1 + 0 + cs.length) = [] := List.drop_of_length_le (by rw [List.length_set]; omega)
  rw [e2, List.append_nil]
  cases hz : Z65.toList with
  | nil => rw [hz] at hl; simp at hl
  | cons a r => simp

/-- A device at work: its own block at p, a row of its durable blocks, a row of its cache; all of it in blocks from base on. -/
def Dev (w : World) (base p : Nat) (d : Dsk) : Prop := ∃ gD pv, Valid d ∧ base ≤ p ∧
  w.heap[p]? = some (.cells #[.slice (some ⟨gD, 0, none⟩) (d.dur.length / 64) (d.dur.length / 64), pv] 56 (0, 0)) ∧
  w.ownsRow base 58 64 (.slice (some ⟨gD, 0, none⟩) (d.dur.length / 64) (d.dur.length / 64)) (d.dur.length / 64) (d.dur.map (Value.int .u8)) ∧
  w.ownsRow base 102 65 pv d.pend.length (flat d.pend)

/-- What lies there when a device's rows and its own block have been made. -/
structure DevNew (W w w1 : World) (gD gP n m : Nat) : Prop where
  size : W.heap.size = w1.heap.size + 3
  dur : W.heap[gD]? = some (.cells (zrow n) 58 (0, 0))
  pend : W.heap[gP]? = some (.cells (crow m) 102 (0, 0))
  box : W.heap[w1.heap.size + 1 + 1]? = some (.cells #[.slice (some ⟨gD, 0, none⟩) n n, .slice (some ⟨gP, 0, none⟩) m m] 56 (0, 0))
  d1 : w1.heap.size ≤ gD
  d2 : gD < w1.heap.size + 2
  p1 : w1.heap.size ≤ gP
  p2 : gP < w1.heap.size + 2
  chg : Chg 0 0 w W
  arg : W.heap[w.heap.size]? = w1.heap[w.heap.size]?

end Go.Proofs.YtmfkgnifkkkkiaaDoor

namespace Go.Proofs.YtmfkgnifkkkkiaaDoor
open Go.RowKit

theorem results_block {P : Program} {fn : Func} {p : Tmp} {ty : TypeId} {w : World} {tmps : Array Value} {a : Addr} {v : Value} (h : fn.results = #[.cell p ty]) (ht : tmps.getD p undef = .pointer (some a)) (hl : (loadVar ty a).run P w = .ok v w) :
    (results fn tmps).run P w = .ok v w := by
  have ht' : tmps[p]?.getD undef = .pointer (some a) := by simpa using ht
  simp only [results, h]
  simp [asAddr, ht', hl]

theorem Dev.rows {w : World} {base p : Nat} {d : Dsk} (h : Dev w base p d) : ∃ gD po m cap, Valid d ∧ base ≤ p ∧
    w.heap[p]? = some (.cells #[.slice (some ⟨gD, 0, none⟩) (d.dur.length / 64) (d.dur.length / 64), .slice po m cap] 56 (0, 0)) ∧ base ≤ gD ∧ m = d.pend.length ∧
    (∀ j, j < d.dur.length → w.cell? ⟨gD, j, none⟩ = some (.int .u8 (d.dur.getD j 0))) ∧
    (0 < d.pend.length → ∃ gP, po = some ⟨gP, 0, none⟩ ∧ base ≤ gP ∧ ∀ j v, (flat d.pend)[j]? = some v → w.cell? ⟨gP, j, none⟩ = some v) := by
  obtain ⟨gD, pv, hv, hp, hb, hd, hpd⟩ := h
  have hd' := hd
  have hpd' := hpd
  have hc : ∀ j, j < d.dur.length → w.cell? ⟨gD, j, none⟩ = some (.int .u8 (d.dur.getD j 0)) := by
    intro j hj
    have h1 := hv.1
    rw [World.ownsRow.cellAt hd j (by omega)]
    simp [List.getD_eq_getElem?_getD, hj]
  have hg : base ≤ gD := (World.ownsRow.lt hd gD rfl).1
  rcases hpd.2 with ⟨e, h0⟩ | ⟨gP, cap, cur, e, hgP, _⟩
  · subst e
    exact ⟨gD, _, _, _, hv, hp, hb, hg, h0.symm, hc, fun h => by omega⟩
  · subst e
    refine ⟨gD, _, _, _, hv, hp, hb, hg, rfl, hc, fun h => ⟨gP, rfl, hgP, fun j v hj => ?_⟩⟩
    have hl := hpd'.1
    rw [World.ownsRow.cellAt hpd' j (by rw [← hl]; exact (List.getElem?_eq_some_iff.1 hj).1)]
    exact hj

theorem there_new (w : World) (c : Array Value) (t : TypeId) (n : Nat) (hn : c.size = n) : (w.alloc (.cells c t)).there w.heap.size 0 n := by
  intro j hj
  have hh := heap_new w (.cells c t)
  constructor
  · rw [World.cell?, hh]; simp; omega
  · rw [World.frozen?, hh]; simp

theorem ret_bool {a b : Bool} (h : a = b) : Ending.returned (.bool a) = .returned (.bool b) := by rw [h]

/-- The 64 cells of a block, as they lie in the rows. -/
theorem flat_getElem {n : Nat} (ps : List Wr) (h : ∀ i, i < ps.length → Good n (ps.getD i (0, []))) (k j : Nat) (hk : k < ps.length) (hj : j < 65) : (flat ps)[k * 65 + j]? = (wcells (ps.getD k (0, [])))[j]? := by
  have e : ps = ps.take k ++ (ps[k] :: ps.drop (k + 1)) := by simp
  have hl : (flat (ps.take k)).length = k * 65 := by rw [flat_length n _ (good_take h), List.length_take, Nat.min_eq_left (by omega)]
  have e1 : flat ps = flat (ps.take k) ++ (wcells ps[k] ++ flat (ps.drop (k + 1))) := by
    have : flat ps = flat (ps.take k ++ (ps[k] :: ps.drop (k + 1))) := by rw [← e]
    rw [this, flat_append]; rfl
  have e2 : ps.getD k (0, []) = ps[k] := by simp [List.getD_eq_getElem?_getD, hk]
  have hw : (wcells ps[k]).length = 65 := by
    have := (h k hk).2.2
    rw [e2] at this
    simp only [wcells, List.length_cons, List.length_map, this]
  rw [e1, e2, List.getElem?_append_right (by omega), hl, Nat.add_sub_cancel_left, List.getElem?_append_left (by omega)]

theorem Dev.lt {w : World} {base p : Nat} {d : Dsk} (h : Dev w base p d) : p < w.heap.size := by
  obtain ⟨_, _, _, _, hb, _⟩ := h
  exact (Array.getElem?_eq_some_iff.1 hb).1

end Go.Proofs.YtmfkgnifkkkkiaaDoor

namespace Go.Proofs.YtmfkgnifkkkkiaaDoor
open Go.RowKit

/-- The durable bytes behind the first k pending writes, those that K keeps. -/
def stl (K : Nat → Bool) (ps : List Wr) (dur : List Int) : Nat → List Int
  | 0 => dur
  | k + 1 => if K k = true then splice (stl K ps dur k) ((ps.getD k (0, [])).1.toNat * 64) (ps.getD k (0, [])).2 else stl K ps dur k
theorem stl_length (K : Nat → Bool) (d : Dsk) (hv : Valid d) : ∀ k, k ≤ d.pend.length → (stl K d.pend d.dur k).length = d.dur.length
  | 0, _ => rfl
  | k + 1, hk => by
    have ih := stl_length K d hv k (by omega)
    unfold stl
    split
    · obtain ⟨h1, h2, h3⟩ := hv.2.2.2.2 k (by omega)
      rw [length_splice _ _ _ (by rw [ih, h3]; have := hv.1; omega), ih]
    · exact ih
theorem map_splice (f : Int → Value) (xs ys : List Int) (o : Nat) : (splice xs o ys).map f = splice (xs.map f) o (ys.map f) := by
  simp [splice, List.map_append, List.map_take, List.map_drop]
theorem stl_step (K : Nat → Bool) (ps : List Wr) (dur : List Int) (k : Nat) (h : K k = true) :
    splice ((stl K ps dur k).map (Value.int .u8)) ((ps.getD k (0, [])).1.toNat * 64) ((ps.getD k (0, [])).2.map (Value.int .u8)) = (stl K ps dur (k + 1)).map (Value.int .u8) := by
  rw [← map_splice]
  conv => rhs; unfold stl
  rw [if_pos h]
theorem stl_skip (K : Nat → Bool) (ps : List Wr) (dur : List Int) (k : Nat) (h : K k = false) : stl K ps dur (k + 1) = stl K ps dur k := by
  conv => lhs; unfold stl
  rw [if_neg (by rw [h]; simp)]

/-- What a disk is behind it. -/
def setD (K : Nat → Bool) (d : Dsk) : Dsk := ⟨stl K d.pend d.dur d.pend.length, []⟩
theorem setD_valid (K : Nat → Bool) {d : Dsk} (hv : Valid d) : Valid (setD K d) := by
  have hl := stl_length K d hv d.pend.length (Nat.le_refl _)
  obtain ⟨h1, h2, h3, _, _⟩ := hv
  refine ⟨?_, ?_, ?_, by simp [setD], by simp [setD]⟩ <;> simp only [setD] <;> rw [hl] <;> assumption

/-- What DiskFlush tells. -/
def flushD (d : Dsk) : Dsk := if validB d = true then setD (fun _ => true) d else Dsk.none

theorem OwnD.lower {w : World} {lo lo' hi : Nat} {eW eB : TypeId} {v : Value} {d : Dsk} (h : OwnD w lo hi eW eB v d) (hl : lo' ≤ lo) : OwnD w lo' hi eW eB v d := by
  obtain ⟨dv, pv, cells, dvs, h⟩ := h
  have hp : OwnPx w lo' eW eB pv d.pend cells dvs := by
    refine ⟨?_, h.pend.at0, h.pend.at1, fun i hi => (h.pend.data i hi).base (fun g hg => Nat.le_trans hl ((h.pend.data i hi).lt g hg).1), h.pend.apart⟩
    obtain ⟨h1, h2⟩ := h.pend.row
    refine ⟨h1, ?_⟩
    rcases h2 with h2 | ⟨g, cap, cur, hv, hg, r⟩
    · exact Or.inl h2
    · exact Or.inr ⟨g, cap, cur, hv, by omega, r⟩
  exact ⟨dv, pv, cells, dvs, h.agg, h.dur.base (fun g hg => Nat.le_trans hl (h.dur.lt g hg).1), hp, h.apart, h.hiD, h.hiP, h.hiX⟩

/-- A block of a device's memory that has just been made and filled. -/
theorem filled {w : World} {c : Array Value} {t : TypeId} {full : List Value} (hs : c.size = full.length) :
    ((w.alloc (.cells c t)).setCells w.heap.size 0 full).heap[w.heap.size]? = some (.cells full.toArray t (0, 0)) ∧ Chg 0 0 w ((w.alloc (.cells c t)).setCells w.heap.size 0 full) := by
  refine ⟨?_, (Chg.alloc (Chg.refl 0 0 w) _).step (Chg.setCells w.heap.size full 0 _) (Or.inr (Or.inl (Nat.le_refl _)))⟩
  have hcl : c.toList.length = full.length := hs
  have h0 := heap_new w (.cells c.toList.toArray t)
  have := heap_setCells w.heap.size t full 0 (w.alloc (.cells c.toList.toArray t)) c.toList h0 (by omega)
  have e : splice c.toList 0 full = full := by
    unfold splice
    rw [List.take_zero, List.nil_append, Nat.zero_add, List.drop_of_length_le (by omega), List.append_nil]
  rw [e] at this
  simpa using this

theorem Dev.pend_ne {w : World} {base p : Nat} {d : Dsk} (h : Dev w base p d) : ∃ gD po cap, Valid d ∧ base ≤ p ∧ base ≤ gD ∧
    w.heap[p]? = some (.cells #[.slice (some ⟨gD, 0, none⟩) (d.dur.length / 64) (d.dur.length / 64), .slice po d.pend.length cap] 56 (0, 0)) ∧
    w.heap[gD]? = some (.cells (d.dur.map (Value.int .u8)).toArray 58 (0, 0)) ∧
    (∀ k, k < d.pend.length → ∃ gP, po = some ⟨gP, 0, none⟩ ∧ gP ≠ gD ∧ gP < w.heap.size ∧ w.rangeAt gP (k * 65) (wcells (d.pend.getD k (0, [])))) := by
  obtain ⟨gD, pv, hv, hp, hb, hd, hpd⟩ := h
  have hpd' := hpd
  have hD : ∃ cur, w.heap[gD]? = some (.cells cur 58 (0, 0)) ∧ cur.toList = d.dur.map (Value.int .u8) := by
    rcases hd.2 with ⟨e, _⟩ | ⟨g, cap, cur, e, _, hh, _, _, hs, ht⟩
    · cases e
    · simp only [Value.slice.injEq, Option.some.injEq, Addr.mk.injEq, and_true] at e
      obtain ⟨rfl, _, rfl⟩ := e
      refine ⟨cur, hh, ?_⟩
      rw [List.take_of_length_le (by rw [Array.length_toList, hs]; exact Nat.le_refl _)] at ht
      exact ht
  obtain ⟨cur, hcur, hcl⟩ := hD
  have hG : w.heap[gD]? = some (.cells (d.dur.map (Value.int .u8)).toArray 58 (0, 0)) := by rw [← hcl]; simpa using hcur
  have hg : base ≤ gD := (World.ownsRow.lt hd gD rfl).1
  rcases hpd.2 with ⟨e, h0⟩ | ⟨gP, cap, cur', e, hgP, hh, _⟩
  · subst e
    refine ⟨gD, none, 0, hv, hp, hg, by rw [h0]; exact hb, hG, fun k hk => by omega⟩
  · subst e
    refine ⟨gD, _, cap, hv, hp, hg, hb, hG, fun k hk => ⟨gP, rfl, ?_, (Array.getElem?_eq_some_iff.1 hh).1, ?_⟩⟩
    · intro e
      rw [e, hcur] at hh
      simp only [Option.some.injEq, Obj.cells.injEq] at hh
      exact absurd hh.2.1 (by decide)
    · intro j v hj
      have hw : (wcells (d.pend.getD k (0, []))).length = 65 := by
        have := (hv.2.2.2.2 k hk).2.2
        simp only [wcells, List.length_cons, List.length_map, this]
      have hj65 : j < 65 := by have := (List.getElem?_eq_some_iff.1 hj).1; omega
      have hf := flat_getElem d.pend hv.2.2.2.2 k j hk hj65
      rw [World.ownsRow.cellAt hpd' (k * 65 + j) (by omega), hf]
      exact hj

--BEGIN settle
end Go.Proofs.YtmfkgnifkkkkiaaDoor
