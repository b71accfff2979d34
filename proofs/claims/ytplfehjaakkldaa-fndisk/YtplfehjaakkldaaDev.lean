/- The program's device: openDevice. -/
import Derived.Test.YtplfehjaakkldaaValid
import Derived.Test.YtplfehjaakkldaaCells
import Derived.Test.YtplfehjaakkldaaBytesOf
import Derived.Deep.RegionHeld3
import Derived.Deep.MidRow
namespace Go.Proofs.Ytplfehjaakkldaa
open Go.RowKit

theorem Try.infoK : (Try.prog.info? 98).map (fun i => (i.zero, i.size, i.bytes)) = some (some (.agg (List.replicate 64 (Value.int .u8 0)).toArray), 64, 64) := by kernel_rfl
theorem Try.infoC : (Try.prog.info? 108).map (fun i => (i.zero, i.size, i.bytes)) = some (some (.agg (.int .i64 0 :: List.replicate 64 (Value.int .u8 0)).toArray), 65, 72) := by kernel_rfl

/-- n cells that bear 0, kept closed. -/
def zrow (n : Nat) : Array Value := madeCells (List.replicate 64 (Value.int .u8 0)).toArray (n * 64)
def crow (n : Nat) : Array Value := madeCells (.int .i64 0 :: List.replicate 64 (Value.int .u8 0)).toArray (n * 65)

theorem mk_dur (w : World) (x : Int) (h0 : 0 ≤ x) (h1 : x ≤ 2048) :
    (Instr.makeSlice 76 (.int .i64 x) (.int .i64 x)).run Try.prog w = .ok (.slice (some ⟨w.heap.size, 0, none⟩) x.toNat x.toNat) (w.alloc (.cells (zrow x.toNat) 98)) := by
  obtain ⟨i, hi, hz0, hz1, hz2⟩ := info_parts Try.infoK
  have := run_make (P := Try.prog) w 76 98 i _ Try.underlying76 hi hz0 .i64 .i64 x x h0 (Int.le_refl _) (by rw [hz2]; omega) (by omega)
  rw [this, hz1]; rfl
theorem mk_pend (w : World) (x : Int) (h0 : 0 ≤ x) (h1 : x ≤ 600) :
    (Instr.makeSlice 77 (.int .i64 x) (.int .i64 x)).run Try.prog w = .ok (.slice (some ⟨w.heap.size, 0, none⟩) x.toNat x.toNat) (w.alloc (.cells (crow x.toNat) 108)) := by
  obtain ⟨i, hi, hz0, hz1, hz2⟩ := info_parts Try.infoC
  have := run_make (P := Try.prog) w 77 108 i _ Try.underlying77 hi hz0 .i64 .i64 x x h0 (Int.le_refl _) (by rw [hz2]; omega) (by omega)
  rw [this, hz1]; rfl

/-- copy into the middle of a row that is known whole, as one step of a region that draws its order. -/
theorem step_copy_mid {P : Program} {ops : Array Oper} {o : Oper} {a : Act} {w : World} {K : Act → World → Prop} {Q : Exit → Act → World → Prop} {E : Prop} (hgd : o.guard = none) (d s : Operand) (dT sT : TypeId)
    (ho : o.op = .call { callee := .builtin .copy, args := #[d, s], argTypes := #[dT, sT] }) (elem : TypeId) (hu : P.underlying dT = some (.slice elem)) (hsz : (P.info? elem).map (·.size) = some 1)
    (g off dLen dCap : Nat) (ad : Addr) (sLen sCap : Nat) (hd : a.eval d = .slice (some ⟨g, off, none⟩) dLen dCap) (hs : a.eval s = .slice (some ad) sLen sCap)
    (cur : List Value) (t : TypeId) (hg : w.heap[g]? = some (.cells cur.toArray t (0, 0))) (cs : List Value) (hn : cs.length = Nat.min sLen dLen)
    (hsrc : ∀ j v, cs[j]? = some v → w.cell? (ad.add j) = some v) (hfit : off + cs.length ≤ cur.length) (h1 : ∀ v ∈ cs, v.oneCell' = true)
    (h : ∀ w', Hid (w'.heap[g]? = some (.cells (splice cur off cs).toArray t (0, 0))) → Chg g (g + 1) w w' → K (a.put o.dst (goInt cs.length)) w') :
    if Region.wanted o (yielded ops a.tmps) = true then Oper.wp P o a w K Q else E := by
  have hw : Region.wanted o (yielded ops a.tmps) = true := by simp [Region.wanted, hgd]
  rw [if_pos hw]
  have hrun := run_copy_row (P := P) w dT sT o.type elem g off dLen dCap ad sLen sCap cur.toArray t cs hu hsz hg hn hsrc (by simpa using hfit) h1
  unfold Oper.wp
  simp [execOp, ho, resolve, invoke, builtin, hd, hs, hrun, Result.andThen]
  exact h _ (show _ = _ by simpa [splice] using setRow_heap w g _ _ t _ hg) (Chg.setRow _ _ _)

theorem arrayAt_block (w : World) (a : Addr) (cap : Nat) : (Instr.arrayAt 98 (.slice (some a) 64 cap)).run Try.prog w = .ok (.pointer (some a)) w := by
  simp [Instr.arrayAt, run_underlying Try.underlying98]

/-- The durable row of a device, the first k blocks of it copied. -/
def drow (xs : List Int) (n k : Nat) : List Value := (xs.take (k * 64)).map (Value.int .u8) ++ List.replicate ((n - k) * 64) (.int .u8 0)
theorem made_replicate (z : Value) (m n : Nat) (hm : 0 < m) : (madeCells (List.replicate m z).toArray n).toList = List.replicate n z := by
  apply List.ext_getElem?
  intro j
  by_cases hj : j < n
  · have : j % m < m := Nat.mod_lt _ hm
    simp [madeCells, hj, this]
  · simp [madeCells, hj]
theorem zrow_eq (xs : List Int) (n : Nat) : zrow n = (drow xs n 0).toArray := by
  apply Array.ext'
  unfold zrow drow
  rw [made_replicate _ _ _ (by decide), Nat.zero_mul, List.take_zero, List.map_nil, List.nil_append, Nat.sub_zero]

theorem drow_length (xs : List Int) (n k : Nat) (h : xs.length = n * 64) (hk : k ≤ n) : (drow xs n k).length = n * 64 := by
  unfold drow
  simp only [List.length_append, List.length_map, List.length_take, List.length_replicate]
  have : k * 64 ≤ n * 64 := Nat.mul_le_mul_right _ hk
  rw [Nat.min_eq_left (by omega), Nat.sub_mul]
  omega
theorem drow_splice (xs : List Int) (n k : Nat) (h : xs.length = n * 64) (hk : k < n) : splice (drow xs n k) (k * 64) (((xs.drop (k * 64)).take 64).map (Value.int .u8)) = drow xs n (k + 1) := by
  have h1 : (((xs.drop (k * 64)).take 64).map (Value.int .u8)).length = 64 := by simp; omega
  have hl : ((xs.take (k * 64)).map (Value.int .u8)).length = k * 64 := by simp; omega
  unfold splice
  rw [h1]
  have e1 : (drow xs n k).take (k * 64) = (xs.take (k * 64)).map (Value.int .u8) := by
    unfold drow; rw [List.take_append_of_le_length (by omega), List.take_of_length_le (by omega)]
  have e2 : (drow xs n k).drop (k * 64 + 64) = List.replicate ((n - (k + 1)) * 64) (.int .u8 0) := by
    unfold drow
    rw [List.drop_append, List.drop_of_length_le (by omega), hl, List.nil_append, List.drop_replicate]
    congr 1
    have : (n - k) * 64 = (n - (k + 1)) * 64 + 64 := by rw [show n - k = (n - (k + 1)) + 1 from by omega, Nat.add_mul]
    omega
  rw [e1, e2]
  unfold drow
  rw [← List.append_assoc, ← List.map_append]
  congr 2
  rw [show (k + 1) * 64 = k * 64 + 64 from by omega, List.take_add]

theorem drow_end (xs : List Int) (n : Nat) (h : xs.length = n * 64) : drow xs n n = xs.map (Value.int .u8) := by
  unfold drow
  rw [Nat.sub_self, Nat.zero_mul, List.replicate_zero, List.append_nil, List.take_of_length_le (by omega)]

/-- A write as its 65 cells; writes, one behind the other. -/
def wcells (p : Wr) : List Value := .int .i64 p.1 :: p.2.map (Value.int .u8)
def flat (ps : List Wr) : List Value := ps.flatMap wcells
theorem flat_length (n : Nat) (ps : List Wr) (h : ∀ i, i < ps.length → Good n (ps.getD i (0, []))) : (flat ps).length = ps.length * 65 := by
  induction ps with
  | nil => rfl
  | cons p r ih =>
    have h0 := (h 0 (by simp)).2.2
    have hr := ih (fun i hi => by have := h (i + 1) (by simpa using hi); simpa using this)
    simp only [flat, List.flatMap_cons, List.length_append, List.length_cons] at *
    rw [hr]
    simp [wcells] at *
    omega
theorem flat_append (a b : List Wr) : flat (a ++ b) = flat a ++ flat b := by simp [flat]

/-- The pending row of a device, the first k writes of it copied. -/
def prow (ps : List Wr) (m k : Nat) : List Value := flat (ps.take k) ++ (crow m).toList.drop (k * 65)
theorem crow_length (m : Nat) : (crow m).toList.length = m * 65 := by simp [crow, madeCells]
theorem prow_zero (ps : List Wr) (m : Nat) : (prow ps m 0).toArray = crow m := by simp [prow, flat]
theorem good_take {n k : Nat} {ps : List Wr} (h : ∀ i, i < ps.length → Good n (ps.getD i (0, []))) : ∀ i, i < (ps.take k).length → Good n ((ps.take k).getD i (0, [])) := by
  intro i hi
  rw [List.length_take] at hi
  have := h i (by omega)
  simp only [List.getD_eq_getElem?_getD, List.getElem?_take] at *
  rw [if_pos (by omega)]; exact this
theorem prow_length {n : Nat} (ps : List Wr) (k : Nat) (h : ∀ i, i < ps.length → Good n (ps.getD i (0, []))) (hk : k ≤ ps.length) : (prow ps ps.length k).length = ps.length * 65 := by
  unfold prow
  rw [List.length_append, flat_length n _ (good_take h), List.length_take, Nat.min_eq_left hk, List.length_drop, crow_length]
  omega
theorem prow_splice {n : Nat} (ps : List Wr) (k : Nat) (h : ∀ i, i < ps.length → Good n (ps.getD i (0, []))) (hk : k < ps.length) :
    splice (prow ps ps.length k) (k * 65) (wcells (ps.getD k (0, []))) = prow ps ps.length (k + 1) := by
  have hl : (flat (ps.take k)).length = k * 65 := by rw [flat_length n _ (good_take h), List.length_take, Nat.min_eq_left (by omega)]
  have hw : (wcells (ps.getD k (0, []))).length = 65 := by
    have := (h k hk).2.2
    simp only [wcells, List.length_cons, List.length_map, this]
  unfold splice
  rw [hw]
  have e1 : (prow ps ps.length k).take (k * 65) = flat (ps.take k) := by
    unfold prow; rw [List.take_append_of_le_length (by omega), List.take_of_length_le (by omega)]
  have e2 : (prow ps ps.length k).drop (k * 65 + 65) = (crow ps.length).toList.drop ((k + 1) * 65) := by
    unfold prow
    rw [List.drop_append, List.drop_of_length_le (by omega), hl, List.nil_append, List.drop_drop]
    congr 1; omega
  rw [e1, e2]
  unfold prow
  rw [List.take_succ_eq_append_getElem hk, flat_append, List.append_assoc]
  congr 2
  simp [flat, List.getD_eq_getElem?_getD, hk]
theorem prow_end (ps : List Wr) : prow ps ps.length ps.length = flat ps := by
  unfold prow
  rw [List.take_length, List.drop_of_length_le (by rw [crow_length]; exact Nat.le_refl _), List.append_nil]

theorem foldl_splice (off : Nat) : ∀ (cs : List Value) (k : Nat) (A : Array Value), off + k + cs.length ≤ A.size →
    ((cs.zipIdx k).foldl (fun (B : Array Value) (p : Value × Nat) => B.setIfInBounds (off + p.2) p.1) A).toList = splice A.toList (off + k) cs
  | [], _, A, _ => by simp [splice]
  | c :: r, k, A, h => by
    rw [List.zipIdx_cons, List.foldl_cons, foldl_splice off r (k + 1) _ (by simp at *; omega)]
    simp only [Array.toList_setIfInBounds]
    rw [show off + (k + 1) = off + k + 1 from by omega, splice_cons _ _ _ _ (by simp at *; omega)]

/-- The cells of a write of the cache that was never written. -/
def Z65 : Array Value := (.int .i64 0 :: List.replicate 64 (Value.int .u8 0)).toArray
theorem zero_cached (w : World) : (zeroValue 108).run Try.prog w = .ok (.agg Z65) w := by
  obtain ⟨i, hi, hz0, hz1, hz2⟩ := info_parts Try.infoC
  simp only [zeroValue, typeInfo, Sem.run_bind]
  simp [hi, hz0, Z65]
theorem Z65_size : Z65.size = 65 := by simp [Z65]
/-- A write of the cache is built of its number and its block. -/
theorem fold_cached (q : Int) (cs : List Value) (h : cs.length = 64) :
    List.foldl (fun (B : Array Value) (x : Value × Nat) => B.setIfInBounds (1 + x.2) x.1) (Z65.setIfInBounds 0 (.int .i64 q)) cs.zipIdx = (Value.int .i64 q :: cs).toArray := by
  apply Array.ext'
  rw [foldl_splice 1 cs 0 _ (by rw [Array.size_setIfInBounds, Z65_size]; omega)]
  have hl : Z65.toList.length = 65 := by rw [Array.length_toList, Z65_size]
  simp only [Array.toList_setIfInBounds]
  unfold splice
  have e2 : (Z65.toList.set 0 (Value.int .i64 q)).drop (1 + 0 + cs.length) = [] := List.drop_of_length_le (by rw [List.length_set]; omega)
  rw [e2, List.append_nil]
  cases hz : Z65.toList with
  | nil => rw [hz] at hl; simp at hl
  | cons a r => simp

/-- A device at work: its own block at p, a row of its durable blocks, a row of its cache; all of it in blocks from base on. -/
def Dev (w : World) (base p : Nat) (d : Dsk) : Prop := ∃ gD pv, Valid d ∧ base ≤ p ∧
  w.heap[p]? = some (.cells #[.slice (some ⟨gD, 0, none⟩) (d.dur.length / 64) (d.dur.length / 64), pv] 79 (0, 0)) ∧
  w.ownsRow base 98 64 (.slice (some ⟨gD, 0, none⟩) (d.dur.length / 64) (d.dur.length / 64)) (d.dur.length / 64) (d.dur.map (Value.int .u8)) ∧
  w.ownsRow base 108 65 pv d.pend.length (flat d.pend)

/-- What lies there when a device's rows and its own block have been made. -/
structure DevNew (W w w1 : World) (gD gP n m : Nat) : Prop where
  size : W.heap.size = w1.heap.size + 3
  dur : W.heap[gD]? = some (.cells (zrow n) 98 (0, 0))
  pend : W.heap[gP]? = some (.cells (crow m) 108 (0, 0))
  box : W.heap[w1.heap.size + 1 + 1]? = some (.cells #[.slice (some ⟨gD, 0, none⟩) n n, .slice (some ⟨gP, 0, none⟩) m m] 79 (0, 0))
  d1 : w1.heap.size ≤ gD
  d2 : gD < w1.heap.size + 2
  p1 : w1.heap.size ≤ gP
  p2 : gP < w1.heap.size + 2
  chg : Chg 0 0 w W
  arg : W.heap[w.heap.size]? = w1.heap[w.heap.size]?

set_option maxRecDepth 20000 in
set_option maxHeartbeats 2000000 in
theorem openDevice_no (w : World) {lo hi : Nat} {a : Value} {d : Dsk} (h1 : DView w lo hi a d) (hv : validB d = false) :
    Calls Try.prog 50 #[a] w fun e w' => e = .returned (.tuple #[.pointer none, .bool false]) ∧ Chg 0 0 w w' := by
  have d0 := h1
  obtain ⟨dv, pv, rfl, v1, p1⟩ := h1
  obtain ⟨ao, cap, rfl, _, _, _⟩ := v1
  obtain ⟨po, pcap, rfl, _, _, _⟩ := p1
  go_enter Try.func50, Try.ntmps50
  go_wp2_with fail
  refine (implValid_calls _ (d0.chg (Chg.alloc (Chg.refl 0 0 w) _) (by omega))).mono ?_
  rintro e w1 ⟨rfl, hc⟩
  have hch : Chg 0 0 w w1 := (Chg.alloc (Chg.refl 0 0 w) _).trans hc
  rw [hv]
  go_wp2
  go_ret2
  exact ⟨rfl, hch⟩

set_option maxRecDepth 20000 in
set_option maxHeartbeats 2000000 in
theorem openDevice_yes (w : World) {lo hi : Nat} {a : Value} {d : Dsk} (h1 : DView w lo hi a d) (hv : Valid d) :
    Calls Try.prog 50 #[a] w fun e w' => ∃ p, e = .returned (.tuple #[.pointer (some ⟨p, 0, none⟩), .bool true]) ∧ Dev w' w.heap.size p d ∧ Chg 0 0 w w' := by
  have d0 := h1
  have hvB := validB_true hv
  obtain ⟨dv, pv, rfl, v1, p1⟩ := h1
  obtain ⟨ao, cap, rfl, hl1, ⟨hcap, _⟩, hdc⟩ := v1
  obtain ⟨po, pcap, rfl, hl2, _, hpc⟩ := p1
  obtain ⟨g1, g2, g3, g4, g5⟩ := hv
  obtain ⟨b, off, rfl, hdc2⟩ : ∃ b off, ao = some ⟨b, off, none⟩ ∧ ∀ i, i < d.dur.length → w.cell? ⟨b, off + i, none⟩ = some (.int .u8 (d.dur.getD i 0)) := by
    rcases hdc with e | ⟨b, off, e, _, _, h⟩
    · rw [e] at g2; simp at g2
    · exact ⟨b, off, e, h⟩
  have HDC : Hid _ := hdc2
  have HPC : Hid _ := hpc
  have HG5 : Hid _ := g5
  go_enter Try.func50, Try.ntmps50
  go_wp2_with fail
  refine (implValid_calls _ (d0.chg (Chg.alloc (Chg.refl 0 0 w) _) (by omega))).mono ?_
  rintro e w1 ⟨rfl, hc⟩
  have hch : Chg 0 0 w w1 := (Chg.alloc (Chg.refl 0 0 w) _).trans hc
  have B0 := (hc.block w.heap.size (by simp) (by omega)).trans (heap_new _ _)
  obtain ⟨x0, x1, _, _⟩ := two_cells B0
  have s1 : w.heap.size < w1.heap.size := by have := hc.size; simp at this; omega
  rw [hvB]
  have hm1 := fun w => mk_dur w ((d.dur.length : Int) / 64) (by omega) (by omega)
  have hm2 := fun w => mk_pend w (d.pend.length : Int) (by omega) (by omega)
  obtain ⟨N, hN⟩ : ∃ N, N = d.dur.length / 64 := ⟨_, rfl⟩
  have k1 := alloc3 w1 (.cells (zrow (d.dur.length / 64)) 98) (.cells (crow d.pend.length) 108) (.cells #[.slice (some ⟨w1.heap.size, 0, none⟩) (d.dur.length / 64) (d.dur.length / 64), .slice (some ⟨w1.heap.size + 1, 0, none⟩) d.pend.length d.pend.length] 79)
  have k2 := alloc3 w1 (.cells (crow d.pend.length) 108) (.cells (zrow (d.dur.length / 64)) 98) (.cells #[.slice (some ⟨w1.heap.size + 1, 0, none⟩) (d.dur.length / 64) (d.dur.length / 64), .slice (some ⟨w1.heap.size, 0, none⟩) d.pend.length d.pend.length] 79)
  have key1 : Hid (∃ gD gP, DevNew ((((w1.alloc (.cells (zrow (d.dur.length / 64)) 98)).alloc (.cells (crow d.pend.length) 108)).alloc (.cells #[.slice (some ⟨w1.heap.size, 0, none⟩) (d.dur.length / 64) (d.dur.length / 64), .slice (some ⟨w1.heap.size + 1, 0, none⟩) d.pend.length d.pend.length] 79)).drew) w w1 gD gP (d.dur.length / 64) d.pend.length) :=
    ⟨w1.heap.size, w1.heap.size + 1, k1.1, k1.2.1, k1.2.2.1, k1.2.2.2, by omega, by omega, by omega, by omega, (((hch.alloc _).alloc _).alloc _).drew, by have := ((((Chg.refl 0 0 w1).alloc (.cells (zrow (d.dur.length / 64)) 98)).alloc (.cells (crow d.pend.length) 108)).alloc (.cells #[.slice (some ⟨w1.heap.size, 0, none⟩) (d.dur.length / 64) (d.dur.length / 64), .slice (some ⟨w1.heap.size + 1, 0, none⟩) d.pend.length d.pend.length] 79)).block w.heap.size s1 (by omega); exact this⟩
  have key2 : Hid (∃ gD gP, DevNew ((((w1.alloc (.cells (crow d.pend.length) 108)).alloc (.cells (zrow (d.dur.length / 64)) 98)).alloc (.cells #[.slice (some ⟨w1.heap.size + 1, 0, none⟩) (d.dur.length / 64) (d.dur.length / 64), .slice (some ⟨w1.heap.size, 0, none⟩) d.pend.length d.pend.length] 79)).drew) w w1 gD gP (d.dur.length / 64) d.pend.length) :=
    ⟨w1.heap.size + 1, w1.heap.size, k2.1, k2.2.2.1, k2.2.1, k2.2.2.2, by omega, by omega, by omega, by omega, (((hch.alloc _).alloc _).alloc _).drew, by have := ((((Chg.refl 0 0 w1).alloc (.cells (crow d.pend.length) 108)).alloc (.cells (zrow (d.dur.length / 64)) 98)).alloc (.cells #[.slice (some ⟨w1.heap.size + 1, 0, none⟩) (d.dur.length / 64) (d.dur.length / 64), .slice (some ⟨w1.heap.size, 0, none⟩) d.pend.length d.pend.length] 79)).block w.heap.size s1 (by omega); exact this⟩
  go_wp2
  go_region
  all_goals go_wp2_with fail
  generalize (((w1.alloc (.cells (zrow (d.dur.length / 64)) 98)).alloc (.cells (crow d.pend.length) 108)).alloc (.cells #[.slice (some ⟨w1.heap.size, 0, none⟩) (d.dur.length / 64) (d.dur.length / 64), .slice (some ⟨w1.heap.size + 1, 0, none⟩) d.pend.length d.pend.length] 79)).drew = W5 at key1 ⊢
  have key := key1.out
  rotate_left
  generalize (((w1.alloc (.cells (crow d.pend.length) 108)).alloc (.cells (zrow (d.dur.length / 64)) 98)).alloc (.cells #[.slice (some ⟨w1.heap.size + 1, 0, none⟩) (d.dur.length / 64) (d.dur.length / 64), .slice (some ⟨w1.heap.size, 0, none⟩) d.pend.length d.pend.length] 79)).drew = W5 at key2 ⊢
  have key := key2.out
  rotate_left
  all_goals
    obtain ⟨gD, gP, K⟩ := key
    go_loopw [27] (fun i wr => ∃ k : Nat, k ≤ d.dur.length / 64 ∧ i = .int .i64 k ∧ Chg gD (gD + 1) W5 wr ∧ wr.heap[gD]? = some (.cells (drow d.dur (d.dur.length / 64) k).toArray 98 (0, 0))) (fun i _ => d.dur.length / 64 - (intOf i).toNat)
    case atStart => exact ⟨0, Nat.zero_le _, rfl, Chg.refl _ _ _, by rw [K.dur, zrow_eq]⟩
    case round =>
      obtain ⟨k, hk, rfl, hcw, hgD⟩ := hrel
      have b1 := (hcw.block (w1.heap.size + 1 + 1) (by have := K.size; omega) (by have := K.d1; have := K.d2; omega)).trans K.box
      have b2 := (hcw.block w.heap.size (by have := K.size; omega) (by have := K.d1; omega)).trans (K.arg.trans B0)
      obtain ⟨y0, y1, _, _⟩ := two_cells b1
      obtain ⟨z0, z1, _, _⟩ := two_cells b2
      clear b1 b2
      by_cases hlt : k < d.dur.length / 64
      · have e1 : (k : Int) < (d.dur.length : Int) / 64 := by omega
        have e2 : (0 : Int) ≤ (k : Int) * 64 := by omega
        have e3 : (k : Int) * 64 ≤ (d.dur.length : Int) := by omega
        have e4 : (k : Int) * 64 ≤ (cap : Int) := by omega
        have e5 : ¬ cap = k * 64 := by omega
        have e6 : IntKind.i64.wrap ((k : Int) * 64) = (k : Int) * 64 := by rw [IntKind.wrap_i64]; omega
        have e7 : ((k : Int) * 64).toNat = k * 64 := by omega
        obtain ⟨cs, hcs⟩ : ∃ cs, cs = ((d.dur.drop (k * 64)).take 64).map (Value.int .u8) := ⟨_, rfl⟩
        have hN64 : d.dur.length = d.dur.length / 64 * 64 := by omega
        have L1 : cs.length = 64 := by rw [hcs]; simp; omega
        have L2 : ∀ v ∈ cs, v.oneCell' = true := by rw [hcs]; exact ints_oneCell _ _
        have hWw := (K.chg.widen (by omega) (by omega)).trans hcw
        have L3 : ∀ j v, cs[j]? = some v → wr.cell? ((⟨b, off + k * 64, none⟩ : Addr).add j) = some v := by
          intro j v hj
          have hj64 : j < 64 := by have := (List.getElem?_eq_some_iff.1 hj).1; omega
          have hc := HDC.out (k * 64 + j) (by omega)
          have hbl := lt_of_cell hc
          rw [Addr.add_mid, Nat.add_assoc, hWw.cell hc (by have := K.d1; omega), ← hj, hcs]
          rw [List.getElem?_map, List.getElem?_take, if_pos hj64, List.getElem?_drop]
          simp only [List.getD_eq_getElem?_getD]
          rw [List.getElem?_eq_getElem (show k * 64 + j < d.dur.length by omega)]
          rfl
        have L4 := drow_length d.dur (d.dur.length / 64) k hN64 hk
        have L5 := drow_splice d.dur (d.dur.length / 64) k hN64 hlt
        rw [← hcs] at L5
        have HL5 : Hid _ := L5
        have HL4 : Hid _ := L4
        have HL3 : Hid _ := L3
        have HL2 : Hid _ := L2
        have HL1 : Hid _ := L1
        have HgD : Hid _ := hgD
        clear L1 L2 L3 L4 L5 hcs hN64 hgD hWw
        clear HDC HPC HG5 x0 x1 hm1 hm2 d0 B0
        go_wp2
        go_region_held3 (fun w' => w'.cell? ⟨w1.heap.size + 1 + 1, 0, none⟩ = some (.slice (some ⟨gD, 0, none⟩) (d.dur.length / 64) (d.dur.length / 64)) ∧ w'.cell? ⟨w.heap.size, 0, none⟩ = some (.slice (some ⟨b, off, none⟩) d.dur.length cap)) (first | go_keep | exact ⟨C2.cell (w := wr.drew) y0 (by have := K.d1; have := K.d2; omega), C2.cell (w := wr.drew) z0 (by have := K.d1; omega)⟩)
          ((refine step_copy_mid rfl (.tmp 36) (.tmp 41) 22 22 rfl 5 Try.underlying22 (by kernel_rfl) gD (k * 64) 64 64 ⟨b, off + k * 64, none⟩ _ _ rfl rfl _ _ HgD.out cs (by rw [HL1.out]; show 64 = min _ 64; omega) HL3.out (by rw [HL1.out, HL4.out]; omega) HL2.out ?_; intro w2 H2 C2))
        have R1 := hcw.drew.trans C2
        have R2 : Hid (w2.heap[gD]? = some (.cells (drow d.dur (d.dur.length / 64) (k + 1)).toArray 98 (0, 0))) := by
          have := H2.out; rw [HL5.out] at this; exact this
        go_wp2
        go_roundw
        case rel => exact ⟨k + 1, by omega, by go_num, R1, R2.out⟩
        case measure => simp [intOf]; omega
      · obtain rfl : k = d.dur.length / 64 := by omega
        have F1 : Hid (wr.heap[gD]? = some (.cells (d.dur.map (Value.int .u8)).toArray 98 (0, 0))) := by
          have := hgD; rw [drow_end _ _ (by omega)] at this; exact this
        have hne : gP ≠ gD := by
          intro e
          have h1 := K.dur
          have h2 := K.pend
          rw [e, h1] at h2
          simp only [Option.some.injEq, Obj.cells.injEq] at h2
          exact absurd h2.2.1 (by decide)
        have F2 : wr.heap[gP]? = some (.cells (crow d.pend.length) 108 (0, 0)) := (hcw.block gP (by have := K.size; have := K.p2; omega) (by omega)).trans K.pend
        have F3 := (hcw.block (w1.heap.size + 1 + 1) (by have := K.size; omega) (by have := K.d1; have := K.d2; omega)).trans K.box
        have F4 := (hcw.block w.heap.size (by have := K.size; omega) (by have := K.d1; omega)).trans (K.arg.trans B0)
        have F5 : Chg 0 0 w wr := K.chg.step hcw (Or.inr (Or.inl (by have := K.d1; omega)))
        have F6 := hcw.size
        rw [K.size] at F6
        have hF2 : Hid _ := F2
        have d1 := K.d1
        have d2 := K.d2
        have p1 := K.p1
        have p2 := K.p2
        obtain ⟨W6, rfl⟩ : ∃ W6, W6 = wr := ⟨_, rfl⟩
        go_wp2
        go_loopw [47] (fun i w6 => ∃ k : Nat, k ≤ d.pend.length ∧ i = .int .i64 k ∧ Chg gP (gP + 1) W6 w6 ∧ w6.heap[gP]? = some (.cells (prow d.pend d.pend.length k).toArray 108 (0, 0))) (fun i _ => d.pend.length - (intOf i).toNat)
        case atStart => exact ⟨0, Nat.zero_le _, rfl, Chg.refl _ _ _, by rw [prow_zero]; exact hF2.out⟩
        case round =>
          obtain ⟨k, hk, rfl, hcw, hgP⟩ := hrel
          have b1 := (hcw.block (w1.heap.size + 1 + 1) (by omega) (by omega)).trans F3
          have b2 := (hcw.block w.heap.size (by omega) (by omega)).trans F4
          have sz := hcw.size
          obtain ⟨y0, y1, _, _⟩ := two_cells b1
          obtain ⟨z0, z1, _, _⟩ := two_cells b2
          by_cases hlt : k < d.pend.length
          · obtain ⟨pb, poff, rfl, hcells⟩ : ∃ b off, po = some ⟨b, off, none⟩ ∧ ∀ i, i < d.pend.length → ∃ dv, w.cell? ⟨b, off + i * 2, none⟩ = some (.int .i64 (d.pend.getD i (0, [])).1) ∧ w.cell? ⟨b, off + i * 2 + 1, none⟩ = some dv ∧ View w lo hi .u8 dv (d.pend.getD i (0, [])).2 := by
              rcases HPC.out with e | ⟨b, off, e, _, _, h⟩
              · rw [e] at hlt; simp at hlt
              · exact ⟨b, off, e, h⟩
            obtain ⟨dv, c1, c2, vw⟩ := hcells k hlt
            have hgood := HG5.out k hlt
            have hWw := (F5.widen (by omega) (by omega)).trans hcw
            have lb := lt_of_cell c1
            have c1 := hWw.cell c1 (by omega)
            have c2 := hWw.cell c2 (by omega)
            have HS := prow_splice d.pend k HG5.out hlt
            have HL := prow_length d.pend k HG5.out hk
            generalize d.pend.getD k (0, []) = pr at *
            obtain ⟨q, xs⟩ := pr
            obtain ⟨_, _, hx64⟩ := hgood
            obtain ⟨bo, bcap, rfl, _, ⟨hbc, _⟩, hbx⟩ := vw
            simp only at c1 c2 hx64 hbc hbx
            obtain ⟨xb, xo, rfl, hxc⟩ : ∃ xb xo, bo = some ⟨xb, xo, none⟩ ∧ ∀ i, i < xs.length → w.cell? ⟨xb, xo + i, none⟩ = some (.int .u8 (xs.getD i 0)) := by
              rcases hbx with e | ⟨x, o, e, _, _, h⟩
              · rw [e] at hx64; simp at hx64
              · exact ⟨x, o, e, h⟩
            rw [hx64] at c2 hbc
            obtain ⟨cs, hcs⟩ : ∃ cs, cs = xs.map (Value.int .u8) := ⟨_, rfl⟩
            have HCW : Hid (wcells (q, xs) = .int .i64 q :: cs) := by rw [hcs]; rfl
            have L1 : cs.length = 64 := by rw [hcs]; simpa using hx64
            have L2 : ∀ v ∈ cs, v.oneCell' = true := by rw [hcs]; exact ints_oneCell _ _
            have R0 : wr.rangeAt xb xo cs := by
              intro j v hj
              have hj64 : j < 64 := by have := (List.getElem?_eq_some_iff.1 hj).1; omega
              have hc := hxc j (by omega)
              have hbl := lt_of_cell hc
              rw [hWw.cell hc (by omega), ← hj, hcs, List.getElem?_map]
              simp only [List.getD_eq_getElem?_getD]
              rw [List.getElem?_eq_getElem (show j < xs.length by omega)]
              rfl
            have lx : xb < wr.heap.size := by
              have := lt_of_cell (hxc 0 (by omega)); have := F5.size; omega
            have T0 : wr.there gP (k * 65) 65 := by
              intro j hj
              constructor
              · rw [World.cell?, hgP]; simp; rw [HL]; omega
              · rw [World.frozen?, hgP]; simp
            have hgPlt : gP < wr.heap.size := by omega
            have HHS : Hid _ := HS
            have HHL : Hid _ := HL
            have HgP : Hid _ := hgP
            have u1 := Try.underlying98
            have i1 : (Try.prog.info? 98).map (·.size) = some cs.length := by rw [L1]; kernel_rfl
            have i2 : (Try.prog.info? 108).map (·.size) = some 65 := by kernel_rfl
            have hik : (k : Int) < (d.pend.length : Int) := by omega
            have hxne : xb ≠ gP := by have := lt_of_cell (hxc 0 (by omega)); omega
            clear hcs HS HL hgP hxc hWw hx64
            have B7 := heap_new wr (.cells #[.int .i64 q, .slice (some ⟨xb, xo, none⟩) 64 bcap] 55)
            obtain ⟨m0, m1, _, _⟩ := two_cells B7
            have m2 : (wr.alloc (.cells #[.int .i64 q, .slice (some ⟨xb, xo, none⟩) 64 bcap] 55)).cell? ⟨w1.heap.size + 1 + 1, 1, none⟩ = some (.slice (some ⟨gP, 0, none⟩) d.pend.length d.pend.length) := (Chg.alloc (Chg.refl 0 0 wr) _).cell y1 (by omega)
            have R7 := World.rangeAt_alloc R0 (.cells #[.int .i64 q, .slice (some ⟨xb, xo, none⟩) 64 bcap] 55)
            have T7 := World.there_alloc T0 (.cells #[.int .i64 q, .slice (some ⟨xb, xo, none⟩) 64 bcap] 55)
            have HgP7 : Hid ((wr.alloc (.cells #[.int .i64 q, .slice (some ⟨xb, xo, none⟩) 64 bcap] 55)).heap[gP]? = some (.cells (prow d.pend d.pend.length k).toArray 108 (0, 0))) := (Below.heap_alloc _ _ _ hgPlt).trans HgP.out
            have C7 : Chg gP (gP + 1) W6 (wr.alloc (.cells #[.int .i64 q, .slice (some ⟨xb, xo, none⟩) 64 bcap] 55)) := hcw.alloc _
            clear B7 R0 T0 HgP hcw y0 y1 z0 z1
            go_wp2
            generalize wr.alloc (.cells #[.int .i64 q, .slice (some ⟨xb, xo, none⟩) 64 bcap] 55) = W7 at *
            have hnb : wr.heap.size ≠ gP := by omega
            have har := fun w => arrayAt_block w ⟨xb, xo, none⟩ bcap
            have hzc := zero_cached
            have hz0 : ¬ Z65 = #[] := by intro e; have := Z65_size; rw [e] at this; simp at this
            have hz1 := Z65_size
            have hfo := fold_cached q cs L1
            obtain ⟨full, hfull⟩ : ∃ full, full = Value.int .i64 q :: cs := ⟨_, rfl⟩
            rw [← hfull] at hfo
            have L4 : full.length = 65 := by rw [hfull, List.length_cons, L1]
            have i3 : (Try.prog.info? 108).map (·.size) = some full.length := by rw [L4]; kernel_rfl
            have u3 := Try.underlying108
            have L3 : ∀ v ∈ full, v.oneCell' = true := by
              intro v hv
              rw [hfull] at hv
              rcases List.mem_cons.1 hv with rfl | hv
              · rfl
              · exact L2 v hv
            have Hfull : Hid _ := hfull
            have hst : (storeCells ⟨gP, k * 65, none⟩ full).run Try.prog W7.drew = .ok () (W7.drew.setCells gP (k * 65) full) := by
              have := run_storeCells_cells (P := Try.prog) gP (k * 65) full 0 W7.drew (fun j hj => by simpa using (T7 j (by omega)).1) (fun j hj => by simpa using (T7 j (by omega)).2) L3
              simpa using this
            clear hfull
            have hnP : w1.heap.size + 1 + 1 ≠ gP := by omega
            go_region_held3 (fun w' => w'.cell? ⟨w1.heap.size + 1 + 1, 1, none⟩ = some (.slice (some ⟨gP, 0, none⟩) d.pend.length d.pend.length) ∧ w'.cell? ⟨wr.heap.size, 0, none⟩ = some (.int .i64 q) ∧ w'.cell? ⟨wr.heap.size, 1, none⟩ = some (.slice (some ⟨xb, xo, none⟩) 64 bcap) ∧ w'.rangeAt xb xo cs ∧ w'.there gP (k * 65) 65)
              (first | exact ⟨m2, m0, m1, R7, T7⟩ | exact ⟨(Chg.setCells gP _ _ W7.drew).cell m2 (by omega), (Chg.setCells gP _ _ W7.drew).cell m0 (by omega), (Chg.setCells gP _ _ W7.drew).cell m1 (by omega), World.rangeAt_setCells_apart (w := W7.drew) R7 _ _ _ (Or.inl hxne), World.there_setCells (w := W7.drew) T7 _ _ _⟩) (fail)
            have R1 : Hid (Chg gP (gP + 1) W6 (W7.drew.setCells gP (k * 65) full)) := C7.drew.trans (Chg.setCells gP _ _ _)
            have R2 : Hid ((W7.drew.setCells gP (k * 65) full).heap[gP]? = some (.cells (prow d.pend d.pend.length (k + 1)).toArray 108 (0, 0))) := by
              have := heap_setCells gP 108 full (k * 65) W7.drew _ HgP7.out (by rw [L4, HHL.out]; omega)
              rw [Hfull.out, ← HCW.out, HHS.out] at this
              rw [Hfull.out, ← HCW.out]
              exact this
            go_wp2
            go_roundw
            case rel =>
              refine ⟨_, _, _, _, _, _, _, _, _, _, _, _, _, _, _, _, _, _, _, _, _, ⟨k + 1, by omega, ?_, R1.out, R2.out⟩, rfl⟩
              go_num
            case measure => simp [intOf]; omega
          · obtain rfl : k = d.pend.length := by omega
            have G1 := (hcw.block gD (by omega) (by omega)).trans F1.out
            have G2 := (hcw.block (w1.heap.size + 1 + 1) (by omega) (by omega)).trans F3
            have G3 := hgP
            rw [prow_end] at G3
            have HV : Hid (Dev wr w.heap.size (w1.heap.size + 1 + 1) d) := by
              have hV : Valid d := ⟨g1, g2, g3, g4, HG5.out⟩
              refine ⟨gD, _, hV, by omega, G2, ⟨by rw [List.length_map]; omega, Or.inr ⟨gD, _, _, rfl, by omega, G1, Nat.le_refl _, by unfold maxLen; omega, by simp; omega, ?_⟩⟩, ⟨?_, Or.inr ⟨gP, _, _, rfl, by omega, G3, Nat.le_refl _, by unfold maxLen; omega, ?_, ?_⟩⟩⟩
              · rw [List.take_of_length_le (by simp; omega)]
              · exact flat_length _ _ HG5.out
              · rw [List.size_toArray]; exact flat_length _ _ HG5.out
              · exact List.take_of_length_le (by rw [flat_length _ _ HG5.out]; exact Nat.le_refl _)
            have HC : Hid _ := F5.step hcw (Or.inr (Or.inl (by omega)))
            go_wp2
            go_ret2
            exact ⟨_, rfl, HV.out, HC.out⟩
end Go.Proofs.Ytplfehjaakkldaa
