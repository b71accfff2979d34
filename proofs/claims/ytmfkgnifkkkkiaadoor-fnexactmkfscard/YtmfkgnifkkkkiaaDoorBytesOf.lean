/- Several short texts in one: SpecNew, Valid, Cells, BytesOf. -/
import Derived.Test.YtmfkgnifkkkkiaaDoorRows
import Derived.Test.YtmfkgnifkkkkiaaDoorMem
import Derived.Deep.MidRow
import Derived.Deep.RegionHeld3
namespace Go.Proofs.YtmfkgnifkkkkiaaDoor
open Go.RowKit

theorem Tryd.infoByte : (Tryd.prog.info? 5).map (fun i => (i.zero, i.size, i.bytes)) = some (some (.int .u8 0), 1, 1) := by kernel_rfl

def newD (n : Int) : Dsk := if n < 1 ∨ 2048 < n then Dsk.none else ⟨List.replicate (n.toNat * 64) 0, []⟩

set_option maxRecDepth 20000 in
set_option maxHeartbeats 400000 in
theorem specNewDisk_no (w : World) (n : Int) (h : n < 1 ∨ 2048 < n) :
    Calls Tryd.prog 12 #[.int .i64 n] w fun e w' => e = .returned (.agg #[.slice Option.none 0 0, .slice Option.none 0 0]) ∧ Chg 0 0 w w' := by
  by_cases h1 : n < 1
  · go_enter Tryd.func12, Tryd.ntmps12
    go_wp2
    exact bodyPost_ret (v := .agg #[.slice Option.none 0 0, .slice Option.none 0 0]) (by simp [results, Tryd.results12, go_sem]) rfl ⟨rfl, Chg.alloc (Chg.refl 0 0 w) _⟩
  · have h2 : 2048 < n := by omega
    go_enter Tryd.func12, Tryd.ntmps12
    go_wp2
    exact bodyPost_ret (v := .agg #[.slice Option.none 0 0, .slice Option.none 0 0]) (by simp [results, Tryd.results12, go_sem]) rfl ⟨rfl, Chg.alloc (Chg.refl 0 0 w) _⟩

set_option maxRecDepth 20000 in
set_option maxHeartbeats 400000 in
theorem specNewDisk_yes (w : World) (n : Nat) (h1 : 1 ≤ n) (h2 : n ≤ 2048) :
    Calls Tryd.prog 12 #[.int .i64 (n : Int)] w fun e w' => ∃ dv, e = .returned (.agg #[dv, .slice Option.none 0 0]) ∧ OwnB w' w.heap.size 5 dv (List.replicate (n * 64) 0) ∧ Chg 0 0 w w' := by
  obtain ⟨i, hi, hz0, hz1, hz2⟩ := info_parts Tryd.infoByte
  go_enter Tryd.func12, Tryd.ntmps12
  go_wp2_with (at_make; refine wpList_make_full _ rfl _ _ 24 rfl w.heap.size 5 i (.int .u8 0) 1 Tryd.underlying24 hi hz0 hz1 _ _ _ _ (n * 64) rfl rfl (by omega) (by omega) (by rw [hz2]; omega) (by unfold maxLen; omega) (by simp) ?_)
  intro w1 hown hgrow
  have hb : w1.heap[w.heap.size]? = some (.cells #[.slice Option.none 0 0, .slice Option.none 0 0] 27 (0, 0)) :=
    (hgrow.block w.heap.size (by simp) (by simp)).trans (heap_new _ _)
  obtain ⟨c0, c1, f0, f1⟩ := two_cells hb
  have hch : Chg 0 0 w w1 := (Chg.alloc (Chg.refl 0 0 w) _).trans (Chg.ofGrown hgrow (by simp))
  have hO : OwnB w1 w.heap.size 5 (.slice (some ⟨w.heap.size + 1, 0, none⟩) (n * 64) (n * 64)) (List.replicate (n * 64) 0) := by
    have := hown
    unfold OwnB
    simpa [toList_madeCells_one] using this
  clear hown hgrow hb
  go_wp2
  refine bodyPost_ret (v := .agg #[.slice (some ⟨w.heap.size + 1, 0, none⟩) (n * 64) (n * 64), .slice Option.none 0 0]) (by simp [results, Tryd.results12, go_sem, c0, c1]) rfl ⟨_, rfl, ?_, ?_⟩
  · refine hO.chg (Chg.set2 _ _ _ _) ?_
    intro g hg; cases hg; right; exact Nat.le_refl _
  · exact hch.step (Chg.set2 _ _ _ _) (Or.inr (Or.inl (Nat.le_refl _)))

/-- A new disk, as both answer it. -/
theorem newDisk_any (f : FuncId) (hno : ∀ (w : World) (n : Int), n < 1 ∨ 2048 < n → Calls Tryd.prog f #[.int .i64 n] w fun e w' => e = .returned (.agg #[.slice Option.none 0 0, .slice Option.none 0 0]) ∧ Chg 0 0 w w')
    (hyes : ∀ (w : World) (n : Nat), 1 ≤ n → n ≤ 2048 → Calls Tryd.prog f #[.int .i64 (n : Int)] w fun e w' => ∃ dv, e = .returned (.agg #[dv, .slice Option.none 0 0]) ∧ OwnB w' w.heap.size 5 dv (List.replicate (n * 64) 0) ∧ Chg 0 0 w w')
    (w : World) (n : Int) : Calls Tryd.prog f #[.int .i64 n] w fun e w' => ∃ v, e = .returned v ∧ OwnD w' w.heap.size w'.heap.size 105 5 v (newD n) ∧ Chg 0 0 w w' := by
  by_cases h : n < 1 ∨ 2048 < n
  · refine (hno w n h).mono ?_
    rintro e w' ⟨rfl, hc⟩
    refine ⟨_, rfl, ?_, hc⟩
    unfold newD; rw [if_pos h]; exact OwnD.none _ _ _ _ _
  · obtain ⟨m, rfl⟩ := Int.eq_ofNat_of_zero_le (show 0 ≤ n by omega)
    refine (hyes w m (by omega) (by omega)).mono ?_
    rintro e w' ⟨dv, rfl, ho, hc⟩
    refine ⟨_, rfl, ?_, hc⟩
    unfold newD; rw [if_neg h]
    simp only [Int.toNat_natCast]
    exact ⟨dv, _, [], _, rfl, ho, OwnPx.nil _ _ _ _, by simp, fun g hg => (ho.lt g hg).2, by simp [Value.ownBlock], by simp⟩

theorem specNewDisk_calls (w : World) (n : Int) : Calls Tryd.prog 12 #[.int .i64 n] w fun e w' => ∃ v, e = .returned v ∧ OwnD w' w.heap.size w'.heap.size 105 5 v (newD n) ∧ Chg 0 0 w w' :=
  newDisk_any 12 specNewDisk_no specNewDisk_yes w n

theorem newD_fits (n : Int) : (newD n).Fits := by
  unfold newD
  split
  · exact ⟨by simp [Dsk.none], by simp [Dsk.none], by simp [Dsk.none]⟩
  · exact ⟨by simp; omega, by simp, by simp⟩
theorem newD_cnt (n : Int) : cntD (newD n) ≤ 131072 := by
  unfold newD
  split
  · simp [Dsk.none, cntD, cnt]
  · simp [cntD, cnt]; omega
end Go.Proofs.YtmfkgnifkkkkiaaDoor

namespace Go.Proofs.YtmfkgnifkkkkiaaDoor
open Go.RowKit

/-- A pending write of a disk of n blocks. -/
def Good (n : Nat) (p : Wr) : Prop := 0 ≤ p.1 ∧ p.1 < (n : Int) ∧ p.2.length = 64
/-- A valid disk. -/
def Valid (d : Dsk) : Prop := d.dur.length % 64 = 0 ∧ 1 ≤ d.dur.length / 64 ∧ d.dur.length / 64 ≤ 2048 ∧ d.pend.length ≤ 600 ∧ ∀ i, i < d.pend.length → Good (d.dur.length / 64) (d.pend.getD i (0, []))

def goodB (n : Nat) (p : Wr) : Bool := decide (0 ≤ p.1) && (decide (p.1 < (n : Int)) && (p.2.length == 64))
def validB (d : Dsk) : Bool := (d.dur.length % 64 == 0) && (decide (1 ≤ d.dur.length / 64) && (decide (d.dur.length / 64 ≤ 2048) && (decide (d.pend.length ≤ 600) && (List.range d.pend.length).all fun i => goodB (d.dur.length / 64) (d.pend.getD i (0, [])))))
theorem goodB_iff (n : Nat) (p : Wr) : goodB n p = true ↔ Good n p := by simp [goodB, Good]
theorem validB_iff (d : Dsk) : validB d = true ↔ Valid d := by simp only [validB, Valid, Bool.and_eq_true, beq_iff_eq, decide_eq_true_eq, List.all_eq_true, List.mem_range, goodB_iff]
theorem validB_true {d : Dsk} (h : Valid d) : validB d = true := (validB_iff d).2 h
theorem validB_false {d : Dsk} (h : ¬ Valid d) : validB d = false := by
  cases e : validB d with
  | false => rfl
  | true => exact absurd ((validB_iff d).1 e) h

end Go.Proofs.YtmfkgnifkkkkiaaDoor

namespace Go.Proofs.YtmfkgnifkkkkiaaDoor
open Go.RowKit

theorem Chg.setCells (g : Nat) : ∀ (vs : List Value) (o : Nat) (w : World), Chg g (g + 1) w (w.setCells g o vs)
  | [], _, _ => Chg.refl _ _ _
  | v :: r, o, w => (Chg.setCell (Chg.refl g (g + 1) w) (p := ⟨g, o, none⟩) (Or.inl ⟨Nat.le_refl _, Nat.lt_succ_self _⟩) v).trans (Chg.setCells g r (o + 1) _)

theorem splice_cons {α : Type} (L : List α) (o : Nat) (v : α) (r : List α) (h : o < L.length) : splice (L.set o v) (o + 1) r = splice L o (v :: r) := by
  unfold splice
  have e1 : (L.set o v).take (o + 1) = L.take o ++ [v] := by
    rw [List.take_succ_eq_append_getElem (by simpa using h), List.take_set, List.set_eq_of_length_le (by simp; omega)]
    simp
  have e2 : (L.set o v).drop (o + 1 + r.length) = L.drop (o + (v :: r).length) := by
    rw [List.drop_set_of_lt (by omega)]
    congr 1
    simp only [List.length_cons]; omega
  rw [e1, e2]
  simp

theorem heap_setCells (g : Nat) (t : TypeId) : ∀ (vs : List Value) (o : Nat) (w : World) (L : List Value), w.heap[g]? = some (.cells L.toArray t (0, 0)) → o + vs.length ≤ L.length →
    (w.setCells g o vs).heap[g]? = some (.cells (splice L o vs).toArray t (0, 0))
  | [], o, w, L, h, _ => by simpa [World.setCells, splice] using h
  | v :: r, o, w, L, h, hl => by
    have h1 : (w.setCell ⟨g, o, none⟩ v).heap[g]? = some (.cells (L.set o v).toArray t (0, 0)) := by
      have := heap_setCell_same w g o L.toArray t v h
      simpa using this
    have := heap_setCells g t r (o + 1) _ (L.set o v) h1 (by simp at *; omega)
    rw [splice_cons L o v r (by simp at hl; omega)] at this
    exact this

theorem row_there {w : World} {g : Nat} {L : List Value} {t : TypeId} (h : w.heap[g]? = some (.cells L.toArray t (0, 0))) : w.there g 0 L.length := by
  intro j hj
  rw [Nat.zero_add]
  refine ⟨?_, ?_⟩
  · simp [World.cell?, h, hj]
  · simp [World.frozen?, h]

/-- A row is written whole. -/
theorem wp_store_row {P : Program} {o : Oper} {a : Act} {w : World} {K : Act → World → Prop} {Q : Exit → Act → World → Prop} (T : TypeId) (p v : Operand) (ho : o.op = .store T p v) (hd : o.dst = none) (g : Nat) (hp : a.eval p = .pointer (some ⟨g, 0, none⟩))
    (full L : List Value) (t : TypeId) (hv : a.eval v = .agg full.toArray) (hg : w.heap[g]? = some (.cells L.toArray t (0, 0))) (hl : full.length = L.length) (hi : (P.info? T).map (·.size) = some full.length) (h1 : ∀ v ∈ full, v.oneCell' = true)
    (h : ∀ w', w'.heap[g]? = some (.cells full.toArray t (0, 0)) → Chg g (g + 1) w w' → K a w') : o.wp P a w K Q := by
  have ht : w.there g 0 full.toArray.size := by have := row_there hg; simpa [hl] using this
  refine wp_store_mid T p v ho g 0 full.toArray hp hv ht (by simpa using hi) (by rw [Array.all_eq_true_iff_forall_mem]; intro x hx; exact h1 x (by simpa using hx)) ?_
  rw [hd]
  refine h _ ?_ (Chg.setCells g _ 0 w)
  have := heap_setCells g t full 0 w L hg (by omega)
  have e : splice L 0 full = full := by
    unfold splice
    rw [List.take_zero, List.nil_append, Nat.zero_add, List.drop_of_length_le (by omega), List.append_nil]
  rw [e] at this
  exact this

end Go.Proofs.YtmfkgnifkkkkiaaDoor

namespace Go.Proofs.YtmfkgnifkkkkiaaDoor
open Go.RowKit

theorem Chg.setRow (w : World) (g : Nat) (cs : Array Value) : Chg g (g + 1) w (w.setRow g cs) :=
  ⟨rfl, rfl, rfl, by simp [World.setRow], fun k _ hk => setRow_other w g k cs (by omega)⟩

theorem Tryd.infoU : (Tryd.prog.info? 5).map (fun i => (i.zero, i.size, i.bytes)) = some (some (.int .u8 0), 1, 1) := by kernel_rfl

set_option maxRecDepth 20000 in
set_option maxHeartbeats 1000000 in
theorem bytesOf_calls (w : World) (xs : List Int) (hx : xs.length = 64) :
    Calls Tryd.prog 57 #[.agg (xs.map (Value.int .u8)).toArray] w fun e w' => ∃ g, e = .returned (.slice (some ⟨g, 0, none⟩) 64 64) ∧ OwnB w' w.heap.size 5 (.slice (some ⟨g, 0, none⟩) 64 64) xs ∧ Chg 0 0 w w' := by
  obtain ⟨i, hi, hz0, hz1, hz2⟩ := info_parts Tryd.infoU
  obtain ⟨cs, hcs⟩ : ∃ cs, cs = xs.map (Value.int .u8) := ⟨_, rfl⟩
  rw [← hcs]
  have L1 : cs.length = 64 := by rw [hcs]; simpa using hx
  have L2 : ∀ v ∈ cs, v.oneCell' = true := by rw [hcs]; exact ints_oneCell _ _
  have HL1 : Hid (cs.length = 64) := L1
  have HL2 : Hid (∀ v ∈ cs, v.oneCell' = true) := L2
  have Hcs : Hid (cs = xs.map (Value.int .u8)) := hcs
  have Hx : Hid (xs.length = 64) := hx
  have B0 := heap_new w (.cells cs.toArray 58)
  have HB0 : Hid ((w.alloc (.cells cs.toArray 58)).heap[w.heap.size]? = some (.cells cs.toArray 58 (0, 0))) := B0
  clear L1 L2 hcs hx B0
  go_enter Tryd.func57, Tryd.ntmps57
  go_wp2_with (at_make; refine wpList_make_full _ rfl _ _ 24 rfl w.heap.size 5 i (.int .u8 0) 1 Tryd.underlying24 hi hz0 hz1 _ _ _ _ 64 rfl rfl rfl rfl (by rw [hz2]; omega) (by unfold maxLen; omega) (by simp) ?_)
  intro w1 hown hgrow
  obtain ⟨cur, hg, hcz⟩ : ∃ cur, w1.heap[w.heap.size + 1]? = some (.cells cur 5 (0, 0)) ∧ cur.size = 64 := by
    rcases hown.2 with ⟨h', _⟩ | ⟨g', cap', cur, h', hb, hg, _, _, hs, _⟩
    · cases h'
    · simp only [Value.slice.injEq, Option.some.injEq, Addr.mk.injEq, and_true, true_and] at h'
      obtain ⟨rfl, rfl⟩ := h'
      exact ⟨cur, hg, by simpa using hs⟩
  have hbx : w1.heap[w.heap.size]? = some (.cells cs.toArray 58 (0, 0)) := (hgrow.block w.heap.size (by simp) (by simp)).trans HB0.out
  have C1 : Chg 0 0 w w1 := (Chg.alloc (Chg.refl 0 0 w) _).trans (Chg.ofGrown hgrow (by simp))
  have hsrc : ∀ j v, cs[j]? = some v → w1.cell? ((⟨w.heap.size, 0, none⟩ : Addr).add j) = some v := by
    intro j v hj
    rw [Addr.add_mid, Nat.zero_add, cell_of_row w1 w.heap.size j cs.toArray 58 (0, 0) hbx]
    simpa using hj
  have Hg : Hid (w1.heap[w.heap.size + 1]? = some (.cells cur 5 (0, 0))) := hg
  have Hcz : Hid (cur.size = 64) := hcz
  have Hsrc : Hid (∀ j v, cs[j]? = some v → w1.cell? ((⟨w.heap.size, 0, none⟩ : Addr).add j) = some v) := hsrc
  have hrow : cur.toList.take 0 ++ (cs ++ cur.toList.drop (0 + cs.length)) = cs := by
    rw [List.take_zero, List.nil_append, Nat.zero_add, List.drop_of_length_le (by rw [Array.length_toList, hcz, HL1.out]; exact Nat.le_refl _), List.append_nil]
  have Hrow : Hid (cur.toList.take 0 ++ (cs ++ cur.toList.drop (0 + cs.length)) = cs) := hrow
  clear hown hgrow hg hcz hsrc hbx hrow HB0
  go_wp2_with (refine wpList_copy_own rfl (.tmp 5) (.tmp 6) 24 24 rfl 5 Tryd.underlying24 (by kernel_rfl) (w.heap.size + 1) 0 64 64 ⟨w.heap.size, 0, none⟩ 64 64 rfl rfl cur 5 Hg.out cs (by rw [HL1.out]; rfl) Hsrc.out (by rw [HL1.out, Hcz.out]; omega) HL2.out ?_; rw [Hrow.out])
  have HO : Hid (OwnB (w1.setRow (w.heap.size + 1) cs.toArray) w.heap.size 5 (.slice (some ⟨w.heap.size + 1, 0, none⟩) 64 64) xs) := by
    show OwnB _ _ _ _ _
    unfold OwnB
    rw [Hx.out, ← Hcs.out]
    refine ⟨by rw [HL1.out], Or.inr ⟨w.heap.size + 1, 64, cs.toArray, rfl, by omega, setRow_heap _ _ _ _ _ _ Hg.out, Nat.le_refl _, by unfold maxLen; omega, by simpa using HL1.out, ?_⟩⟩
    exact List.take_of_length_le (by simp [HL1.out])
  have HC : Hid (Chg 0 0 w (w1.setRow (w.heap.size + 1) cs.toArray)) := C1.step (Chg.setRow _ _ _) (Or.inr (Or.inl (by omega)))
  clear C1 Hg Hcz Hsrc Hrow
  go_ret
  exact ⟨_, rfl, HO.out, HC.out⟩

end Go.Proofs.YtmfkgnifkkkkiaaDoor
