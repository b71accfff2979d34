/- Several short texts in one: ViewStr, Byt, StrInj, L2Same, Mg, SpecBeg, Cells, BytesOf, Copy, Join2, GoodSeq, SpecHead. -/
import Derived.Test.YtkegadjdlkfabaaGreatDoorRows
import Derived.Test.YtkegadjdlkfabaaGreatDoorMem
import Derived.Laws.BytesArg
import Derived.Lib.Bytes
import Derived.Deep.RegionWith
import Derived.Deep.MidRow
import Derived.Deep.RegionHeld3
import Derived.Laws.AppendOwnNone
namespace Go.Proofs.YtkegadjdlkfabaaGreatDoor
open Go.RowKit

/-- Bytes as a string. -/
theorem View.str {w : World} {lo hi : Nat} {v : Value} {xs : List Int} (h : View w lo hi .u8 v xs) : (convert 32 9 v).run Tryz.prog w = .ok (.string (strOfNums xs)) w := by
  obtain ⟨ao, cap, rfl, _, _, hcell⟩ := h
  cases ao with
  | none =>
    rcases hcell with rfl | ⟨b, off, e, _⟩
    · exact run_convert_bytes_nil w 32 5 Tryz.underlying32 Tryz.underlying5 0 cap 9 Tryz.underlying9
    · cases e
  | some a =>
    have hl : (loadCells a xs.length).run Tryz.prog w = .ok (xs.map (Value.int .u8)).toArray w := by
      have := run_loadCells_list (P := Tryz.prog) w a (xs.map (Value.int .u8)) (fun j v hj => by
        have hjl : j < xs.length := by have := (List.getElem?_eq_some_iff.1 hj).1; simpa using this
        rcases hcell with rfl | ⟨b, off, e, _, _, hc⟩
        · simp at hjl
        · cases e
          rw [Go.WideShapes.add_plain, hc j hjl, ← hj]
          simp [List.getD_eq_getElem?_getD, hjl])
      simpa using this
    rw [run_convert_bytes_string w 32 9 5 _ _ _ Tryz.underlying32 Tryz.underlying5 Tryz.underlying9, run_bytesToString w _ _ _ xs hl, foldl_push_bytes]
    simp [strOfNums, ByteArray.empty, ByteArray.emptyWithCapacity]
    rfl

theorem View.take {w : World} {lo hi : Nat} {k : IntKind} {ao : Option Addr} {n cap : Nat} {xs : List Int} (h : View w lo hi k (.slice ao n cap) xs) (m : Nat) (hm : m ≤ xs.length) : View w lo hi k (.slice ao m cap) (xs.take m) := by
  obtain ⟨ao', cap', e, hl, ⟨hc, hc'⟩, h⟩ := h
  cases e
  have hlen : (xs.take m).length = m := by rw [List.length_take]; omega
  refine ⟨ao, cap, by rw [hlen], by omega, ⟨by omega, hc'⟩, ?_⟩
  rcases h with h | ⟨b, off, ha, h1, h2, h3⟩
  · left; rw [h]; simp
  · refine Or.inr ⟨b, off, ha, h1, h2, fun i hi => ?_⟩
    rw [hlen] at hi
    have e : (xs.take m).getD i 0 = xs.getD i 0 := by
      simp only [List.getD_eq_getElem?_getD, List.getElem?_take]
      rw [if_pos hi]
    rw [e]
    exact h3 i (by omega)

end Go.Proofs.YtkegadjdlkfabaaGreatDoor

namespace Go.Proofs.YtkegadjdlkfabaaGreatDoor
open Go.RowKit

def Byt (xs : List Int) : Prop := ∀ x ∈ xs, 0 ≤ x ∧ x < 256

theorem Byt.getD {xs : List Int} (h : Byt xs) (k : Nat) : 0 ≤ xs.getD k 0 ∧ xs.getD k 0 < 256 := by
  rw [List.getD_eq_getElem?_getD]
  by_cases hk : k < xs.length
  · rw [List.getElem?_eq_getElem hk]; exact h _ (List.getElem_mem hk)
  · rw [List.getElem?_eq_none (by omega)]; simp

theorem byt_of_wf {xs : List Int} (h : ∀ x ∈ xs, (Lit.int .u8 x).wf = true) : Byt xs := by
  intro x hx
  have h1 := h x hx
  have h2 : IntKind.u8.min ≤ x ∧ x ≤ IntKind.u8.max := by simpa [Lit.wf] using h1
  have e1 : IntKind.u8.min = 0 := by decide
  have e2 : IntKind.u8.max = 255 := by decide
  omega

theorem Byt.take {xs : List Int} (h : Byt xs) (n : Nat) : Byt (xs.take n) := fun x hx => h x (List.mem_of_mem_take hx)
theorem Byt.drop {xs : List Int} (h : Byt xs) (n : Nat) : Byt (xs.drop n) := fun x hx => h x (List.mem_of_mem_drop hx)

end Go.Proofs.YtkegadjdlkfabaaGreatDoor

namespace Go.Proofs.YtkegadjdlkfabaaGreatDoor
open Go.RowKit

theorem str_inj {xs ys : List Int} (hx : Byt xs) (hy : Byt ys) (h1 : (xs.map fun n => UInt8.ofNat n.toNat) = ys.map fun n => UInt8.ofNat n.toNat) : xs = ys := by
  induction xs generalizing ys with
  | nil => cases ys with
    | nil => rfl
    | cons y r => simp at h1
  | cons x r ih =>
    cases ys with
    | nil => simp at h1
    | cons y s =>
      simp only [List.map_cons, List.cons.injEq] at h1
      have hx0 := hx x (by simp)
      have hy0 := hy y (by simp)
      have e : x = y := by
        have := congrArg UInt8.toNat h1.1
        simp only [UInt8.toNat_ofNat'] at this
        omega
      rw [e, ih (fun a ha => hx a (by simp [ha])) (fun a ha => hy a (by simp [ha])) h1.2]

theorem str_beq {xs ys : List Int} (hx : Byt xs) (hy : Byt ys) : ((strOfNums xs).toList == (strOfNums ys).toList) = decide (xs = ys) := by
  rw [Go.Lib.strOfNums_toList, Go.Lib.strOfNums_toList]
  by_cases h : xs = ys
  · subst h; rw [decide_eq_true rfl]; exact beq_self_eq_true _
  · rw [decide_eq_false h, beq_eq_false_iff_ne]
    exact fun e => h (str_inj hx hy e)

end Go.Proofs.YtkegadjdlkfabaaGreatDoor

namespace Go.Proofs.YtkegadjdlkfabaaGreatDoor
open Go.RowKit

end Go.Proofs.YtkegadjdlkfabaaGreatDoor

namespace Go.Proofs.YtkegadjdlkfabaaGreatDoor
open Go.RowKit

/-- The magic. -/
def mg : List Int := [106, 108, 111, 103]

theorem byt_mg : Byt mg := by intro x hx; simp [mg] at hx; omega

end Go.Proofs.YtkegadjdlkfabaaGreatDoor

namespace Go.Proofs.YtkegadjdlkfabaaGreatDoor
open Go.RowKit

set_option maxRecDepth 20000 in
set_option maxHeartbeats 400000 in
theorem l3Magic_calls (w : World) : Calls Tryz.prog 32 #[] w fun e w' => e = .returned (.slice (some ⟨w.heap.size, 0, none⟩) 4 4) ∧ OwnB w' w.heap.size 5 (.slice (some ⟨w.heap.size, 0, none⟩) 4 4) mg ∧ Chg 0 0 w w' := by
  have HO : Hid (OwnB (w.alloc (.cells #[.int .u8 106, .int .u8 108, .int .u8 111, .int .u8 103] 5)) w.heap.size 5 (.slice (some ⟨w.heap.size, 0, none⟩) 4 4) mg) := by
    show OwnB _ _ _ _ _
    have := World.ownsRow_lit (base := w.heap.size) (e := 5) (size := 1) w #[.int .u8 106, .int .u8 108, .int .u8 111, .int .u8 103] 4 (Nat.le_refl _) (by unfold maxLen; omega) rfl
    simpa [OwnB, mg] using this
  have HC : Hid (Chg 0 0 w (w.alloc (.cells #[.int .u8 106, .int .u8 108, .int .u8 111, .int .u8 103] 5))) := Chg.alloc (Chg.refl 0 0 w) _
  go_enter Tryz.func32, Tryz.ntmps32
  go_wp2
  go_ret
  exact ⟨rfl, HO.out, HC.out⟩

/-- Do bytes begin with the magic? -/
def beg (xs : List Int) : Bool := decide (4 ≤ xs.length) && decide (xs.take 4 = mg)

end Go.Proofs.YtkegadjdlkfabaaGreatDoor

namespace Go.Proofs.YtkegadjdlkfabaaGreatDoor
open Go.RowKit

theorem Chg.setCells (g : Nat) : ∀ (vs : List Value) (o : Nat) (w : World), Chg g (g + 1) w (w.setCells g o vs)
  | [], _, _ => Chg.refl _ _ _
  | v :: r, o, w => (Chg.setCell (Chg.refl g (g + 1) w) (p := ⟨g, o, none⟩) (Or.inl ⟨Nat.le_refl _, Nat.lt_succ_self _⟩) v).trans (Chg.setCells g r (o + 1) _)

theorem splice_cons {α : Type} (L : List α) (o : Nat) (v : α) (r : List α) (h : o < L.length) : splice (L.set o v) (o + 1) r = splice L o (v :: r) := by
  unfold splice
  have e1 : (L.set o v).take (o + 1) = L.take o ++ [v] := by
    rw [List.take_succ_eq_append_getElem (by simpa using h), List.take_set, List.set_eq_of_length_le (by simp; omega)]
    simp
  have e2 : (L.set o v).drop (o + 1 + r.length) = L.drop (o + (v :: r).length) := by
    rw [List.drop_set_of_lt (by omega)]
    congr 1
    simp only [List.length_cons]; omega
  rw [e1, e2]
  simp

theorem heap_setCells (g : Nat) (t : TypeId) : ∀ (vs : List Value) (o : Nat) (w : World) (L : List Value), w.heap[g]? = some (.cells L.toArray t (0, 0)) → o + vs.length ≤ L.length →
    (w.setCells g o vs).heap[g]? = some (.cells (splice L o vs).toArray t (0, 0))
  | [], o, w, L, h, _ => by simpa [World.setCells, splice] using h
  | v :: r, o, w, L, h, hl => by
    have h1 : (w.setCell ⟨g, o, none⟩ v).heap[g]? = some (.cells (L.set o v).toArray t (0, 0)) := by
      have := heap_setCell_same w g o L.toArray t v h
      simpa using this
    have := heap_setCells g t r (o + 1) _ (L.set o v) h1 (by simp at *; omega)
    rw [splice_cons L o v r (by simp at hl; omega)] at this
    exact this

theorem row_there {w : World} {g : Nat} {L : List Value} {t : TypeId} (h : w.heap[g]? = some (.cells L.toArray t (0, 0))) : w.there g 0 L.length := by
  intro j hj
  rw [Nat.zero_add]
  refine ⟨?_, ?_⟩
  · simp [World.cell?, h, hj]
  · simp [World.frozen?, h]

/-- A row is written whole. -/
theorem wp_store_row {P : Program} {o : Oper} {a : Act} {w : World} {K : Act → World → Prop} {Q : Exit → Act → World → Prop} (T : TypeId) (p v : Operand) (ho : o.op = .store T p v) (hd : o.dst = none) (g : Nat) (hp : a.eval p = .pointer (some ⟨g, 0, none⟩))
    (full L : List Value) (t : TypeId) (hv : a.eval v = .agg full.toArray) (hg : w.heap[g]? = some (.cells L.toArray t (0, 0))) (hl : full.length = L.length) (hi : (P.info? T).map (·.size) = some full.length) (h1 : ∀ v ∈ full, v.oneCell' = true)
    (h : ∀ w', w'.heap[g]? = some (.cells full.toArray t (0, 0)) → Chg g (g + 1) w w' → K a w') : o.wp P a w K Q := by
  have ht : w.there g 0 full.toArray.size := by have := row_there hg; simpa [hl] using this
  refine wp_store_mid T p v ho g 0 full.toArray hp hv ht (by simpa using hi) (by rw [Array.all_eq_true_iff_forall_mem]; intro x hx; exact h1 x (by simpa using hx)) ?_
  rw [hd]
  refine h _ ?_ (Chg.setCells g _ 0 w)
  have := heap_setCells g t full 0 w L hg (by omega)
  have e : splice L 0 full = full := by
    unfold splice
    rw [List.take_zero, List.nil_append, Nat.zero_add, List.drop_of_length_le (by omega), List.append_nil]
  rw [e] at this
  exact this

end Go.Proofs.YtkegadjdlkfabaaGreatDoor

namespace Go.Proofs.YtkegadjdlkfabaaGreatDoor
open Go.RowKit

theorem Chg.setRow (w : World) (g : Nat) (cs : Array Value) : Chg g (g + 1) w (w.setRow g cs) :=
  ⟨rfl, rfl, rfl, by simp [World.setRow], fun k _ hk => setRow_other w g k cs (by omega)⟩

theorem Tryz.infoU : (Tryz.prog.info? 5).map (fun i => (i.zero, i.size, i.bytes)) = some (some (.int .u8 0), 1, 1) := by kernel_rfl

set_option maxRecDepth 20000 in
set_option maxHeartbeats 1000000 in
theorem bytesOf_calls (w : World) (xs : List Int) (hx : xs.length = 64) :
    Calls Tryz.prog 35 #[.agg (xs.map (Value.int .u8)).toArray] w fun e w' => ∃ g, e = .returned (.slice (some ⟨g, 0, none⟩) 64 64) ∧ OwnB w' w.heap.size 5 (.slice (some ⟨g, 0, none⟩) 64 64) xs ∧ Chg 0 0 w w' := by
  obtain ⟨i, hi, hz0, hz1, hz2⟩ := info_parts Tryz.infoU
  obtain ⟨cs, hcs⟩ : ∃ cs, cs = xs.map (Value.int .u8) := ⟨_, rfl⟩
  rw [← hcs]
  have L1 : cs.length = 64 := by rw [hcs]; simpa using hx
  have L2 : ∀ v ∈ cs, v.oneCell' = true := by rw [hcs]; exact ints_oneCell _ _
  have HL1 : Hid (cs.length = 64) := L1
  have HL2 : Hid (∀ v ∈ cs, v.oneCell' = true) := L2
  have Hcs : Hid (cs = xs.map (Value.int .u8)) := hcs
  have Hx : Hid (xs.length = 64) := hx
  have B0 := heap_new w (.cells cs.toArray 68)
  have HB0 : Hid ((w.alloc (.cells cs.toArray 68)).heap[w.heap.size]? = some (.cells cs.toArray 68 (0, 0))) := B0
  clear L1 L2 hcs hx B0
  go_enter Tryz.func35, Tryz.ntmps35
  go_wp2_with (at_make; refine wpList_make_full _ rfl _ _ 32 rfl w.heap.size 5 i (.int .u8 0) 1 Tryz.underlying32 hi hz0 hz1 _ _ _ _ 64 rfl rfl rfl rfl (by rw [hz2]; omega) (by unfold maxLen; omega) (by simp) ?_)
  intro w1 hown hgrow
  obtain ⟨cur, hg, hcz⟩ : ∃ cur, w1.heap[w.heap.size + 1]? = some (.cells cur 5 (0, 0)) ∧ cur.size = 64 := by
    rcases hown.2 with ⟨h', _⟩ | ⟨g', cap', cur, h', hb, hg, _, _, hs, _⟩
    · cases h'
    · simp only [Value.slice.injEq, Option.some.injEq, Addr.mk.injEq, and_true, true_and] at h'
      obtain ⟨rfl, rfl⟩ := h'
      exact ⟨cur, hg, by simpa using hs⟩
  have hbx : w1.heap[w.heap.size]? = some (.cells cs.toArray 68 (0, 0)) := (hgrow.block w.heap.size (by simp) (by simp)).trans HB0.out
  have C1 : Chg 0 0 w w1 := (Chg.alloc (Chg.refl 0 0 w) _).trans (Chg.ofGrown hgrow (by simp))
  have hsrc : ∀ j v, cs[j]? = some v → w1.cell? ((⟨w.heap.size, 0, none⟩ : Addr).add j) = some v := by
    intro j v hj
    rw [Addr.add_mid, Nat.zero_add, cell_of_row w1 w.heap.size j cs.toArray 68 (0, 0) hbx]
    simpa using hj
  have Hg : Hid (w1.heap[w.heap.size + 1]? = some (.cells cur 5 (0, 0))) := hg
  have Hcz : Hid (cur.size = 64) := hcz
  have Hsrc : Hid (∀ j v, cs[j]? = some v → w1.cell? ((⟨w.heap.size, 0, none⟩ : Addr).add j) = some v) := hsrc
  have hrow : cur.toList.take 0 ++ (cs ++ cur.toList.drop (0 + cs.length)) = cs := by
    rw [List.take_zero, List.nil_append, Nat.zero_add, List.drop_of_length_le (by rw [Array.length_toList, hcz, HL1.out]; exact Nat.le_refl _), List.append_nil]
  have Hrow : Hid (cur.toList.take 0 ++ (cs ++ cur.toList.drop (0 + cs.length)) = cs) := hrow
  clear hown hgrow hg hcz hsrc hbx hrow HB0
  go_wp2_with (refine wpList_copy_own rfl (.tmp 5) (.tmp 6) 32 32 rfl 5 Tryz.underlying32 (by kernel_rfl) (w.heap.size + 1) 0 64 64 ⟨w.heap.size, 0, none⟩ 64 64 rfl rfl cur 5 Hg.out cs (by rw [HL1.out]; rfl) Hsrc.out (by rw [HL1.out, Hcz.out]; omega) HL2.out ?_; rw [Hrow.out])
  have HO : Hid (OwnB (w1.setRow (w.heap.size + 1) cs.toArray) w.heap.size 5 (.slice (some ⟨w.heap.size + 1, 0, none⟩) 64 64) xs) := by
    show OwnB _ _ _ _ _
    unfold OwnB
    rw [Hx.out, ← Hcs.out]
    refine ⟨by rw [HL1.out], Or.inr ⟨w.heap.size + 1, 64, cs.toArray, rfl, by omega, setRow_heap _ _ _ _ _ _ Hg.out, Nat.le_refl _, by unfold maxLen; omega, by simpa using HL1.out, ?_⟩⟩
    exact List.take_of_length_le (by simp [HL1.out])
  have HC : Hid (Chg 0 0 w (w1.setRow (w.heap.size + 1) cs.toArray)) := C1.step (Chg.setRow _ _ _) (Or.inr (Or.inl (by omega)))
  clear C1 Hg Hcz Hsrc Hrow
  go_ret
  exact ⟨_, rfl, HO.out, HC.out⟩

end Go.Proofs.YtkegadjdlkfabaaGreatDoor

namespace Go.Proofs.YtkegadjdlkfabaaGreatDoor
open Go.RowKit

theorem infoU_zero : (Value.int .u8 0).cells.size = 1 := rfl

set_option maxRecDepth 20000 in
set_option maxHeartbeats 1000000 in
theorem l1Copy_calls (w : World) {lo hi : Nat} {a : Value} {xs : List Int} (hl : xs.length ≤ 1048576) (h1 : View w lo hi .u8 a xs) :
    Calls Tryz.prog 31 #[a] w fun e w' => ∃ v, e = .returned v ∧ OwnB w' w.heap.size 5 v xs ∧ Chg 0 0 w w' := by
  obtain ⟨i, hi, hz0, hz1, hz2⟩ := info_parts Tryz.infoU
  obtain ⟨ao, cap, rfl, _, ⟨_, hnil⟩, h1⟩ := h1
  have C0 : Chg 0 0 w (w.alloc (.cells #[] 5)) := Chg.alloc (Chg.refl 0 0 w) _
  have O0 : (w.alloc (.cells #[] 5)).ownsRow w.heap.size 5 1 (.slice (some ⟨w.heap.size, 0, none⟩) 0 0) 0 [] := by
    have := World.ownsRow_lit (base := w.heap.size) (e := 5) (size := 1) w #[] 0 (Nat.le_refl _) (by unfold maxLen; omega) rfl
    simpa using this
  have HO0 : Hid ((w.alloc (.cells #[] 5)).ownsRow w.heap.size 5 1 (.slice (some ⟨w.heap.size, 0, none⟩) 0 0) 0 []) := O0
  have HC0 : Hid (Chg 0 0 w (w.alloc (.cells #[] 5))) := C0
  have bs : Hid (w.heap.size ≤ (w.alloc (.cells #[] 5)).heap.size) := by show _ ≤ _; simp
  cases ao with
  | none =>
    obtain rfl : xs = [] := by
      rcases h1 with h1 | ⟨b, off, e, _⟩
      · exact h1
      · cases e
    obtain rfl : cap = 0 := hnil rfl
    clear h1 hnil C0
    go_enter Tryz.func31, Tryz.ntmps31
    go_wp2_with (at_builtin; refine wpList_append_own_none rfl (.tmp 3) (.tmp 4) 32 rfl w.heap.size 5 i 1 Tryz.underlying32 hi _ 0 [] rfl HO0.out rfl ?_)
    go_ret
    exact ⟨_, rfl, HO0.out, HC0.out⟩
  | some ad =>
    have hsrc : ∀ j u, (xs.map (Value.int .u8))[j]? = some u → (w.alloc (.cells #[] 5)).cell? (ad.add j) = some u := by
      intro j u hj
      have hjl : j < xs.length := by have := (List.getElem?_eq_some_iff.1 hj).1; simpa using this
      rcases h1 with h1 | ⟨b, off, e, _, _, hc⟩
      · rw [h1] at hjl; simp at hjl
      · cases e
        rw [Addr.add_mid, C0.cell (hc j hjl) (by omega), ← hj]
        simp [List.getD_eq_getElem?_getD, hjl]
    have Hsrc : Hid (∀ j u, (xs.map (Value.int .u8))[j]? = some u → (w.alloc (.cells #[] 5)).cell? (ad.add j) = some u) := hsrc
    clear h1 hnil hsrc C0
    go_enter Tryz.func31, Tryz.ntmps31
    go_wp2_with (at_builtin; refine wpList_append_own _ rfl (.tmp 3) (.tmp 4) 32 rfl w.heap.size 5 i (.int .u8 0) 1 1 Tryz.underlying32 hi hz0 hz1 hz2 rfl (by decide) _ 0 [] rfl HO0.out ad xs.length cap (xs.map (Value.int .u8)) rfl (by simp) Hsrc.out (ints_oneCell _ _) (by unfold maxLen; omega) (by omega) bs.out ?_)
    intro v' w1 hown hgrow _
    have HO : Hid (OwnB w1 w.heap.size 5 v' xs) := by
      show OwnB _ _ _ _ _
      unfold OwnB
      simpa using hown
    have HC : Hid (Chg 0 0 w w1) := HC0.out.step (Chg.ofGrown (lo := w.heap.size) (hi := w.heap.size + 1) hgrow (fun k hk _ => by simp only [Value.ownBlock, Option.some.injEq] at hk; omega)) (Or.inr (Or.inl (Nat.le_refl _)))
    clear hown hgrow HO0 HC0 Hsrc bs
    go_wp2
    go_ret
    exact ⟨_, rfl, HO.out, HC.out⟩

end Go.Proofs.YtkegadjdlkfabaaGreatDoor

namespace Go.Proofs.YtkegadjdlkfabaaGreatDoor
open Go.RowKit

set_option maxRecDepth 20000 in
set_option maxHeartbeats 400000 in
theorem l2Zero_calls (w : World) (n : Nat) (hn : n ≤ 1048576) :
    Calls Tryz.prog 27 #[.int .i64 n] w fun e w' => ∃ g, e = .returned (.slice (some ⟨g, 0, none⟩) n n) ∧ OwnB w' w.heap.size 5 (.slice (some ⟨g, 0, none⟩) n n) (List.replicate n 0) ∧ Chg 0 0 w w' := by
  obtain ⟨i, hi, hz0, hz1, hz2⟩ := info_parts Tryz.infoU
  go_enter Tryz.func27, Tryz.ntmps27
  go_wp2_with (at_make; refine wpList_make_full _ rfl _ _ 32 rfl w.heap.size 5 i (.int .u8 0) 1 Tryz.underlying32 hi hz0 hz1 _ _ _ _ n rfl rfl (by omega) (by omega) (by rw [hz2]; omega) (by unfold maxLen; omega) (by omega) ?_)
  intro w1 hown hgrow
  have HO : Hid (OwnB w1 w.heap.size 5 (.slice (some ⟨w.heap.size, 0, none⟩) n n) (List.replicate n 0)) := by
    show OwnB _ _ _ _ _
    unfold OwnB
    simpa [toList_madeCells_one] using hown
  have HC : Hid (Chg 0 0 w w1) := Chg.ofGrown hgrow (by simp)
  clear hown hgrow
  go_wp2
  go_ret
  exact ⟨_, rfl, HO.out, HC.out⟩

set_option maxRecDepth 20000 in
set_option maxHeartbeats 1000000 in
theorem l2Join_any (w : World) {lo hi lo' : Nat} {a : Value} {xs ys : List Int} {b off n cap : Nat} (hl : xs.length ≤ 1048576) (hl' : ys.length ≤ 1048576) (h1 : View w lo hi .u8 a xs) (h2 : View w lo' w.heap.size .u8 (.slice (some ⟨b, off, none⟩) n cap) ys) :
    Calls Tryz.prog 24 #[a, .slice (some ⟨b, off, none⟩) n cap] w fun e w' => ∃ v, e = .returned v ∧ OwnB w' w.heap.size 5 v (xs ++ ys) ∧ Chg 0 0 w w' := by
  obtain ⟨i, hi, hz0, hz1, hz2⟩ := info_parts Tryz.infoU
  have hN := l1Copy_calls w hl h1
  obtain ⟨_, _, e, _, _, hcell⟩ := h2
  simp only [Value.slice.injEq] at e
  obtain ⟨rfl, rfl, rfl⟩ := e
  have hc : ∀ i, i < ys.length → w.cell? ⟨b, off + i, none⟩ = some (.int .u8 (ys.getD i 0)) := by
    rcases hcell with e | ⟨_, _, e, _, h3, h4⟩
    · intro i hi; rw [e] at hi; exact absurd hi (Nat.not_lt_zero i)
    · cases e; exact h4
  have Hc : Hid (∀ i, i < ys.length → w.cell? ⟨b, off + i, none⟩ = some (.int .u8 (ys.getD i 0))) := hc
  have hay : ∃ ao n c, a = .slice ao n c := by obtain ⟨ao, c, rfl, _⟩ := h1; exact ⟨ao, _, c, rfl⟩
  obtain ⟨ao, an, ac, rfl⟩ := hay
  clear hcell hc h1
  go_enter Tryz.func24, Tryz.ntmps24
  go_wp2_with fail
  refine hN.mono ?_
  rintro e w1 ⟨v1, rfl, o1, hc1⟩
  have hrow : w1.ownsRow w.heap.size 5 1 v1 xs.length (xs.map (Value.int .u8)) := o1
  obtain ⟨so, sn, sc, rfl⟩ := row_slice hrow
  have HO1 : Hid (w1.ownsRow w.heap.size 5 1 (.slice so sn sc) xs.length (xs.map (Value.int .u8))) := hrow
  have hs1 := hc1.size
  have HC1 : Hid (Chg 0 0 w w1) := hc1
  have HNW : Hid (∀ j u, (ys.map (Value.int .u8))[j]? = some u → w1.cell? ((⟨b, off, none⟩ : Addr).add j) = some u) := by
    intro j u hj
    have hjl : j < ys.length := by have := (List.getElem?_eq_some_iff.1 hj).1; simpa using this
    rw [Addr.add_mid, hc1.cell (Hc.out j hjl) (by omega), ← hj]
    simp [List.getD_eq_getElem?_getD, hjl]
  clear hN o1 hc1 hrow
  go_wp2_with (at_builtin; refine wpList_append_own _ rfl (.tmp 8) (.tmp 9) 32 rfl w.heap.size 5 i (.int .u8 0) 1 1 Tryz.underlying32 hi hz0 hz1 hz2 rfl (by decide) _ xs.length (xs.map (Value.int .u8)) rfl HO1.out ⟨b, off, none⟩ ys.length cap (ys.map (Value.int .u8)) rfl (by simp) HNW.out (ints_oneCell _ _) (by unfold maxLen; omega) (by omega) (by omega) ?_)
  intro v' w2 hown hgrow _
  have HO : Hid (OwnB w2 w.heap.size 5 v' (xs ++ ys)) := by
    show OwnB _ _ _ _ _
    unfold OwnB
    rw [List.length_append, List.map_append]
    exact hown
  have hrb : ∀ k, (Value.slice so sn sc).ownBlock = some k → w.heap.size ≤ k ∧ k < w1.heap.size := fun k hk => World.ownsRow.lt HO1.out k hk
  have HC : Hid (Chg 0 0 w w2) := HC1.out.step (Chg.ofGrown (lo := w.heap.size) (hi := w1.heap.size) hgrow (fun k hk _ => hrb k hk)) (Or.inr (Or.inl (Nat.le_refl _)))
  clear hown hgrow HO1 HC1 HNW hrb
  go_wp2
  go_ret
  exact ⟨_, rfl, HO.out, HC.out⟩

theorem l2Join_calls (w : World) {lo hi lo' : Nat} {a : Value} {xs ys : List Int} {b off n cap : Nat} (hl : xs.length ≤ 1048576) (hl' : ys.length ≤ 1048576) (h1 : View w lo hi .u8 a xs) (h2 : View w lo' w.heap.size .u8 (.slice (some ⟨b, off, none⟩) n cap) ys) (_hy : 0 < ys.length) :
    Calls Tryz.prog 24 #[a, .slice (some ⟨b, off, none⟩) n cap] w fun e w' => ∃ v, e = .returned v ∧ OwnB w' w.heap.size 5 v (xs ++ ys) ∧ Chg 0 0 w w' := l2Join_any w hl hl' h1 h2

end Go.Proofs.YtkegadjdlkfabaaGreatDoor

namespace Go.Proofs.YtkegadjdlkfabaaGreatDoor
open Go.RowKit

def goodSeq (q : Int) : Bool := decide (1 ≤ q) && decide (q ≤ 4294967295)

set_option maxHeartbeats 400000 in
theorem l3GoodSeq_calls (w : World) (q : Int) : Calls Tryz.prog 17 #[.int .i64 q] w fun e w' => e = .returned (.bool (goodSeq q)) ∧ w' = w := by
  by_cases h1 : 1 ≤ q
  · by_cases h2 : q ≤ 4294967295
    · have hg : goodSeq q = true := by unfold goodSeq; rw [decide_eq_true h1, decide_eq_true h2]; rfl
      rw [hg]
      go_enter Tryz.func17, Tryz.ntmps17
      go_wp2
      go_ret
      exact ⟨rfl, rfl⟩
    · have hg : goodSeq q = false := by unfold goodSeq; rw [decide_eq_false h2]; simp
      rw [hg]
      go_enter Tryz.func17, Tryz.ntmps17
      go_wp2
      go_ret
      exact ⟨rfl, rfl⟩
  · have hg : goodSeq q = false := by unfold goodSeq; rw [decide_eq_false h1]; rfl
    rw [hg]
    go_enter Tryz.func17, Tryz.ntmps17
    go_wp2
    go_ret
    exact ⟨rfl, rfl⟩

end Go.Proofs.YtkegadjdlkfabaaGreatDoor

namespace Go.Proofs.YtkegadjdlkfabaaGreatDoor
open Go.RowKit

/-- A block that begins so, with zeros behind. -/
def padL (xs : List Int) : List Int := xs ++ List.replicate (64 - xs.length) 0

end Go.Proofs.YtkegadjdlkfabaaGreatDoor
