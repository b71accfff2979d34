/- Several short texts in one: Cells, Cells2, RowZ, ViewStr, DecL. -/
import Derived.Test.YteaeikmgkmpkiaaGreatDoorMem
import Derived.Deep.MidRow
import Derived.Test.YteaeikmgkmpkiaaGreatDoorRows
import Derived.Laws.BytesArg
import Derived.Test.YteaeikmgkmpkiaaGreatDoorShelfFmt
import Derived.Lib.LaidTab
import Derived.Lib.ItoaLen
import Derived.Great.BuildSlice
namespace Go.Proofs.YteaeikmgkmpkiaaGreatDoor
open Go.RowKit

theorem Chg.setCells (g : Nat) : ∀ (vs : List Value) (o : Nat) (w : World), Chg g (g + 1) w (w.setCells g o vs)
  | [], _, _ => Chg.refl _ _ _
  | v :: r, o, w => (Chg.setCell (Chg.refl g (g + 1) w) (p := ⟨g, o, none⟩) (Or.inl ⟨Nat.le_refl _, Nat.lt_succ_self _⟩) v).trans (Chg.setCells g r (o + 1) _)

theorem splice_cons {α : Type} (L : List α) (o : Nat) (v : α) (r : List α) (h : o < L.length) : splice (L.set o v) (o + 1) r = splice L o (v :: r) := by
  unfold splice
  have e1 : (L.set o v).take (o + 1) = L.take o ++ [v] := by
    rw [List.take_succ_eq_append_getElem (by simpa using h), List.take_set, List.set_eq_of_length_le (by simp; omega)]
    simp
  have e2 : (L.set o v).drop (o + 1 + r.length) = L.drop (o + (v :: r).length) := by
    rw [List.drop_set_of_lt (by omega)]
    congr 1
    simp only [List.length_cons]; omega
  rw [e1, e2]
  simp

theorem heap_setCells (g : Nat) (t : TypeId) : ∀ (vs : List Value) (o : Nat) (w : World) (L : List Value), w.heap[g]? = some (.cells L.toArray t (0, 0)) → o + vs.length ≤ L.length →
    (w.setCells g o vs).heap[g]? = some (.cells (splice L o vs).toArray t (0, 0))
  | [], o, w, L, h, _ => by simpa [World.setCells, splice] using h
  | v :: r, o, w, L, h, hl => by
    have h1 : (w.setCell ⟨g, o, none⟩ v).heap[g]? = some (.cells (L.set o v).toArray t (0, 0)) := by
      have := heap_setCell_same w g o L.toArray t v h
      simpa using this
    have := heap_setCells g t r (o + 1) _ (L.set o v) h1 (by simp at *; omega)
    rw [splice_cons L o v r (by simp at hl; omega)] at this
    exact this

theorem row_there {w : World} {g : Nat} {L : List Value} {t : TypeId} (h : w.heap[g]? = some (.cells L.toArray t (0, 0))) : w.there g 0 L.length := by
  intro j hj
  rw [Nat.zero_add]
  refine ⟨?_, ?_⟩
  · simp [World.cell?, h, hj]
  · simp [World.frozen?, h]

/-- A row is written whole. -/
theorem wp_store_row {P : Program} {o : Oper} {a : Act} {w : World} {K : Act → World → Prop} {Q : Exit → Act → World → Prop} (T : TypeId) (p v : Operand) (ho : o.op = .store T p v) (hd : o.dst = none) (g : Nat) (hp : a.eval p = .pointer (some ⟨g, 0, none⟩))
    (full L : List Value) (t : TypeId) (hv : a.eval v = .agg full.toArray) (hg : w.heap[g]? = some (.cells L.toArray t (0, 0))) (hl : full.length = L.length) (hi : (P.info? T).map (·.size) = some full.length) (h1 : ∀ v ∈ full, v.oneCell' = true)
    (h : ∀ w', w'.heap[g]? = some (.cells full.toArray t (0, 0)) → Chg g (g + 1) w w' → K a w') : o.wp P a w K Q := by
  have ht : w.there g 0 full.toArray.size := by have := row_there hg; simpa [hl] using this
  refine wp_store_mid T p v ho g 0 full.toArray hp hv ht (by simpa using hi) (by rw [Array.all_eq_true_iff_forall_mem]; intro x hx; exact h1 x (by simpa using hx)) ?_
  rw [hd]
  refine h _ ?_ (Chg.setCells g _ 0 w)
  have := heap_setCells g t full 0 w L hg (by omega)
  have e : splice L 0 full = full := by
    unfold splice
    rw [List.take_zero, List.nil_append, Nat.zero_add, List.drop_of_length_le (by omega), List.append_nil]
  rw [e] at this
  exact this

end Go.Proofs.YteaeikmgkmpkiaaGreatDoor

namespace Go.Proofs.YteaeikmgkmpkiaaGreatDoor
open Go.RowKit

theorem wpList_store_row {P : Program} {ops : Array Oper} {rest : List Oper} {op : Oper} {a : Act} {w : World} {Q : Exit → Act → World → Prop} (hgd : op.guard = none) (T : TypeId) (x y : Operand) (ho : op.op = .store T x y) (hd : op.dst = none) (g : Nat) (hx : a.eval x = .pointer (some ⟨g, 0, none⟩))
    (full L : List Value) (t : TypeId) (hy : a.eval y = .agg full.toArray) (hg : w.heap[g]? = some (.cells L.toArray t (0, 0))) (hl : full.length = L.length) (hi : (P.info? T).map (·.size) = some full.length) (h1 : ∀ v ∈ full, v.oneCell' = true)
    (h : ∀ w', w'.heap[g]? = some (.cells full.toArray t (0, 0)) → Chg g (g + 1) w w' → wpList P ops Q rest a w') : wpList P ops Q (op :: rest) a w :=
  wpList_plain hgd fun _ hK => wp_store_row T x y ho hd g hx full L t hy hg hl hi h1 (fun w' h2 h3 => hK _ _ (h w' h2 h3))

end Go.Proofs.YteaeikmgkmpkiaaGreatDoor

namespace Go.Proofs.YteaeikmgkmpkiaaGreatDoor
open Go.RowKit

theorem row_view {w : World} {b : Nat} {xs : List Int} {t : TypeId} (h : w.heap[b]? = some (.cells (xs.map (Value.int .u8)).toArray t (0, 0))) (o n cap : Nat) (hn : o + n ≤ xs.length) (hl : xs.length ≤ 1048576) (hc : n ≤ cap) : View w b (b + 1) .u8 (.slice (some ⟨b, o, none⟩) n cap) ((xs.drop o).take n) := by
  have hlen : ((xs.drop o).take n).length = n := by rw [List.length_take, List.length_drop]; omega
  refine ⟨_, cap, by rw [hlen], by rw [hlen]; omega, ⟨by rw [hlen]; exact hc, by simp⟩, Or.inr ⟨b, o, rfl, Nat.le_refl _, Nat.lt_succ_self _, fun i hi => ?_⟩⟩
  rw [hlen] at hi
  simp only [World.cell?, h, List.getElem?_toArray, List.getElem?_map, List.getD_eq_getElem?_getD, List.getElem?_take, List.getElem?_drop, if_pos hi]
  rw [List.getElem?_eq_getElem (show o + i < xs.length by omega)]
  rfl

theorem row_rng {w : World} {b : Nat} {cs : List Value} {t : TypeId} (h : w.heap[b]? = some (.cells cs.toArray t (0, 0))) : w.rangeAt b 0 cs := by
  intro j v hj
  rw [Nat.zero_add]
  simp [World.cell?, h, hj]

/-- 64 cells that bear 0, kept closed. -/
def Z64 : List Value := [.int .u8 0, .int .u8 0, .int .u8 0, .int .u8 0, .int .u8 0, .int .u8 0, .int .u8 0, .int .u8 0, .int .u8 0, .int .u8 0, .int .u8 0, .int .u8 0, .int .u8 0, .int .u8 0, .int .u8 0, .int .u8 0, .int .u8 0, .int .u8 0, .int .u8 0, .int .u8 0, .int .u8 0, .int .u8 0, .int .u8 0, .int .u8 0, .int .u8 0, .int .u8 0, .int .u8 0, .int .u8 0, .int .u8 0, .int .u8 0, .int .u8 0, .int .u8 0, .int .u8 0, .int .u8 0, .int .u8 0, .int .u8 0, .int .u8 0, .int .u8 0, .int .u8 0, .int .u8 0, .int .u8 0, .int .u8 0, .int .u8 0, .int .u8 0, .int .u8 0, .int .u8 0, .int .u8 0, .int .u8 0, .int .u8 0, .int .u8 0, .int .u8 0, .int .u8 0, .int .u8 0, .int .u8 0, .int .u8 0, .int .u8 0, .int .u8 0, .int .u8 0, .int .u8 0, .int .u8 0, .int .u8 0, .int .u8 0, .int .u8 0, .int .u8 0]

theorem Z64_eq : (#[.int .u8 0, .int .u8 0, .int .u8 0, .int .u8 0, .int .u8 0, .int .u8 0, .int .u8 0, .int .u8 0, .int .u8 0, .int .u8 0, .int .u8 0, .int .u8 0, .int .u8 0, .int .u8 0, .int .u8 0, .int .u8 0, .int .u8 0, .int .u8 0, .int .u8 0, .int .u8 0, .int .u8 0, .int .u8 0, .int .u8 0, .int .u8 0, .int .u8 0, .int .u8 0, .int .u8 0, .int .u8 0, .int .u8 0, .int .u8 0, .int .u8 0, .int .u8 0, .int .u8 0, .int .u8 0, .int .u8 0, .int .u8 0, .int .u8 0, .int .u8 0, .int .u8 0, .int .u8 0, .int .u8 0, .int .u8 0, .int .u8 0, .int .u8 0, .int .u8 0, .int .u8 0, .int .u8 0, .int .u8 0, .int .u8 0, .int .u8 0, .int .u8 0, .int .u8 0, .int .u8 0, .int .u8 0, .int .u8 0, .int .u8 0, .int .u8 0, .int .u8 0, .int .u8 0, .int .u8 0, .int .u8 0, .int .u8 0, .int .u8 0, .int .u8 0] : Array Value) = Z64.toArray := by unfold Z64; rfl

theorem Z64_length : Z64.length = 64 := by unfold Z64; rfl

theorem Z64_one : ∀ v ∈ Z64, v.oneCell' = true := by
  intro v hv
  have : v = .int .u8 0 := by
    have h : Z64 = List.replicate 64 (.int .u8 0) := by unfold Z64; rfl
    rw [h] at hv
    exact List.eq_of_mem_replicate hv
  rw [this]; rfl

theorem View.cellAt' {w : World} {lo hi g n cap : Nat} {xs : List Int} (h : View w lo hi .u8 (.slice (some ⟨g, 0, none⟩) n cap) xs) (i : Nat) (hi : i < xs.length) : w.cell? ⟨g, i, none⟩ = some (.int .u8 (xs.getD i 0)) := by
  obtain ⟨_, _, e, _, _, h⟩ := h
  simp only [Value.slice.injEq] at e
  rcases h with h | ⟨b, off, ha, _, _, h3⟩
  · rw [h] at hi; simp at hi
  · rw [← e.1] at ha
    cases ha
    have := h3 i hi
    rwa [Nat.zero_add] at this

theorem results_one {P : Program} {fn : Func} {p : Tmp} {ty : TypeId} {w : World} {tmps : Array Value} {a : Addr} {v : Value} (h : fn.results = #[.cell p ty]) (ht : tmps.getD p undef = .pointer (some a)) (hl : (loadVar ty a).run P w = .ok v w) :
    (results fn tmps).run P w = .ok v w := by
  have ht' : tmps[p]?.getD undef = .pointer (some a) := by simpa using ht
  simp only [results, h]
  simp [asAddr, ht', hl]

end Go.Proofs.YteaeikmgkmpkiaaGreatDoor

namespace Go.Proofs.YteaeikmgkmpkiaaGreatDoor
open Go.RowKit

/-- Bytes as a string. -/
theorem View.str {w : World} {lo hi : Nat} {v : Value} {xs : List Int} (h : View w lo hi .u8 v xs) : (convert 22 9 v).run Tryz.prog w = .ok (.string (strOfNums xs)) w := by
  obtain ⟨ao, cap, rfl, _, _, hcell⟩ := h
  cases ao with
  | none =>
    rcases hcell with rfl | ⟨b, off, e, _⟩
    · exact run_convert_bytes_nil w 22 5 Tryz.underlying22 Tryz.underlying5 0 cap 9 Tryz.underlying9
    · cases e
  | some a =>
    have hl : (loadCells a xs.length).run Tryz.prog w = .ok (xs.map (Value.int .u8)).toArray w := by
      have := run_loadCells_list (P := Tryz.prog) w a (xs.map (Value.int .u8)) (fun j v hj => by
        have hjl : j < xs.length := by have := (List.getElem?_eq_some_iff.1 hj).1; simpa using this
        rcases hcell with rfl | ⟨b, off, e, _, _, hc⟩
        · simp at hjl
        · cases e
          rw [Go.WideShapes.add_plain, hc j hjl, ← hj]
          simp [List.getD_eq_getElem?_getD, hjl])
      simpa using this
    rw [run_convert_bytes_string w 22 9 5 _ _ _ Tryz.underlying22 Tryz.underlying5 Tryz.underlying9, run_bytesToString w _ _ _ xs hl, foldl_push_bytes]
    simp [strOfNums, ByteArray.empty, ByteArray.emptyWithCapacity]
    rfl

theorem View.take {w : World} {lo hi : Nat} {k : IntKind} {ao : Option Addr} {n cap : Nat} {xs : List Int} (h : View w lo hi k (.slice ao n cap) xs) (m : Nat) (hm : m ≤ xs.length) : View w lo hi k (.slice ao m cap) (xs.take m) := by
  obtain ⟨ao', cap', e, hl, ⟨hc, hc'⟩, h⟩ := h
  cases e
  have hlen : (xs.take m).length = m := by rw [List.length_take]; omega
  refine ⟨ao, cap, by rw [hlen], by omega, ⟨by omega, hc'⟩, ?_⟩
  rcases h with h | ⟨b, off, ha, h1, h2, h3⟩
  · left; rw [h]; simp
  · refine Or.inr ⟨b, off, ha, h1, h2, fun i hi => ?_⟩
    rw [hlen] at hi
    have e : (xs.take m).getD i 0 = xs.getD i 0 := by
      simp only [List.getD_eq_getElem?_getD, List.getElem?_take]
      rw [if_pos hi]
    rw [e]
    exact h3 i (by omega)

end Go.Proofs.YteaeikmgkmpkiaaGreatDoor

namespace Go.Proofs.YteaeikmgkmpkiaaGreatDoor
open Go.RowKit Go.Lib

/-- A number as a text; a word and numbers behind it. -/
def dec (v : Int) : ByteArray := ⟨(Lib.itoa v).toArray⟩

theorem dec_small {v : Nat} (h : v < 10) : dec (v : Int) = ⟨#[UInt8.ofNat (48 + v)]⟩ := by
  unfold dec
  rw [itoa_nonneg, decDigits_one h]

theorem arr_app (a b : List UInt8) : (⟨(a ++ b).toArray⟩ : ByteArray) = (⟨a.toArray⟩ : ByteArray) ++ ⟨b.toArray⟩ := by
  apply ByteArray.ext
  rw [ByteArray.data_append]
  simp

theorem dec_big {v : Nat} (h : 10 ≤ v) : dec (v : Int) = dec ((v / 10 : Nat) : Int) ++ dec ((v % 10 : Nat) : Int) := by
  unfold dec
  rw [itoa_nonneg, itoa_nonneg, itoa_nonneg, decDigits_one (show v % 10 < 10 by omega), ← arr_app]
  conv => lhs; rw [decDigits, dif_neg (by omega)]

theorem dec_neg {v : Nat} (h : 1 ≤ v) : dec (-(v : Int)) = ⟨#[45]⟩ ++ dec (v : Int) := by
  unfold dec
  rw [itoa_neg v h, itoa_nonneg]
  have := arr_app [45] (decDigits v)
  exact this

theorem dec_negbig {v : Nat} (h : 10 ≤ v) : dec (-(v : Int)) = dec (-((v / 10 : Nat) : Int)) ++ dec ((v % 10 : Nat) : Int) := by
  rw [dec_neg (by omega), dec_neg (by omega), dec_big h]
  apply ByteArray.ext
  simp only [ByteArray.data_append, Array.append_assoc]

theorem dec_size (v : Int) (h0 : -9223372036854775808 ≤ v) (h1 : v ≤ 9223372036854775807) : (dec v).size ≤ 21 := by
  have := itoa_length_le v h0 h1
  unfold dec
  simpa [ByteArray.size] using this

set_option maxHeartbeats 2000000 in
theorem l14DecP_calls (v : Nat) (h1 : v ≤ 9223372036854775807) : ∀ w : World, Calls Tryz.prog 40 #[.int .i64 (v : Int)] w fun e w' => e = .returned (.string (dec (v : Int))) ∧ Chg 0 0 w w' := by
  induction v using Nat.strongRecOn with
  | ind v ih =>
    intro w
    have hn : ¬ (v : Int) < 0 := by omega
    by_cases hs : v < 10
    · have hs' : (v : Int) < 10 := by omega
      obtain ⟨r, Hr⟩ : ∃ r, Hid (r = dec (v : Int)) := ⟨_, rfl⟩
      have Hd := dec_small hs
      rw [← Hr.out]
      have e1 : IntKind.i64.wrap (48 + (v : Int)) = 48 + (v : Int) := by rw [IntKind.wrap_i64]; omega
      have e2 : IntKind.u8.wrap (48 + (v : Int)) = 48 + (v : Int) := by rw [IntKind.wrap_u8]; omega
      have hst : (convert 22 9 (.slice (some ⟨w.heap.size, 0, none⟩) 1 1)).run Tryz.prog (w.alloc (.cells #[.int .u8 (48 + (v : Int))] 5)) = .ok (.string (strOfNums [48 + (v : Int)])) (w.alloc (.cells #[.int .u8 (48 + (v : Int))] 5)) :=
        (row_view (w := w.alloc (.cells #[.int .u8 (48 + (v : Int))] 5)) (b := w.heap.size) (xs := [48 + (v : Int)]) (t := 5) (heap_new w _) 0 1 1 (by simp) (by simp) (Nat.le_refl _)).str
      have HC : Hid (Chg 0 0 w (w.alloc (.cells #[.int .u8 (48 + (v : Int))] 5))) := Chg.alloc (Chg.refl 0 0 w) _
      have HR : Hid (strOfNums [48 + (v : Int)] = r) := by
        show _ = _
        rw [Hr.out, Hd]
        have : (48 + (v : Int)).toNat = 48 + v := by omega
        simp [strOfNums, this]
      clear ih Hd Hr
      go_enter Tryz.func40, Tryz.ntmps40
      go_wp2
      go_ret
      exact ⟨by rw [← HR.out]; rfl, HC.out⟩
    · have hs' : ¬ (v : Int) < 10 := by omega
      obtain ⟨a, ha⟩ : ∃ a, a = v / 10 := ⟨_, rfl⟩
      obtain ⟨b, hb⟩ : ∃ b, b = v % 10 := ⟨_, rfl⟩
      have i1 := ih a (by omega) (by omega)
      have i2 := ih b (by omega) (by omega)
      have Hd : Hid (dec (v : Int) = dec (a : Int) ++ dec (b : Int)) := by show _ = _; rw [ha, hb]; exact dec_big (by omega)
      have hsz1 := dec_size (a : Int) (by omega) (by omega)
      have hsz2 := dec_size (b : Int) (by omega) (by omega)
      have e1 : (v : Int).tdiv 10 = (a : Int) := by rw [Int.tdiv_eq_ediv_of_nonneg (by omega)]; omega
      have e2 : (v : Int).tmod 10 = (b : Int) := by rw [Int.tmod_eq_emod_of_nonneg (by omega)]; omega
      have e3 : IntKind.i64.wrap (a : Int) = (a : Int) := by rw [IntKind.wrap_i64]; omega
      have e4 : IntKind.i64.wrap (b : Int) = (b : Int) := by rw [IntKind.wrap_i64]; omega
      rw [Hd.out]
      clear ha hb ih
      generalize dec (a : Int) = da at *
      generalize dec (b : Int) = db at *
      go_enter Tryz.func40, Tryz.ntmps40
      go_wp2_with fail
      refine (i1 _).mono ?_
      rintro e w1 ⟨rfl, c1⟩
      have H1 : Hid (Chg 0 0 w w1) := c1
      clear c1 i1
      go_wp2_with fail
      refine (i2 _).mono ?_
      rintro e w2 ⟨rfl, c2⟩
      have H2 : Hid (Chg 0 0 w w2) := H1.out.trans c2
      clear c2 i2
      go_wp2
      go_ret
      exact ⟨rfl, H2.out⟩

set_option maxHeartbeats 2000000 in
theorem l14DecN_calls (v : Nat) (h0 : 1 ≤ v) (h1 : v ≤ 9223372036854775808) : ∀ w : World, Calls Tryz.prog 40 #[.int .i64 (-(v : Int))] w fun e w' => e = .returned (.string (dec (-(v : Int)))) ∧ Chg 0 0 w w' := by
  induction v using Nat.strongRecOn with
  | ind v ih =>
    intro w
    have hn : -(v : Int) < 0 := by omega
    obtain ⟨nv, hnv⟩ : ∃ nv, nv = -(v : Int) := ⟨_, rfl⟩
    by_cases hs : v < 10
    · have hs' : ¬ nv < -9 := by omega
      have i1 := l14DecP_calls v (by omega)
      have Hd : Hid (dec (-(v : Int)) = ⟨#[45]⟩ ++ dec (v : Int)) := dec_neg h0
      have hsz1 := dec_size (v : Int) (by omega) (by omega)
      have e3 : IntKind.i64.wrap (-nv) = (v : Int) := by rw [IntKind.wrap_i64]; omega
      rw [Hd.out, ← hnv]
      rw [← hnv] at hn
      clear ih hnv
      generalize dec (v : Int) = da at *
      go_enter Tryz.func40, Tryz.ntmps40
      go_wp2_with fail
      refine (i1 _).mono ?_
      rintro e w1 ⟨rfl, c1⟩
      have H1 : Hid (Chg 0 0 w w1) := c1
      clear c1 i1
      go_wp2
      go_ret
      exact ⟨rfl, H1.out⟩
    · have hs' : nv < -9 := by omega
      obtain ⟨a, ha⟩ : ∃ a, a = v / 10 := ⟨_, rfl⟩
      obtain ⟨b, hb⟩ : ∃ b, b = v % 10 := ⟨_, rfl⟩
      have i1 := ih a (by omega) (by omega) (by omega)
      have i2 := l14DecP_calls b (by omega)
      have Hd : Hid (dec (-(v : Int)) = dec (-(a : Int)) ++ dec (b : Int)) := by show _ = _; rw [ha, hb]; exact dec_negbig (by omega)
      have hsz1 := dec_size (-(a : Int)) (by omega) (by omega)
      have hsz2 := dec_size (b : Int) (by omega) (by omega)
      have e1 : nv.tdiv 10 = -(a : Int) := by rw [hnv, Int.neg_tdiv, Int.tdiv_eq_ediv_of_nonneg (by omega)]; omega
      have e2 : nv.tmod 10 = -(b : Int) := by rw [hnv, Int.neg_tmod, Int.tmod_eq_emod_of_nonneg (by omega)]; omega
      have e3 : IntKind.i64.wrap (-(a : Int)) = -(a : Int) := by rw [IntKind.wrap_i64]; omega
      have e4 : IntKind.i64.wrap (-(b : Int)) = -(b : Int) := by rw [IntKind.wrap_i64]; omega
      have e5 : IntKind.i64.wrap (b : Int) = (b : Int) := by rw [IntKind.wrap_i64]; omega
      rw [Hd.out, ← hnv]
      rw [← hnv] at hn
      clear ha hb ih hnv
      generalize dec (-(a : Int)) = da at *
      generalize dec (b : Int) = db at *
      generalize -(a : Int) = na at *
      go_enter Tryz.func40, Tryz.ntmps40
      go_wp2_with fail
      refine (i1 _).mono ?_
      rintro e w1 ⟨rfl, c1⟩
      have H1 : Hid (Chg 0 0 w w1) := c1
      clear c1 i1
      go_wp2_with fail
      refine (i2 _).mono ?_
      rintro e w2 ⟨rfl, c2⟩
      have H2 : Hid (Chg 0 0 w w2) := H1.out.trans c2
      clear c2 i2
      go_wp2
      go_ret
      exact ⟨rfl, H2.out⟩

theorem l14Dec_calls (w : World) (v : Int) (h0 : -9223372036854775808 ≤ v) (h1 : v ≤ 9223372036854775807) : Calls Tryz.prog 40 #[.int .i64 v] w fun e w' => e = .returned (.string (dec v)) ∧ Chg 0 0 w w' := by
  by_cases h : v < 0
  · have := l14DecN_calls v.natAbs (by omega) (by omega) w
    rw [show -(v.natAbs : Int) = v by omega] at this
    exact this
  · have := l14DecP_calls v.natAbs (by omega) w
    rw [show (v.natAbs : Int) = v by omega] at this
    exact this

/-- The table of powers stands. -/
def Pow (w : World) : Prop := Lib.TabIs Tryz.prog w "internal/strconv.uint64pow10" .u64 Lib.pow10Tab
theorem Pow.chg {w w' : World} (h : Pow w) (c : Chg 0 0 w w') : Pow w' := by
  unfold Pow Lib.TabIs at h ⊢
  have hg : Tryz.prog.globalNamed "internal/strconv.uint64pow10" = some 5 := by kernel_rfl
  simp only [World.var?, hg, Option.bind_some] at h ⊢
  have hlt : 5 < w.heap.size := by
    rcases Nat.lt_or_ge 5 w.heap.size with h' | h'
    · exact h'
    · rw [Array.getElem?_eq_none h'] at h
      cases h
  rw [c.block _ hlt (by omega)]
  exact h
theorem grow_chg (w : World) (k : Nat) (os : Array Obj) : Chg 0 0 w (Go.Sort.grow (w.drewN k) os) :=
  ⟨rfl, rfl, rfl, by simp [Go.Sort.grow, World.drewN], fun j hj _ => by
    show (w.heap ++ os)[j]? = _
    rw [Array.getElem?_append_left hj]⟩

theorem format_calls (w : World) (v : Int) (h0 : -9223372036854775808 ≤ v) (h1 : v ≤ 9223372036854775807) (hp : Pow w) : Calls Tryz.prog 57 #[.int .i64 v, .int .i64 10] w fun e w' => e = .returned (.string (dec v)) ∧ Chg 0 0 w w' := by
  refine (Any.strconv_FormatInt_10 Tryz.laysM173 v h0 h1 w hp).mono ?_
  rintro e w' ⟨he, k, os, rfl⟩
  exact ⟨he, grow_chg w k os⟩

def say (word : ByteArray) (ns : List Int) : ByteArray := ns.foldl (fun a n => a ++ (⟨#[32]⟩ ++ dec n)) word
theorem say_succ (word : ByteArray) (ns : List Int) (k : Nat) (h : k < ns.length) : say word (ns.take (k + 1)) = say word (ns.take k) ++ (⟨#[32]⟩ ++ dec (ns.getD k 0)) := by
  unfold say
  rw [List.take_add_one, List.getElem?_eq_getElem h, List.foldl_append]
  simp [List.getD_eq_getElem?_getD, h]
def In64 (ns : List Int) : Prop := ∀ n ∈ ns, -9223372036854775808 ≤ n ∧ n ≤ 9223372036854775807
theorem say_size (word : ByteArray) (ns : List Int) (hI : In64 ns) (k : Nat) (h : k ≤ ns.length) : (say word (ns.take k)).size ≤ word.size + 22 * k := by
  induction k with
  | zero => simp [say]
  | succ k ih =>
    have hm : ns.getD k 0 ∈ ns := by
      rw [List.getD_eq_getElem?_getD, List.getElem?_eq_getElem (by omega)]
      exact List.getElem_mem _
    have hd := dec_size _ (hI _ hm).1 (hI _ hm).2
    rw [say_succ _ _ _ (by omega), ByteArray.size_append, ByteArray.size_append]
    have := ih (by omega)
    have e : (⟨#[32]⟩ : ByteArray).size = 1 := rfl
    omega

end Go.Proofs.YteaeikmgkmpkiaaGreatDoor
