/- Several short texts in one: Cells, Cells2, RowZ, ViewStr. -/
import Derived.Test.YteaeikmgkmpkiaaGreatDoorMem
import Derived.Deep.MidRow
import Derived.Test.YteaeikmgkmpkiaaGreatDoorRows
import Derived.Laws.BytesArg
namespace Go.Proofs.YteaeikmgkmpkiaaGreatDoor
open Go.RowKit

theorem Chg.setCells (g : Nat) : ∀ (vs : List Value) (o : Nat) (w : World), Chg g (g + 1) w (w.setCells g o vs)
  | [], _, _ => Chg.refl _ _ _
  | v :: r, o, w => (Chg.setCell (Chg.refl g (g + 1) w) (p := ⟨g, o, none⟩) (Or.inl ⟨Nat.le_refl _, Nat.lt_succ_self _⟩) v).trans (Chg.setCells g r (o + 1) _)

theorem splice_cons {α : Type} (L : List α) (o : Nat) (v : α) (r : List α) (h : o < L.length) : splice (L.set o v) (o + 1) r = splice L o (v :: r) := by
  unfold splice
  have e1 : (L.set o v).take (o + 1) = L.take o ++ [v] := by
    rw [List.take_succ_eq_append_getElem (by simpa using h), List.take_set, List.set_eq_of_length_le (by simp; omega)]
    simp
  have e2 : (L.set o v).drop (o + 1 + r.length) = L.drop (o + (v :: r).length) := by
    rw [List.drop_set_of_lt (by omega)]
    congr 1
    simp only [List.length_cons]; omega
  rw [e1, e2]
  simp

theorem heap_setCells (g : Nat) (t : TypeId) : ∀ (vs : List Value) (o : Nat) (w : World) (L : List Value), w.heap[g]? = some (.cells L.toArray t (0, 0)) → o + vs.length ≤ L.length →
    (w.setCells g o vs).heap[g]? = some (.cells (splice L o vs).toArray t (0, 0))
  | [], o, w, L, h, _ => by simpa [World.setCells, splice] using h
  | v :: r, o, w, L, h, hl => by
    have h1 : (w.setCell ⟨g, o, none⟩ v).heap[g]? = some (.cells (L.set o v).toArray t (0, 0)) := by
      have := heap_setCell_same w g o L.toArray t v h
      simpa using this
    have := heap_setCells g t r (o + 1) _ (L.set o v) h1 (by simp at *; omega)
    rw [splice_cons L o v r (by simp at hl; omega)] at this
    exact this

theorem row_there {w : World} {g : Nat} {L : List Value} {t : TypeId} (h : w.heap[g]? = some (.cells L.toArray t (0, 0))) : w.there g 0 L.length := by
  intro j hj
  rw [Nat.zero_add]
  refine ⟨?_, ?_⟩
  · simp [World.cell?, h, hj]
  · simp [World.frozen?, h]

/-- A row is written whole. -/
theorem wp_store_row {P : Program} {o : Oper} {a : Act} {w : World} {K : Act → World → Prop} {Q : Exit → Act → World → Prop} (T : TypeId) (p v : Operand) (ho : o.op = .store T p v) (hd : o.dst = none) (g : Nat) (hp : a.eval p = .pointer (some ⟨g, 0, none⟩))
    (full L : List Value) (t : TypeId) (hv : a.eval v = .agg full.toArray) (hg : w.heap[g]? = some (.cells L.toArray t (0, 0))) (hl : full.length = L.length) (hi : (P.info? T).map (·.size) = some full.length) (h1 : ∀ v ∈ full, v.oneCell' = true)
    (h : ∀ w', w'.heap[g]? = some (.cells full.toArray t (0, 0)) → Chg g (g + 1) w w' → K a w') : o.wp P a w K Q := by
  have ht : w.there g 0 full.toArray.size := by have := row_there hg; simpa [hl] using this
  refine wp_store_mid T p v ho g 0 full.toArray hp hv ht (by simpa using hi) (by rw [Array.all_eq_true_iff_forall_mem]; intro x hx; exact h1 x (by simpa using hx)) ?_
  rw [hd]
  refine h _ ?_ (Chg.setCells g _ 0 w)
  have := heap_setCells g t full 0 w L hg (by omega)
  have e : splice L 0 full = full := by
    unfold splice
    rw [List.take_zero, List.nil_append, Nat.zero_add, List.drop_of_length_le (by omega), List.append_nil]
  rw [e] at this
  exact this

end Go.Proofs.YteaeikmgkmpkiaaGreatDoor

namespace Go.Proofs.YteaeikmgkmpkiaaGreatDoor
open Go.RowKit

theorem wpList_store_row {P : Program} {ops : Array Oper} {rest : List Oper} {op : Oper} {a : Act} {w : World} {Q : Exit → Act → World → Prop} (hgd : op.guard = none) (T : TypeId) (x y : Operand) (ho : op.op = .store T x y) (hd : op.dst = none) (g : Nat) (hx : a.eval x = .pointer (some ⟨g, 0, none⟩))
    (full L : List Value) (t : TypeId) (hy : a.eval y = .agg full.toArray) (hg : w.heap[g]? = some (.cells L.toArray t (0, 0))) (hl : full.length = L.length) (hi : (P.info? T).map (·.size) = some full.length) (h1 : ∀ v ∈ full, v.oneCell' = true)
    (h : ∀ w', w'.heap[g]? = some (.cells full.toArray t (0, 0)) → Chg g (g + 1) w w' → wpList P ops Q rest a w') : wpList P ops Q (op :: rest) a w :=
  wpList_plain hgd fun _ hK => wp_store_row T x y ho hd g hx full L t hy hg hl hi h1 (fun w' h2 h3 => hK _ _ (h w' h2 h3))

end Go.Proofs.YteaeikmgkmpkiaaGreatDoor

namespace Go.Proofs.YteaeikmgkmpkiaaGreatDoor
open Go.RowKit

theorem row_view {w : World} {b : Nat} {xs : List Int} {t : TypeId} (h : w.heap[b]? = some (.cells (xs.map (Value.int .u8)).toArray t (0, 0))) (o n cap : Nat) (hn : o + n ≤ xs.length) (hl : xs.length ≤ 1048576) (hc : n ≤ cap) : View w b (b + 1) .u8 (.slice (some ⟨b, o, none⟩) n cap) ((xs.drop o).take n) := by
  have hlen : ((xs.drop o).take n).length = n := by rw [List.length_take, List.length_drop]; omega
  refine ⟨_, cap, by rw [hlen], by rw [hlen]; omega, ⟨by rw [hlen]; exact hc, by simp⟩, Or.inr ⟨b, o, rfl, Nat.le_refl _, Nat.lt_succ_self _, fun i hi => ?_⟩⟩
  rw [hlen] at hi
  simp only [World.cell?, h, List.getElem?_toArray, List.getElem?_map, List.getD_eq_getElem?_getD, List.getElem?_take, List.getElem?_drop, if_pos hi]
  rw [List.getElem?_eq_getElem (show o + i < xs.length by omega)]
  rfl

theorem row_rng {w : World} {b : Nat} {cs : List Value} {t : TypeId} (h : w.heap[b]? = some (.cells cs.toArray t (0, 0))) : w.rangeAt b 0 cs := by
  intro j v hj
  rw [Nat.zero_add]
  simp [World.cell?, h, hj]

/-- 64 cells that bear 0, kept closed. -/
@[irreducible] def Z64 : List Value := [.int .u8 0, .int .u8 0, .int .u8 0, .int .u8 0, .int .u8 0, .int .u8 0, .int .u8 0, .int .u8 0, .int .u8 0, .int .u8 0, .int .u8 0, .int .u8 0, .int .u8 0, .int .u8 0, .int .u8 0, .int .u8 0, .int .u8 0, .int .u8 0, .int .u8 0, .int .u8 0, .int .u8 0, .int .u8 0, .int .u8 0, .int .u8 0, .int .u8 0, .int .u8 0, .int .u8 0, .int .u8 0, .int .u8 0, .int .u8 0, .int .u8 0, .int .u8 0, .int .u8 0, .int .u8 0, .int .u8 0, .int .u8 0, .int .u8 0, .int .u8 0, .int .u8 0, .int .u8 0, .int .u8 0, .int .u8 0, .int .u8 0, .int .u8 0, .int .u8 0, .int .u8 0, .int .u8 0, .int .u8 0, .int .u8 0, .int .u8 0, .int .u8 0, .int .u8 0, .int .u8 0, .int .u8 0, .int .u8 0, .int .u8 0, .int .u8 0, .int .u8 0, .int .u8 0, .int .u8 0, .int .u8 0, .int .u8 0, .int .u8 0, .int .u8 0]

theorem Z64_eq : (#[.int .u8 0, .int .u8 0, .int .u8 0, .int .u8 0, .int .u8 0, .int .u8 0, .int .u8 0, .int .u8 0, .int .u8 0, .int .u8 0, .int .u8 0, .int .u8 0, .int .u8 0, .int .u8 0, .int .u8 0, .int .u8 0, .int .u8 0, .int .u8 0, .int .u8 0, .int .u8 0, .int .u8 0, .int .u8 0, .int .u8 0, .int .u8 0, .int .u8 0, .int .u8 0, .int .u8 0, .int .u8 0, .int .u8 0, .int .u8 0, .int .u8 0, .int .u8 0, .int .u8 0, .int .u8 0, .int .u8 0, .int .u8 0, .int .u8 0, .int .u8 0, .int .u8 0, .int .u8 0, .int .u8 0, .int .u8 0, .int .u8 0, .int .u8 0, .int .u8 0, .int .u8 0, .int .u8 0, .int .u8 0, .int .u8 0, .int .u8 0, .int .u8 0, .int .u8 0, .int .u8 0, .int .u8 0, .int .u8 0, .int .u8 0, .int .u8 0, .int .u8 0, .int .u8 0, .int .u8 0, .int .u8 0, .int .u8 0, .int .u8 0, .int .u8 0] : Array Value) = Z64.toArray := by unfold Z64; rfl

theorem Z64_length : Z64.length = 64 := by unfold Z64; rfl

theorem Z64_one : ∀ v ∈ Z64, v.oneCell' = true := by
  intro v hv
  have : v = .int .u8 0 := by
    have h : Z64 = List.replicate 64 (.int .u8 0) := by unfold Z64; rfl
    rw [h] at hv
    exact List.eq_of_mem_replicate hv
  rw [this]; rfl

theorem View.cellAt' {w : World} {lo hi g n cap : Nat} {xs : List Int} (h : View w lo hi .u8 (.slice (some ⟨g, 0, none⟩) n cap) xs) (i : Nat) (hi : i < xs.length) : w.cell? ⟨g, i, none⟩ = some (.int .u8 (xs.getD i 0)) := by
  obtain ⟨_, _, e, _, _, h⟩ := h
  simp only [Value.slice.injEq] at e
  rcases h with h | ⟨b, off, ha, _, _, h3⟩
  · rw [h] at hi; simp at hi
  · rw [← e.1] at ha
    cases ha
    have := h3 i hi
    rwa [Nat.zero_add] at this

theorem results_one {P : Program} {fn : Func} {p : Tmp} {ty : TypeId} {w : World} {tmps : Array Value} {a : Addr} {v : Value} (h : fn.results = #[.cell p ty]) (ht : tmps.getD p undef = .pointer (some a)) (hl : (loadVar ty a).run P w = .ok v w) :
    (results fn tmps).run P w = .ok v w := by
  have ht' : tmps[p]?.getD undef = .pointer (some a) := by simpa using ht
  simp only [results, h]
  simp [asAddr, ht', hl]

end Go.Proofs.YteaeikmgkmpkiaaGreatDoor

namespace Go.Proofs.YteaeikmgkmpkiaaGreatDoor
open Go.RowKit

/-- Bytes as a string. -/
theorem View.str {w : World} {lo hi : Nat} {v : Value} {xs : List Int} (h : View w lo hi .u8 v xs) : (convert 22 9 v).run Tryz.prog w = .ok (.string (strOfNums xs)) w := by
  obtain ⟨ao, cap, rfl, _, _, hcell⟩ := h
  cases ao with
  | none =>
    rcases hcell with rfl | ⟨b, off, e, _⟩
    · exact run_convert_bytes_nil w 22 5 Tryz.underlying22 Tryz.underlying5 0 cap 9 Tryz.underlying9
    · cases e
  | some a =>
    have hl : (loadCells a xs.length).run Tryz.prog w = .ok (xs.map (Value.int .u8)).toArray w := by
      have := run_loadCells_list (P := Tryz.prog) w a (xs.map (Value.int .u8)) (fun j v hj => by
        have hjl : j < xs.length := by have := (List.getElem?_eq_some_iff.1 hj).1; simpa using this
        rcases hcell with rfl | ⟨b, off, e, _, _, hc⟩
        · simp at hjl
        · cases e
          rw [Go.WideShapes.add_plain, hc j hjl, ← hj]
          simp [List.getD_eq_getElem?_getD, hjl])
      simpa using this
    rw [run_convert_bytes_string w 22 9 5 _ _ _ Tryz.underlying22 Tryz.underlying5 Tryz.underlying9, run_bytesToString w _ _ _ xs hl, foldl_push_bytes]
    simp [strOfNums, ByteArray.empty, ByteArray.emptyWithCapacity]
    rfl

theorem View.take {w : World} {lo hi : Nat} {k : IntKind} {ao : Option Addr} {n cap : Nat} {xs : List Int} (h : View w lo hi k (.slice ao n cap) xs) (m : Nat) (hm : m ≤ xs.length) : View w lo hi k (.slice ao m cap) (xs.take m) := by
  obtain ⟨ao', cap', e, hl, ⟨hc, hc'⟩, h⟩ := h
  cases e
  have hlen : (xs.take m).length = m := by rw [List.length_take]; omega
  refine ⟨ao, cap, by rw [hlen], by omega, ⟨by omega, hc'⟩, ?_⟩
  rcases h with h | ⟨b, off, ha, h1, h2, h3⟩
  · left; rw [h]; simp
  · refine Or.inr ⟨b, off, ha, h1, h2, fun i hi => ?_⟩
    rw [hlen] at hi
    have e : (xs.take m).getD i 0 = xs.getD i 0 := by
      simp only [List.getD_eq_getElem?_getD, List.getElem?_take]
      rw [if_pos hi]
    rw [e]
    exact h3 i (by omega)

end Go.Proofs.YteaeikmgkmpkiaaGreatDoor
