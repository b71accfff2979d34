/- szAnswer, toStringS, toCall, toAnswer, eqAnswer of the laws. -/
import Derived.Test.YtoagahpoblcioaaDoorFmtArg
namespace Go.Proofs.YtoagahpoblcioaaDoor
open Go.RowKit Go.Lib

set_option maxHeartbeats 2000000 in
theorem szAnswer_calls (w : World) (code : Int) (data : ByteArray) (na : Option Addr) (nc : Nat) (names : List ByteArray) (handle k l s b sq hd us rn cm : Int) {lo hi : Nat} (left : Int) (h0 : 0 ≤ left) (h1 : left ≤ 1048576) (hN : SView w lo hi (.slice na names.length nc) names) (hz : ∀ n ∈ names, n.size ≤ 9223372036854775807) (z1 : data.size ≤ 9223372036854775807) :
    Calls Tryd.prog 5 #[.agg (cAns code data (.slice na names.length nc) handle k l s b sq hd us rn cm), .int .i64 left] w fun e w' => ∃ r, e = .returned (.int .i64 r) ∧ (r < 0 ∨ (0 ≤ r ∧ r + data.size + names.length + sumS names = left)) ∧ Chg 0 0 w w' := by
  have HC : Hid (∀ A : Obj, Chg 0 0 w (w.alloc A)) := fun A => Chg.alloc (Chg.refl 0 0 w) A
  have e1 : IntKind.i64.wrap (left - (data.size : Int)) = left - (data.size : Int) := by rw [IntKind.wrap_i64]; omega
  by_cases n1 : left - (data.size : Int) < 0
  · go_enter Tryd.func5, Tryd.ntmps5
    go_wp2
    go_ret
    exact ⟨_, rfl, Or.inl (by omega), HC.out _⟩
  have hS := fun A : Obj => szStringS_calls (w.alloc A) names (left - (data.size : Int)) (by omega) (by omega) (hN.chg (HC.out A) (by omega)) hz
  clear hN
  go_enter Tryd.func5, Tryd.ntmps5
  go_wp2_with fail
  refine (hS _).mono ?_
  rintro e w1 ⟨r, rfl, hr, rfl⟩
  clear hS
  by_cases n2 : r < 0
  · go_wp2
    go_ret
    exact ⟨_, rfl, Or.inl (by omega), HC.out _⟩
  · go_wp2
    go_ret
    exact ⟨_, rfl, Or.inr ⟨by omega, by omega⟩, HC.out _⟩

/-- What stands when k of the texts are put. -/
def putS (names : List ByteArray) (k : Nat) : List ByteArray := names.take k ++ List.replicate (names.length - k) noText
theorem putS_len (names : List ByteArray) (k : Nat) (h : k ≤ names.length) : (putS names k).length = names.length := by unfold putS; simp; omega
theorem putS_set (names : List ByteArray) (k : Nat) (h : k < names.length) : (putS names k).set k (names.getD k noText) = putS names (k + 1) := by
  unfold putS
  have e : names.length - k = (names.length - (k + 1)) + 1 := by omega
  rw [e, List.replicate_succ]
  have hl : (names.take k).length = k := by rw [List.length_take]; omega
  have h2 : names.take (k + 1) = names.take k ++ [names.getD k noText] := by
    rw [List.take_add_one, List.getElem?_eq_getElem h]
    simp [List.getD_eq_getElem?_getD, h]
  rw [h2, List.set_append, if_neg (by omega), hl, Nat.sub_self, List.set_cons_zero, List.append_assoc]
  rfl

theorem Tryd.infoTy : (Tryd.prog.info? 9).map (fun i => (i.zero, i.size, i.bytes)) = some (some (.string ⟨#[]⟩), 1, 16) := by kernel_rfl

theorem run_makeS (w : World) (n : Nat) (h1 : n ≤ 1048576) :
    (Instr.makeSlice 24 (.int .i64 (n : Int)) (.int .i64 (n : Int))).run Tryd.prog w = .ok (.slice (some ⟨w.heap.size, 0, none⟩) n n) (w.alloc (cN 9 (List.replicate n noText))) := by
  obtain ⟨i, hi, hz0, hz1, hz2⟩ := info_parts Tryd.infoTy
  have h := run_make (P := Tryd.prog) w 24 9 i _ Tryd.underlying24 hi hz0 .i64 .i64 (n : Int) (n : Int) (by omega) (Int.le_refl _) (by rw [hz2]; omega) (by omega)
  rw [h, hz1]
  congr 3
  apply Array.ext'
  rw [Nat.mul_one, Int.toNat_natCast]
  show (madeCells #[Value.string ⟨#[]⟩] n).toList = _
  apply List.ext_getElem?
  intro j
  by_cases hj : j < n
  · simp [madeCells, hj, Nat.mod_one, noText]
  · simp [madeCells, hj]

set_option maxRecDepth 20000 in
set_option maxHeartbeats 2000000 in
theorem toStringS_calls (w : World) {lo hi : Nat} {na : Option Addr} {nc : Nat} (names : List ByteArray) (hl : names.length ≤ 1048576) (hN : SView w lo hi (.slice na names.length nc) names) :
    Calls Tryd.prog 14 #[.slice na names.length nc] w fun e w' => e = .returned (.slice (some ⟨w.heap.size, 0, none⟩) names.length names.length) ∧ w'.heap[w.heap.size]? = some (cN 9 names) ∧ Chg 0 0 w w' := by
  have hmk := run_makeS w names.length hl
  have HB0 : Hid ((w.alloc (cN 9 (List.replicate names.length noText))).heap[w.heap.size]? = some (cN 9 (putS names 0))) := by
    have h := heap_new w (cN 9 (List.replicate names.length noText))
    show _ = _
    rw [h]
    simp [putS]
  have HC0 : Hid (Chg 0 0 w (w.alloc (cN 9 (List.replicate names.length noText)))) := Chg.alloc (Chg.refl 0 0 w) _
  have HN : Hid (SView w lo hi (.slice na names.length nc) names) := hN
  clear hN
  generalize w.alloc (cN 9 (List.replicate names.length noText)) = w1 at *
  go_enter Tryd.func14, Tryd.ntmps14
  go_wp2
  go_loopw [4] (fun i wr => ∃ (k : Nat), k ≤ names.length ∧ i = .int .i64 k ∧ wr.heap[w.heap.size]? = some (cN 9 (putS names k)) ∧ Chg 0 0 w wr) (fun i _ => names.length - (RowKit.intOf i).toNat)
  case atStart => exact ⟨0, Nat.zero_le _, rfl, HB0.out, HC0.out⟩
  case round =>
    obtain ⟨k, hk, rfl, hb, hch⟩ := hrel
    have HC : Hid (Chg 0 0 w wr) := hch
    clear hch HB0 HC0 hmk
    by_cases hlt : k < names.length
    · have hi1 : (k : Int) < (names.length : Int) := by omega
      obtain ⟨b', off, rfl, hc⟩ : ∃ b off, na = some ⟨b, off, none⟩ ∧ wr.cell? ⟨b, off + k, none⟩ = some (.string (names.getD k noText)) := by
        obtain ⟨ao', cap', e, _, _, h3⟩ := HN.out.chg HC.out (by omega)
        simp only [Value.slice.injEq] at e
        rcases h3 with h3 | ⟨b, off, e2, _, _, h4⟩
        · rw [h3] at hlt; simp at hlt
        · exact ⟨b, off, by rw [e.1, e2], h4 k hlt⟩
      have hpl := putS_len names k (by omega)
      have hcl : wr.cell? ⟨w.heap.size, k, none⟩ = some (.string ((putS names k).getD k noText)) := by
        rw [Lib.cell_of_heap hb, List.getElem?_toArray, List.getElem?_map, List.getElem?_eq_getElem (by omega)]
        simp [List.getD_eq_getElem?_getD, List.getElem?_eq_getElem (show k < (putS names k).length by omega)]
      have hfz : wr.frozen? ⟨w.heap.size, k, none⟩ = false := Lib.frozen_of_heap hb k
      have HB2 : Hid ((wr.setCell ⟨w.heap.size, k, none⟩ (.string (names.getD k noText))).heap[w.heap.size]? = some (cN 9 (putS names (k + 1)))) := by
        show _ = _
        rw [setCell_eq_setRow wr w.heap.size k _ 9 (0, 0) _ hb, setRow_heap wr w.heap.size _ _ 9 _ hb, ← putS_set names k hlt]
        show some (Obj.cells _ _ _) = some (Obj.cells (((putS names k).set k (names.getD k noText)).map Value.string).toArray _ _)
        rw [List.map_set]
        simp
      have HC2 : Hid (Chg 0 0 w (wr.setCell ⟨w.heap.size, k, none⟩ (.string (names.getD k noText)))) := HC.out.setCell (p := ⟨w.heap.size, k, none⟩) (Or.inr (Nat.le_refl _)) _
      clear hb
      generalize (putS names k).getD k noText = old at *
      generalize names.getD k noText = nm at *
      go_wp2
      go_roundw
      case rel => exact ⟨k + 1, by omega, by go_num, HB2.out, HC2.out⟩
      case measure => simp [RowKit.intOf]; omega
    · obtain rfl : k = names.length := by omega
      have hi1 : ¬ ((names.length : Nat) : Int) < (names.length : Int) := by omega
      have HB2 : Hid (wr.heap[w.heap.size]? = some (cN 9 names)) := by
        show _ = _
        rw [hb]
        simp [putS]
      clear hb
      go_wp2
      go_ret
      exact ⟨rfl, HB2.out, HC.out⟩

theorem cN_view {w : World} {g : Nat} {names : List ByteArray} (h : w.heap[g]? = some (cN 9 names)) (hl : names.length ≤ 1048576) : SView w g (g + 1) (.slice (some ⟨g, 0, none⟩) names.length names.length) names := by
  refine ⟨_, _, rfl, by omega, Nat.le_refl _, Or.inr ⟨g, 0, rfl, Nat.le_refl _, Nat.lt_succ_self _, fun i hi => ?_⟩⟩
  rw [Nat.zero_add, Lib.cell_of_heap h, List.getElem?_toArray, List.getElem?_map, List.getElem?_eq_getElem hi]
  simp [List.getD_eq_getElem?_getD, hi]

set_option maxHeartbeats 2000000 in
theorem toCall_calls (w : World) (kind : Int) (path to' : ByteArray) (ch co cs : Int) (cd : ByteArray) :
    Calls Tryd.prog 7 #[.agg (cCall kind path to' ch co cs cd)] w fun e w' => e = .returned (.agg (cCall kind path to' ch co cs cd)) ∧ Chg 0 0 w w' := by
  go_enter Tryd.func7, Tryd.ntmps7
  go_wp2
  exact bodyPost_ret (v := .agg (cCall kind path to' ch co cs cd)) (by simp [results, Tryd.results7, go_sem]) rfl ⟨rfl, ((Chg.alloc (Chg.refl 0 0 w) _).alloc _).alloc _⟩

end Go.Proofs.YtoagahpoblcioaaDoor
