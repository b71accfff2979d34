/- FormatAnswer of the model, at a list of names. (made by tools/mkfmt.py) -/
import Derived.Test.YtoagahpoblcioaaDoorFmtV
import Derived.Test.YtoagahpoblcioaaDoorBytSeen
import Derived.Lib.SlBytesConst
import Derived.Shelf.Strings.Builder1
namespace Go.Proofs.YtoagahpoblcioaaDoor
open Go.RowKit Go.Lib

/-- append of a text to bytes of one's own (up to 2097152). -/
theorem wpList_app_text2 {ops : Array Oper} {rest : List Oper} {o : Oper} {a : Act} {w : World} {Q : Exit → Act → World → Prop} (hgd : o.guard = none) (sl x : Operand)
    (ho : o.op = .call { callee := .builtin .append, args := #[sl, x], argTypes := #[47, 9] })
    (base : Nat) (sv : Value) (xs : List Int) (hs : a.eval sl = sv) (hO : OwnB w base 5 sv xs) (hbase : base ≤ w.heap.size) (ys : List Int) (s : ByteArray) (hx : a.eval x = .string s) (hc : strCells s = ys.map (Value.int .u8)) (hp : 0 < xs.length) (hl : xs.length + ys.length ≤ 2097152)
    (h : ∀ g cp w', OwnB w' base 5 (.slice (some ⟨g, 0, none⟩) (xs ++ ys).length cp) (xs ++ ys) → Chg base w.heap.size w w' → wpList Tryd.prog ops Q rest (a.put o.dst (.slice (some ⟨g, 0, none⟩) (xs ++ ys).length cp)) w') : wpList Tryd.prog ops Q (o :: rest) a w := by
  refine wpList_plain hgd fun _ hK => ?_
  obtain ⟨i, hi, hz0, hz1, hz2⟩ := info_parts Tryd.infoU1
  have hsz : s.size = ys.length := by rw [← strCells_length, hc, List.length_map]
  have hrow : w.ownsRow base 5 1 sv xs.length (xs.map (Value.int .u8)) := hO
  obtain ⟨v', w', hr, h2, h3, _⟩ := run_append_own_string (P := Tryd.prog) w base 47 9 o.type 5 i Tryd.underlying47 Tryd.underlying9 hi hz0 hz1 hz2 sv xs.length _ hrow s (by unfold maxLen; omega) (by omega) hbase
  have o2 : OwnB w' base 5 v' (xs ++ ys) := by unfold OwnB; rw [List.length_append, List.map_append, ← hc, ← hsz]; exact h2
  obtain ⟨g, cp, rfl⟩ := o2.some_of (by rw [List.length_append]; omega)
  have hfin := hK _ _ (h g cp w' o2 (Chg.ofGrown h3 (fun g hg hlt => ⟨(World.ownsRow.lt hrow g hg).1, hlt⟩)))
  unfold Oper.wp execOp
  simp only [ho, resolve, invoke, builtin, Sem.run_bind, Sem.run_pure, Result.andThen_ok, List.map_toArray, List.map_cons, List.map_nil, hs, hx, hr]
  exact hfin

/-- Bytes to append to: one's own, or a full row that a conversion marked. -/
def OwnX (w : World) (base : Nat) (v : Value) (xs : List Int) : Prop := OwnB w base 5 v xs ∨
  ∃ g cur fr, v = .slice (some ⟨g, 0, none⟩) xs.length xs.length ∧ base ≤ g ∧ w.heap[g]? = some (.cells cur 5 fr) ∧ ∀ i, i < xs.length → cur[i]? = some (.int .u8 (xs.getD i 0))
theorem OwnX.view {w : World} {base : Nat} {v : Value} {xs : List Int} (h : OwnX w base v xs) (hl : xs.length ≤ 9223372036854775807) : View w base w.heap.size .u8 v xs := by
  rcases h with h | ⟨g, cur, fr, rfl, hb, hg, hc⟩
  · exact h.view hl (fun g hg => (h.lt g hg).2)
  · refine ⟨_, _, rfl, hl, ⟨Nat.le_refl _, by simp⟩, Or.inr ⟨g, 0, rfl, hb, (Array.getElem?_eq_some_iff.1 hg).1, fun i hi => ?_⟩⟩
    rw [Nat.zero_add, Lib.cell_of_heap hg]
    exact hc i hi

theorem wpList_app_textX {ops : Array Oper} {rest : List Oper} {o : Oper} {a : Act} {w : World} {Q : Exit → Act → World → Prop} (hgd : o.guard = none) (sl x : Operand)
    (ho : o.op = .call { callee := .builtin .append, args := #[sl, x], argTypes := #[47, 9] })
    (base : Nat) (sv : Value) (xs : List Int) (hs : a.eval sl = sv) (hO : OwnX w base sv xs) (hbase : base ≤ w.heap.size) (ys : List Int) (s : ByteArray) (hx : a.eval x = .string s) (hc : strCells s = ys.map (Value.int .u8)) (hp : 0 < xs.length) (hy : 0 < ys.length) (hl : xs.length + ys.length ≤ 2097152)
    (h : ∀ g cp w', OwnB w' base 5 (.slice (some ⟨g, 0, none⟩) (xs ++ ys).length cp) (xs ++ ys) → Chg base w.heap.size w w' → wpList Tryd.prog ops Q rest (a.put o.dst (.slice (some ⟨g, 0, none⟩) (xs ++ ys).length cp)) w') : wpList Tryd.prog ops Q (o :: rest) a w := by
  rcases hO with hO | ⟨g, cur, fr, rfl, hb, hg, hcl⟩
  · exact wpList_app_text2 hgd sl x ho base sv xs hs hO hbase ys s hx hc hp hl h
  refine wpList_plain hgd fun _ hK => ?_
  obtain ⟨i, hi, hz0, hz1, hz2⟩ := info_parts Tryd.infoU1
  have hsz : s.size = ys.length := by rw [← strCells_length, hc, List.length_map]
  have holds : ∀ j u, (xs.map (Value.int .u8))[j]? = some u → w.cell? ((⟨g, 0, none⟩ : Addr).add j) = some u := by
    intro j u hj
    have hjl : j < xs.length := by have := (List.getElem?_eq_some_iff.1 hj).1; simpa using this
    rw [Addr.add_mid, Nat.zero_add, Lib.cell_of_heap hg, ← hj, hcl j hjl]
    simp [List.getD_eq_getElem?_getD, hjl]
  have hr := run_append_grow_string (P := Tryd.prog) w 47 9 o.type 5 i (.int .u8 0) Tryd.underlying47 Tryd.underlying9 hi hz0 ⟨g, 0, none⟩ xs.length xs.length (xs.map (Value.int .u8)) (by rw [hz1]; simp) holds s (by omega) (by omega) (growslice_fits (by omega) (by rw [hz2]; omega))
  have hge := grownCap_ge w (xs.length + s.size) xs.length 5
  have hle := grownCap_le_maxLen w (xs.length + s.size) xs.length 5 (by unfold maxLen; omega)
  generalize grownCap w (xs.length + s.size) xs.length 5 = cp at *
  have e : (xs ++ ys).length = xs.length + s.size := by rw [List.length_append, hsz]
  have o2 : OwnB (w.drew.alloc (.cells ((xs.map (Value.int .u8)).toArray ++ (strCells s).toArray ++ Builtin.zeroCells (Value.int .u8 0).cells (cp - (xs.length + s.size))) 5)) base 5 (.slice (some ⟨w.heap.size, 0, none⟩) (xs ++ ys).length cp) (xs ++ ys) := by
    refine ⟨by simp, Or.inr ⟨w.heap.size, cp, _, rfl, hbase, heap_new w.drew _, by omega, hle, ?_, ?_⟩⟩
    · have hz : (Builtin.zeroCells (Value.int .u8 0).cells (cp - (xs.length + s.size))).size = cp - (xs.length + s.size) := by rw [size_zeroCells]; exact Nat.mul_one _
      rw [Array.size_append, Array.size_append, List.size_toArray, List.size_toArray, List.length_map, strCells_length, hz]
      omega
    · rw [Array.toList_append, Array.toList_append, List.take_append_of_le_length (by simp [strCells_length]; omega)]
      rw [hc, List.map_append, List.take_of_length_le (by simp)]
  have hfin := hK _ _ (h w.heap.size cp _ o2 ((Chg.drew (Chg.refl _ _ w)).alloc _))
  rw [e] at hfin
  unfold Oper.wp execOp
  simp only [ho, resolve, invoke, builtin, Sem.run_bind, Sem.run_pure, Result.andThen_ok, List.map_toArray, List.map_cons, List.map_nil, hs, hx, hr]
  exact hfin

def nmI (l : List UInt8) : List Int := l.map fun b => (b.toNat : Int)
theorem nmI_str (l : List UInt8) : strOfNums (nmI l) = ⟨l.toArray⟩ := by
  unfold strOfNums nmI
  rw [List.map_map]
  congr 2
  conv => rhs; rw [← List.map_id l]
  exact List.map_congr_left fun b _ => by simp
theorem nmL_succ (names : List ByteArray) (k : Nat) (h : k < names.length) : nmL (names.take (k + 1)) = nmL (names.take k) ++ (32 :: (names.getD k noText).data.toList) := by
  unfold nmL
  rw [List.take_add_one, List.getElem?_eq_getElem h, List.map_append, List.flatten_append]
  simp [List.getD_eq_getElem?_getD, h]
theorem nmL_take (names : List ByteArray) (k : Nat) : (nmL (names.take k)).length ≤ (nmL names).length := by
  have h : nmL names = nmL (names.take k) ++ ((names.drop k).map fun n => 32 :: n.data.toList).flatten := by
    unfold nmL
    rw [List.append_assoc, ← List.flatten_append, ← List.map_append, List.take_append_drop]
  rw [h, List.length_append]
  omega
theorem name_cells (t : ByteArray) : strCells (⟨#[32]⟩ ++ t) = (nmI (32 :: t.data.toList)).map (Value.int .u8) := by
  unfold strCells nmI
  rw [ByteArray.data_append, List.map_map]
  simp

set_option maxRecDepth 20000 in
set_option maxHeartbeats 4000000 in
theorem specFormatN_calls (w : World) (path to' : ByteArray) (ch co cs : Int) (cd : ByteArray) (data : ByteArray) (na : Option Addr) (nc : Nat) (names : List ByteArray) (handle k l s b sq hd us rn cm : Int)
    (hnz : (nmL names).length ≤ 2097152) {lo hi : Nat} (hN : SView w lo hi (.slice na names.length nc) names) :
    Calls Tryd.prog 6 #[.agg (cCall 20 path to' ch co cs cd), .agg (cAns 0 data (.slice na names.length nc) handle k l s b sq hd us rn cm)] w fun e w' => e = .returned (.string (fmtV 20 0 data names handle k l s b sq hd us rn cm)) ∧ Chg 0 0 w w' := by
  obtain ⟨r, Hr⟩ : ∃ r, Hid (r = fmtV 20 0 data names handle k l s b sq hd us rn cm) := ⟨_, rfl⟩
  rw [← Hr.out]
  have HR : Hid (r = ⟨(nmL names).toArray⟩) := by show _ = _; rw [Hr.out]; unfold fmtV; rw [if_neg (by decide), if_neg (by decide), if_neg (by decide), if_neg (by decide), if_pos rfl]
  have e2 : ∀ A B : Obj, ((w.alloc A).alloc B).heap.size = w.heap.size + 1 + 1 := fun A B => by simp
  have HO0 : Hid (∀ A B : Obj, OwnX (((w.alloc A).alloc B).alloc (.cells #[.int .u8 110, .int .u8 97, .int .u8 109, .int .u8 101, .int .u8 115] 5 (5, 6))) (w.heap.size + 1 + 1) (.slice (some ⟨w.heap.size + 1 + 1, 0, none⟩) 5 5) [110, 97, 109, 101, 115]) := by
    intro A B
    have h := heap_new ((w.alloc A).alloc B) (.cells #[.int .u8 110, .int .u8 97, .int .u8 109, .int .u8 101, .int .u8 115] 5 (5, 6))
    rw [e2] at h
    refine Or.inr ⟨_, _, _, rfl, Nat.le_refl _, h, fun i hi => ?_⟩
    have hi5 : i = 0 ∨ i = 1 ∨ i = 2 ∨ i = 3 ∨ i = 4 := by simp at hi; omega
    rcases hi5 with rfl | rfl | rfl | rfl | rfl <;> rfl
  have hcv : ∀ A B : Obj, (convert 47 47 (.slice (some ⟨w.heap.size + 1 + 1, 0, none⟩) 5 5)).run Tryd.prog (((w.alloc A).alloc B).alloc (.cells #[.int .u8 110, .int .u8 97, .int .u8 109, .int .u8 101, .int .u8 115] 5)) = .ok (.slice (some ⟨w.heap.size + 1 + 1, 0, none⟩) 5 5) (((w.alloc A).alloc B).alloc (.cells #[.int .u8 110, .int .u8 97, .int .u8 109, .int .u8 101, .int .u8 115] 5 (5, 6))) := by
    intro A B
    have h := Lib.run_convert_bytes_const (P := Tryd.prog) ((w.alloc A).alloc B) 47 5 #[.int .u8 110, .int .u8 97, .int .u8 109, .int .u8 101, .int .u8 115] 5 5 Tryd.underlying47 Tryd.underlying5
    rw [e2] at h
    exact h
  have HC0 : Hid (∀ A B C : Obj, Chg 0 0 w (((w.alloc A).alloc B).alloc C)) := fun A B C => ((Chg.alloc (Chg.refl 0 0 w) A).alloc B).alloc C
  have HB0 : Hid (∀ (A : Obj) (cs : Array Value) (C : Obj), (((w.alloc A).alloc (.cells cs 39)).alloc C).heap[w.heap.size + 1]? = some (.cells cs 39 (0, 0))) := by
    intro A cs C
    have h := heap_new (w.alloc A) (.cells cs 39)
    rw [show (w.alloc A).heap.size = w.heap.size + 1 by simp] at h
    exact (Lib.alloc_old _ _ _ (by rw [e2]; omega)).trans h
  have hs0 : ∀ A B C : Obj, w.heap.size + 1 + 1 ≤ (((w.alloc A).alloc B).alloc C).heap.size := fun A B C => by simp
  have HN : Hid (SView w lo hi (.slice na names.length nc) names) := hN
  have hnl2 : names.length + 5 ≤ (nmL names).length := nmL_len names
  clear hN e2
  go_enter Tryd.func6, Tryd.ntmps6
  go_wp2
  go_loopw [5, 6] (fun o x wr => ∃ (j g cp : Nat), j ≤ names.length ∧ x = .int .i64 j ∧ o = .slice (some ⟨g, 0, none⟩) (nmI (nmL (names.take j))).length cp ∧ OwnX wr (w.heap.size + 1 + 1) (.slice (some ⟨g, 0, none⟩) (nmI (nmL (names.take j))).length cp) (nmI (nmL (names.take j))) ∧ Chg 0 0 w wr ∧ wr.heap[w.heap.size + 1]? = some (.cells (cAns 0 data (.slice na names.length nc) handle k l s b sq hd us rn cm) 39 (0, 0)) ∧ w.heap.size + 1 + 1 ≤ wr.heap.size) (fun _ x _ => names.length - (RowKit.intOf x).toNat)
  case atStart => exact ⟨0, _, _, Nat.zero_le _, rfl, rfl, HO0.out _ _, HC0.out _ _ _, HB0.out _ _ _, hs0 _ _ _⟩
  case round =>
    obtain ⟨j, g, cp, hj, rfl, rfl, ho, hch, hb, hsw⟩ := hrel
    have HO : Hid (OwnX wr (w.heap.size + 1 + 1) (.slice (some ⟨g, 0, none⟩) (nmI (nmL (names.take j))).length cp) (nmI (nmL (names.take j)))) := ho
    have HC : Hid (Chg 0 0 w wr) := hch
    have HB : Hid (wr.heap[w.heap.size + 1]? = some (.cells (cAns 0 data (.slice na names.length nc) handle k l s b sq hd us rn cm) 39 (0, 0))) := hb
    have y2 : wr.cell? ⟨w.heap.size + 1, 2, none⟩ = some (.slice na names.length nc) := by rw [Lib.cell_of_heap hb]; rfl
    have hlk : (nmI (nmL (names.take j))).length ≤ 2097152 ∧ 5 ≤ (nmI (nmL (names.take j))).length := by
      have h1 := nmL_take names j
      have h2 := nmL_len (names.take j)
      unfold nmI
      rw [List.length_map]
      omega
    clear ho hch hb HO0 HC0 HB0 hs0
    by_cases hlt : j < names.length
    · have hi1 : (j : Int) < (names.length : Int) := by omega
      obtain ⟨b', off, rfl, hc⟩ : ∃ b off, na = some ⟨b, off, none⟩ ∧ wr.cell? ⟨b, off + j, none⟩ = some (.string (names.getD j noText)) := by
        obtain ⟨ao', cap', e, _, _, h3⟩ := HN.out.chg HC.out (by omega)
        simp only [Value.slice.injEq] at e
        rcases h3 with h3 | ⟨b, off, e2, _, _, h4⟩
        · rw [h3] at hlt; simp at hlt
        · exact ⟨b, off, by rw [e.1, e2], h4 j hlt⟩
      have HS : Hid (nmI (nmL (names.take (j + 1))) = nmI (nmL (names.take j)) ++ nmI (32 :: (names.getD j noText).data.toList)) := by
        show _ = _
        rw [nmL_succ names j hlt]
        unfold nmI
        rw [List.map_append]
      have hls : (nmI (nmL (names.take j))).length + (nmI (32 :: (names.getD j noText).data.toList)).length ≤ 2097152 := by
        rw [← List.length_append, ← HS.out]
        unfold nmI
        rw [List.length_map]
        have := nmL_take names (j + 1)
        omega
      have hnmz : (names.getD j noText).size ≤ 2097152 := by
        have : (nmI (32 :: (names.getD j noText).data.toList)).length = (names.getD j noText).size + 1 := by unfold nmI; rw [List.length_map, List.length_cons, ← Lib.size_eq]
        omega
      have Hcl := name_cells (names.getD j noText)
      have hps : (⟨#[32]⟩ ++ names.getD j noText : ByteArray).size ≤ 2097153 := by
        rw [ByteArray.size_append]
        have e : (⟨#[32]⟩ : ByteArray).size = 1 := rfl
        omega
      have hzl : 0 < (nmI (32 :: (names.getD j noText).data.toList)).length := by unfold nmI; simp
      generalize names.getD j noText = nm at *
      generalize hzs : nmI (32 :: nm.data.toList) = zs at *
      generalize hxs : nmI (nmL (names.take j)) = xs at *
      clear hzs hxs
      go_wp2_with (refine wpList_app_textX rfl (.tmp 88) (.tmp 94) rfl (w.heap.size + 1 + 1) (.slice (some ⟨g, 0, none⟩) xs.length cp) xs rfl HO.out (by omega) zs (⟨#[32]⟩ ++ nm) rfl Hcl (by omega) hzl hls ?_; intro g8 cp8 w8 o8 c8)
      have HO8 : Hid (OwnB w8 (w.heap.size + 1 + 1) 5 (.slice (some ⟨g8, 0, none⟩) (nmI (nmL (names.take (j + 1)))).length cp8) (nmI (nmL (names.take (j + 1))))) := by rw [HS.out]; exact o8
      have HC8 : Hid (Chg 0 0 w w8) := HC.out.step c8 (by omega)
      have HB8 : Hid (w8.heap[w.heap.size + 1]? = some (.cells (cAns 0 data (.slice (some ⟨b', off, none⟩) names.length nc) handle k l s b sq hd us rn cm) 39 (0, 0))) := (c8.block _ (by omega) (by omega)).trans HB.out
      have hs8 := c8.size
      clear o8 c8 Hcl
      refine ⟨⟨j + 1, g8, cp8, by omega, by go_num, by rw [HS.out, List.length_append], Or.inl HO8.out, HC8.out, HB8.out, by omega⟩, ?_⟩
      simp [RowKit.intOf]; omega
    · obtain rfl : j = names.length := by omega
      have hi1 : ¬ ((names.length : Nat) : Int) < (names.length : Int) := by omega
      have hst := (HO.out.view (by omega)).str
      have HX : Hid (r = strOfNums (nmI (nmL (names.take names.length)))) := by show _ = _; rw [HR.out, nmI_str, List.take_length]
      generalize nmI (nmL (names.take names.length)) = xs at *
      go_wp2
      go_ret
      exact ⟨by rw [HX.out]; rfl, HC.out⟩

end Go.Proofs.YtoagahpoblcioaaDoor
