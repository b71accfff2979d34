/- strings.Builder: copyCheck, WriteByte, Write, String (a text that is built, its bytes one's own). -/
import Derived.Shelf.Strings.Builder1
import Derived.Test.YtmbonljmghpcmaaDoorAppSeen
import Derived.Test.YtmbonljmghpcmaaDoorViewStr
import Derived.Test.YtmbonljmghpcmaaDoorHeld
import Derived.Test.YtmbonljmghpcmaaDoorRowZ
import Derived.Test.YtmbonljmghpcmaaDoorBytSeen
import Derived.Great.BuildSlice
import Derived.Deep.DeepCutAuto
namespace Go.Proofs.YtmbonljmghpcmaaDoor
open Go.RowKit Go.Lib

/-- A builder at block b, its bytes xs at or behind N. -/
def Bd (N b : Nat) (xs : List Int) (w : World) : Prop := IsBuilder 35 5 N b (xs.map (Value.int .u8)) w

theorem bldSize : (Tryd.prog.info? 35).map (·.size) = some 2 := by kernel_rfl
theorem bldLies : liesAt Tryd.prog Tryd.prog.depth 35 (2 / Tryd.prog.cellsOf 35) 0 35 1 = true := by kernel_rfl

set_option maxRecDepth 20000 in
set_option maxHeartbeats 1000000 in
theorem copyCheck_used (b : Nat) (w : World) (h0 : w.cell? ⟨b, 0, none⟩ = some (.pointer (some ⟨b, 0, none⟩))) :
    Calls Tryd.prog 19 #[.pointer (some ⟨b, 0, none⟩)] w fun e w' => e = .returned (.tuple #[]) ∧ w' = w := by
  obtain ⟨j, hj, _⟩ := Option.map_eq_some_iff.1 bldSize
  go_enter Tryd.func19, Tryd.ntmps19
  go_wp2
  rw [Lib.run_neq_ptr_same w _ Tryd.underlying33 hj]
  go_wp2
  go_end0
  exact ⟨rfl, rfl⟩

set_option maxRecDepth 20000 in
set_option maxHeartbeats 1000000 in
theorem copyCheck_fresh (b : Nat) (w : World) (h0 : w.cell? ⟨b, 0, none⟩ = some (.pointer none)) (hsh : w.shape? b = some (35, 2)) (hfz : w.frozen? ⟨b, 0, none⟩ = false) :
    Calls Tryd.prog 19 #[.pointer (some ⟨b, 0, none⟩)] w fun e w' => e = .returned (.tuple #[]) ∧ w' = w.setCell ⟨b, 0, none⟩ (.pointer (some ⟨b, 0, none⟩)) := by
  obtain ⟨j, hj, hjs⟩ := Option.map_eq_some_iff.1 bldSize
  go_enter Tryd.func19, Tryd.ntmps19
  go_wp2
  rw [Lib.run_to_unsafe w ⟨b, 0, none⟩ Tryd.underlying33 Tryd.underlying55 hj (by rw [hjs]; decide) hsh (Nat.zero_lt_succ 1)]
  simp only [Result.andThen]
  rw [Oper.upon_value]
  go_wp2
  rw [run_callFunc_extern Tryd.func24 (by kernel_rfl) (by kernel_rfl) (by kernel_rfl) (e := Extern.AbiNoEscape.same) (by kernel_rfl)]
  rw [Lib.run_noEscape]
  simp only [Result.andThen]
  rw [Oper.upon_value]
  go_wp2
  rw [Lib.run_from_unsafe w ⟨b, 0, none⟩ Tryd.underlying55 Tryd.underlying33 hj hsh bldLies]
  simp only [Result.andThen]
  rw [Oper.upon_value]
  go_wp2
  go_end0
  exact ⟨rfl, rfl⟩

theorem copyCheck_calls (N b : Nat) (xs : List Int) (w : World) (h : Bd N b xs w) :
    Calls Tryd.prog 19 #[.pointer (some ⟨b, 0, none⟩)] w fun e w' => e = .returned (.tuple #[]) ∧ BuilderAt 35 5 N b (.pointer (some ⟨b, 0, none⟩)) (xs.map (Value.int .u8)) w' ∧ Chg b (b + 1) w w' := by
  rcases h with h | h
  · refine (copyCheck_fresh b w h.cell0 h.shape h.frozen0).mono ?_
    rintro e w' ⟨rfl, rfl⟩
    exact ⟨rfl, h.used _, Chg.setCell (Chg.refl _ _ _) (p := ⟨b, 0, none⟩) (Or.inl ⟨Nat.le_refl _, Nat.lt_succ_self _⟩) _⟩
  · refine (copyCheck_used b w h.cell0).mono ?_
    rintro e w' ⟨rfl, rfl⟩
    exact ⟨rfl, h, Chg.refl _ _ _⟩

theorem Chg.belowN {lo hi N : Nat} {w w' : World} (h : Chg lo hi w w') (e : N ≤ lo ∨ hi ≤ lo) (hN : N ≤ w.heap.size) : Below N w w' :=
  ⟨h.os, h.tape, h.output, h.size, fun k hk => h.block k (by omega) (by omega)⟩

theorem bd_ne : 35 ≠ 5 := by decide

theorem BuilderAt.own {T e : TypeId} {N b : Nat} {p : Value} {xs : List Int} {w : World} (h : BuilderAt T e N b p (xs.map (Value.int .u8)) w) :
    N ≤ b ∧ b < w.heap.size ∧ ∃ v, w.heap[b]? = some (.cells #[p, v] T (0, 0)) ∧ OwnB w N e v xs ∧ v.ownBlock ≠ some b := by
  obtain ⟨hB, v, hbk, hown, hne⟩ := h
  refine ⟨hB, ?_, v, hbk, ?_, hne⟩
  · rcases Nat.lt_or_ge b w.heap.size with h' | h'
    · exact h'
    · simp [Array.getElem?_eq_none h'] at hbk
  · unfold OwnB
    rw [List.length_map] at hown
    exact hown

/-- What is put behind, once the builder is used and its bytes have grown to v' in w2. -/
theorem bd_put {N b : Nat} {xs : List Int} {v v' : Value} {w2 : World} (hB : N ≤ b) (hb2 : w2.heap[b]? = some (.cells #[.pointer (some ⟨b, 0, none⟩), v] 35 (0, 0))) (ho : OwnB w2 N 5 v' xs) :
    Bd N b xs (w2.setCell ⟨b, 1, none⟩ v') := by
  refine Or.inr (Lib.BuilderAt.put hB hb2 ?_ bd_ne)
  rw [List.length_map]
  exact ho

theorem Bd.chg {N b lo hi : Nat} {xs : List Int} {w w' : World} (h : Bd N b xs w) (c : Chg lo hi w w') (d : hi ≤ N ∨ w.heap.size ≤ lo ∨ hi ≤ lo) : Bd N b xs w' := by
  have key : ∀ p, BuilderAt 35 5 N b p (xs.map (Value.int .u8)) w → BuilderAt 35 5 N b p (xs.map (Value.int .u8)) w' := by
    intro p h
    obtain ⟨hB, hlt, v, hbk, hown, hne⟩ := BuilderAt.own h
    refine ⟨hB, v, (c.block b hlt (by omega)).trans hbk, ?_, hne⟩
    have o : OwnB w' N 5 v xs := hown.chg c (fun g hg => by have := hown.lt g hg; omega)
    rw [List.length_map]
    exact o
  exact h.elim (fun x => .inl (key _ x)) (fun x => .inr (key _ x))

/-- append to the bytes of a builder: its own block stands. -/
theorem wpList_app_at {ops : Array Oper} {rest : List Oper} {o : Oper} {a : Act} {w : World} {Q : Exit → Act → World → Prop} (hgd : o.guard = none) (s x : Operand)
    (ho : o.op = .call { callee := .builtin .append, args := #[s, x], argTypes := #[22, 22] })
    (base : Nat) (sv : Value) (xs : List Int) (hs : a.eval s = sv) (hO : OwnB w base 5 sv xs) (hbase : base ≤ w.heap.size) (lo hi : Nat) (xv : Value) (ys : List Int) (hx : a.eval x = xv) (hv : View w lo hi .u8 xv ys) (hy : 0 < ys.length) (hl : xs.length + ys.length ≤ 1048576)
    {b : Nat} {p : Value} (hb : w.heap[b]? = some (.cells #[p, sv] 35 (0, 0))) (hne : sv.ownBlock ≠ some b)
    (h : ∀ g cp w', OwnB w' base 5 (.slice (some ⟨g, 0, none⟩) (xs ++ ys).length cp) (xs ++ ys) → w'.heap[b]? = some (.cells #[p, sv] 35 (0, 0)) → Chg base w.heap.size w w' →
      w'.cell? ⟨b, 1, none⟩ = some sv → w'.frozen? ⟨b, 1, none⟩ = false → wpList Tryd.prog ops Q rest (a.put o.dst (.slice (some ⟨g, 0, none⟩) (xs ++ ys).length cp)) w') : wpList Tryd.prog ops Q (o :: rest) a w := by
  obtain ⟨i, hi, hz0, hz1, hz2⟩ := info_parts Tryd.infoU1
  obtain ⟨ao, cap, rfl, _, _, hcell⟩ := hv
  obtain ⟨d, off, rfl, hc⟩ : ∃ b off, ao = some ⟨b, off, none⟩ ∧ ∀ i, i < ys.length → w.cell? ⟨b, off + i, none⟩ = some (.int .u8 (ys.getD i 0)) := by
    rcases hcell with e | ⟨b, off, e, _, _, h3⟩
    · rw [e] at hy; simp at hy
    · exact ⟨b, off, e, h3⟩
  have HNW : ∀ j u, (ys.map (Value.int .u8))[j]? = some u → w.cell? ((⟨d, off, none⟩ : Addr).add j) = some u := by
    intro j u hj
    have hjl : j < ys.length := by have := (List.getElem?_eq_some_iff.1 hj).1; simpa using this
    rw [Addr.add_mid, hc j hjl, ← hj]
    simp [List.getD_eq_getElem?_getD, hjl]
  have hrow : w.ownsRow base 5 1 sv xs.length (xs.map (Value.int .u8)) := hO
  have hlt : b < w.heap.size := by
    rcases Nat.lt_or_ge b w.heap.size with h' | h'
    · exact h'
    · simp [Array.getElem?_eq_none h'] at hb
  refine wpList_plain hgd fun _ hK => wp_append_own _ s x 22 ho base 5 i (.int .u8 0) 1 1 Tryd.underlying22 hi hz0 hz1 hz2 rfl (by decide) sv xs.length (xs.map (Value.int .u8)) hs hrow ⟨d, off, none⟩ ys.length cap (ys.map (Value.int .u8)) hx (by simp) HNW (ints_oneCell _ _) (by unfold maxLen; omega) (by omega) hbase ?_
  intro v' w2 hown hgrow _
  have o2 : OwnB w2 base 5 v' (xs ++ ys) := by
    unfold OwnB
    rw [List.length_append, List.map_append]
    exact hown
  obtain ⟨g, cp, rfl⟩ := o2.some_of (by rw [List.length_append]; omega)
  have hb2 : w2.heap[b]? = some (.cells #[p, sv] 35 (0, 0)) := by
    rw [hgrow.block b hlt (fun e => hne e.symm)]
    exact hb
  exact hK _ _ (h g cp w2 o2 hb2 (Chg.ofGrown hgrow (fun k hk _ => World.ownsRow.lt hrow k hk)) (by rw [Lib.cell_of_heap hb2]; rfl) (Lib.frozen_of_heap hb2 1))

set_option maxHeartbeats 2000000 in
set_option maxRecDepth 20000 in
theorem writeByte_calls (N b : Nat) (xs : List Int) (c : Int) (w : World) (h : Bd N b xs w) (hN : N ≤ w.heap.size) (hl : xs.length + 1 ≤ 1048576) :
    Calls Tryd.prog 12 #[.pointer (some ⟨b, 0, none⟩), .int .u8 c] w fun e w' => e = .returned .nilIface ∧ Bd N b (xs ++ [c]) w' ∧ Below N w w' := by
  have hC := copyCheck_calls N b xs w h
  go_enter Tryd.func12, Tryd.ntmps12
  go_wp2_with fail
  refine hC.mono ?_
  rintro e w1 ⟨rfl, h1, hc1⟩
  obtain ⟨hB, hlt, v, hbk, hown, hne⟩ := BuilderAt.own h1
  have c1 : w1.cell? ⟨b, 1, none⟩ = some v := by rw [Lib.cell_of_heap hbk]; rfl
  have hs1 := hc1.size
  have H1 : Hid (Below N w w1) := hc1.belowN (Or.inl hB) hN
  clear hC h1 hc1
  have cA : Chg 0 0 w1 (w1.alloc (.cells #[.int .u8 c] 5)) := Chg.alloc (Chg.refl 0 0 w1) _
  have VX : Hid (View (w1.alloc (.cells #[.int .u8 c] 5)) w1.heap.size (w1.heap.size + 1) .u8 (.slice (some ⟨w1.heap.size, 0, none⟩) 1 1) [c]) := by
    have h := row_view (w := w1.alloc (.cells #[.int .u8 c] 5)) (b := w1.heap.size) (xs := [c]) (t := 5) (heap_new w1 _) 0 1 1 (by simp) (by simp) (Nat.le_refl _)
    exact h
  have HOA : Hid (OwnB (w1.alloc (.cells #[.int .u8 c] 5)) N 5 v xs) := hown.chg cA (fun g' _ => by omega)
  have HA : Hid (Below N w (w1.alloc (.cells #[.int .u8 c] 5))) := H1.out.trans (cA.belowN (Or.inr (Nat.le_refl 0)) (by omega))
  have sA : w1.heap.size + 1 ≤ (w1.alloc (.cells #[.int .u8 c] 5)).heap.size := by simp
  clear cA
  have hbA : (w1.alloc (.cells #[.int .u8 c] 5)).heap[b]? = some (.cells #[.pointer (some ⟨b, 0, none⟩), v] 35 (0, 0)) := by rw [Lib.alloc_old w1 _ b hlt]; exact hbk
  go_wp2_with (refine wpList_app_at rfl (.tmp 11) (.tmp 13) rfl N v xs rfl HOA.out (by omega) w1.heap.size (w1.heap.size + 1) (.slice (some ⟨w1.heap.size, 0, none⟩) 1 1) [c] rfl VX.out (by simp) (by simpa using hl) hbA hne ?_; intro g8 cp8 w8 o8 hb8 c8 d1 f1)
  have HB8 : Hid (Below N w w8) := HA.out.trans (c8.belowN (Or.inl (Nat.le_refl _)) (by omega))
  have HR : Hid (Bd N b (xs ++ [c]) (w8.setCell ⟨b, 1, none⟩ (.slice (some ⟨g8, 0, none⟩) (xs ++ [c]).length cp8))) := bd_put hB hb8 o8
  have e1 : (xs ++ [c]).length = xs.length + 1 := by simp
  rw [e1] at HR
  clear c8 e1
  go_wp2
  go_ret
  exact ⟨rfl, HR.out, HB8.out.setCell (p := ⟨b, 1, none⟩) hB _⟩

set_option maxHeartbeats 2000000 in
set_option maxRecDepth 20000 in
theorem write_calls (N b : Nat) (xs ys : List Int) (w : World) (h : Bd N b xs w) (hN : N ≤ w.heap.size) {lo hi : Nat} {ao : Option Addr} {n cp : Nat} (hv : View w lo hi .u8 (.slice ao n cp) ys) (hd : hi ≤ b ∨ b < lo) (hy : 0 < ys.length) (hl : xs.length + ys.length ≤ 1048576) :
    Calls Tryd.prog 13 #[.pointer (some ⟨b, 0, none⟩), .slice ao n cp] w fun e w' => e = .returned (.tuple #[.int .i64 n, .nilIface]) ∧ Bd N b (xs ++ ys) w' ∧ Below N w w' := by
  have hC := copyCheck_calls N b xs w h
  go_enter Tryd.func13, Tryd.ntmps13
  go_wp2_with fail
  refine hC.mono ?_
  rintro e w1 ⟨rfl, h1, hc1⟩
  obtain ⟨hB, hlt, v, hbk, hown, hne⟩ := BuilderAt.own h1
  have c1 : w1.cell? ⟨b, 1, none⟩ = some v := by rw [Lib.cell_of_heap hbk]; rfl
  have hs1 := hc1.size
  have H1 : Hid (Below N w w1) := hc1.belowN (Or.inl hB) hN
  have VX : Hid (View w1 lo hi .u8 (.slice ao n cp) ys) := hv.chg hc1 (by omega)
  clear hC h1 hc1 hv
  go_wp2_with (refine wpList_app_at rfl (.tmp 12) (.tmp 13) rfl N v xs rfl hown (by omega) lo hi (.slice ao n cp) ys rfl VX.out hy hl hbk hne ?_; intro g8 cp8 w8 o8 hb8 c8 d1 f1)
  have HB8 : Hid (Below N w w8) := H1.out.trans (c8.belowN (Or.inl (Nat.le_refl _)) (by omega))
  have HR : Hid (Bd N b (xs ++ ys) (w8.setCell ⟨b, 1, none⟩ (.slice (some ⟨g8, 0, none⟩) (xs ++ ys).length cp8))) := bd_put hB hb8 o8
  have e1 : (xs ++ ys).length = xs.length + ys.length := by simp
  rw [e1] at HR
  clear c8 e1
  go_wp2
  go_ret2
  exact ⟨rfl, HR.out, HB8.out.setCell (p := ⟨b, 1, none⟩) hB _⟩

def Tryd.laysStr_ren : Go.Shelf.Ren := ⟨fun | 169 => 14 | n => n, fun | 70 => 33 | 9 => 9 | 0 => 0 | 72 => 35 | 37 => 22 | 127 => 48 | 3 => 3 | 5 => 5 | n => n, fun | n => n⟩
theorem Tryd.laysStr : Go.Proofs.Lays.n169 Tryd.prog Tryd.laysStr_ren := {
  mixed := by kernel_rfl
  f169 := Tryd.func14.trans (congrArg some (by kernel_rfl))
  t0 := Tryd.underlying0
  a0 := Tryd.isAgg0
  z0 := Tryd.sizeOf0
  v0 := Tryd.zeroValue0
  t3 := Tryd.underlying3
  a3 := Tryd.isAgg3
  z3 := Tryd.sizeOf3
  v3 := Tryd.zeroValue3
  t9 := Tryd.underlying9
  a9 := Tryd.isAgg9
  z9 := Tryd.sizeOf9
  v9 := Tryd.zeroValue9
  t37 := Tryd.underlying22
  a37 := Tryd.isAgg22
  z37 := Tryd.sizeOf22
  v37 := Tryd.zeroValue22
  t70 := Tryd.underlying33
  a70 := Tryd.isAgg33
  z70 := Tryd.sizeOf33
  v70 := Tryd.zeroValue33
  t72 := Tryd.underlying35
  a72 := Tryd.isAgg35
  z72 := Tryd.sizeOf35
  v72 := Tryd.zeroValue35
  t127 := Tryd.underlying48
  a127 := Tryd.isAgg48
  z127 := Tryd.sizeOf48
  v127 := Tryd.zeroValue48 }

theorem Tryd.extraStr : Builder.Extra Tryd.prog Tryd.laysStr_ren := {
  sizeBuilder := by kernel_rfl
  liesBuilder := by kernel_rfl
  t5 := Tryd.underlying5
  a5 := Tryd.isAgg5
  z5 := Tryd.sizeOf5
  v5 := Tryd.zeroValue5
  infoByte := by kernel_rfl
  cellsByte := by kernel_rfl
  sizeByte := by kernel_rfl
  neB5 := by decide }

theorem bytes_cells {xs : List Int} (h : ∀ x ∈ xs, 0 ≤ x ∧ x < 256) : byteCells (xs.map fun (x : Int) => UInt8.ofNat x.toNat) = xs.map (Value.int .u8) := by
  unfold byteCells
  rw [List.map_map]
  refine List.map_congr_left fun x hx => ?_
  obtain ⟨h0, h1⟩ := h x hx
  show Value.int .u8 ((UInt8.ofNat x.toNat).toNat : Int) = _
  rw [UInt8.toNat_ofNat']
  congr 1
  omega

theorem bstring_calls (N b : Nat) (xs : List Int) (w : World) (h : Bd N b xs w) (hN : N ≤ w.heap.size) (hx : ∀ x ∈ xs, 0 ≤ x ∧ x < 256) :
    Calls Tryd.prog 14 #[.pointer (some ⟨b, 0, none⟩)] w fun e w' => e = .returned (.string (strOfNums xs)) ∧ Below N w w' := by
  have h' : IsBuilder 35 5 N b (byteCells (xs.map fun (x : Int) => UInt8.ofNat x.toNat)) w := by rw [bytes_cells hx]; exact h
  exact Any.Builder_String_any Tryd.laysStr Tryd.extraStr N b (xs.map fun (x : Int) => UInt8.ofNat x.toNat) w h' hN

/-- var b strings.Builder -/
theorem bd_new (w : World) : Bd w.heap.size w.heap.size [] (w.alloc (.cells #[.pointer none, .slice none 0 0] 35)) :=
  Or.inl ⟨Nat.le_refl _, .slice none 0 0, heap_new w _, World.ownsRow_nil _ _ _ _, by simp [Value.ownBlock]⟩

end Go.Proofs.YtmbonljmghpcmaaDoor
