/- Several short texts in one: EscM, TagOwn. -/
import Derived.Test.YteligghapkleaaaGreatDoorToB
import Derived.Test.YteligghapkleaaaGreatDoorMagC
import Derived.Test.YteligghapkleaaaGreatDoorMem
import Derived.Test.YteligghapkleaaaGreatDoorRows
import Derived.Test.YteligghapkleaaaGreatDoorPutByt
import Derived.Great.BuildSlice
import Derived.Laws.AppendOwnNone
namespace Go.Proofs.YteligghapkleaaaGreatDoor
open Go.RowKit

set_option maxRecDepth 20000 in
set_option maxHeartbeats 8000000 in
theorem escapeM_calls (w : World) (xs : List Int) (hx : xs.length = 64) (hB : Byt xs) (hG : Mag w) :
    Calls Tryz.prog 71 #[.agg (xs.map (Value.int .u8)).toArray] w fun e w' => e = .returned (.tuple #[.agg ((escL xs).map (Value.int .u8)).toArray, .bool (decide (xs.take 4 = mg))]) ∧ Chg 0 0 w w' := by
  obtain ⟨cs, hcs⟩ : ∃ cs, cs = xs.map (Value.int .u8) := ⟨_, rfl⟩
  have L1 : cs.length = 64 := by rw [hcs]; simpa using hx
  have L2 : ∀ v ∈ cs, v.oneCell' = true := by rw [hcs]; exact ints_oneCell _ _
  have HL1 : Hid _ := L1
  have HL2 : Hid _ := L2
  have Hcs : Hid _ := hcs
  have Hx : Hid _ := hx
  have HB : Hid (Byt xs) := hB
  have hi44 : (Tryz.prog.info? 98).map (·.size) = some cs.length := by rw [L1]; kernel_rfl
  have u44 := Tryz.underlying98
  rw [← hcs]
  obtain ⟨z1, z2, z3⟩ := alloc2 w (.cells cs.toArray 98) (.cells Z64.toArray 98)
  have hA : Chg 0 0 w ((w.alloc (.cells cs.toArray 98)).alloc (.cells Z64.toArray 98)) := (Chg.alloc (Chg.refl 0 0 w) _).alloc _
  obtain ⟨h0, h1, h2, h3, h4, h5, h6, e7, hmg⟩ : ∃ h0 h1 h2 h3 h4 h5 h6 : Int, hd7 xs = #[.int .u8 h0, .int .u8 h1, .int .u8 h2, .int .u8 h3, .int .i64 h4, .int .i64 h5, .int .i64 h6] ∧ xs.take 4 = [h0, h1, h2, h3] := by
    refine ⟨_, _, _, _, _, _, _, rfl, ?_⟩
    match xs, hx with
    | a :: b :: c :: d :: r, _ => simp
  have Hmg : Hid _ := hmg
  have He7 : Hid _ := e7
  have HGl : Hid (Mag w) := hG
  clear L1 L2 hcs hx hB hG e7 hmg
  go_enter Tryz.func71, Tryz.ntmps71
  go_upto_region 1 with fail
  simp only [Z64_eq]
  generalize (w.alloc (.cells cs.toArray 98)).alloc (.cells Z64.toArray 98) = wa at *
  have Hz2 : Hid _ := z2
  have Hz3 : Hid _ := z3
  have HA : Hid _ := hA
  have HGa : Hid (Mag wa) := HGl.out.chg hA (by omega)
  clear z2 z3 hA HGl
  go_cut [8] (fun s8 wx => s8 = .bool (!decide (xs.take 4 = mg)) ∧ Chg 0 0 wa wx)
  case first =>
    have HS : Hid (_ ∧ _) := ⟨Hz2.out, HGa.out.chg (Chg.drew (Chg.refl 0 0 wa)) (by omega)⟩
    refine held_region (fun w' : World => w'.heap[w.heap.size]? = some (.cells cs.toArray 98 (0, 0)) ∧ Mag w') (by kernel_rfl) ?_
    refine held_take 0 (.agg cs.toArray) rfl (by kernel_rfl) (by kernel_rfl) (by kernel_rfl) (fun _ _ _ h => h) (yieldsIf_load_mid (by kernel_rfl) 98 (.tmp 1) rfl w.heap.size 0 rfl cs _ (fun w' hw' => row_rng hw'.1) Tryz.underlying98 rfl hi44) HS.out ?_
    go_simp
    refine held_take 3 (.agg #[.int .u8 106, .int .u8 108, .int .u8 111, .int .u8 103]) rfl (by kernel_rfl) (by kernel_rfl) (by kernel_rfl) (fun _ _ _ h => h) (.inl ⟨by kernel_rfl, fun w' hw' => by have m0 := hw'.2.m0; have m1 := hw'.2.m1; have m2 := hw'.2.m2; have m3 := hw'.2.m3; go_simp⟩) HS.out ?_
    go_simp
    have hN := headerOf_calls wa.drew xs Hx.out HB.out
    rw [← Hcs.out, He7.out] at hN
    refine held_one 1 rfl rfl (by kernel_rfl) ?_
    refine wp_enter 78 #[.agg cs.toArray] (by first | kernel_rfl | go_simp) hN ?_
    rintro e w1 ⟨rfl, hc1⟩
    have HS1 : Hid (_ ∧ _) := ⟨(hc1.block w.heap.size (Array.getElem?_eq_some_iff.1 HS.out.1).1 (by omega)).trans HS.out.1, HS.out.2.chg hc1 (by omega)⟩
    have HC1 : Hid _ := (Chg.drew (Chg.refl 0 0 wa)).trans hc1
    refine ⟨_, rfl, HS1.out, ?_⟩
    clear hc1 hN
    go_simp
    refine held_one 2 rfl rfl (by kernel_rfl) ?_
    refine wp_enter 79 #[.agg #[.int .u8 h0, .int .u8 h1, .int .u8 h2, .int .u8 h3, .int .i64 h4, .int .i64 h5, .int .i64 h6]] (by first | kernel_rfl | go_simp) (magic_calls w1 h0 h1 h2 h3 h4 h5 h6) ?_
    rintro e w2 ⟨rfl, hc2⟩
    have HS2 : Hid (_ ∧ _) := ⟨(hc2.block w.heap.size (Array.getElem?_eq_some_iff.1 HS1.out.1).1 (by omega)).trans HS1.out.1, HS1.out.2.chg hc2 (by omega)⟩
    have HC2 : Hid _ := HC1.out.trans hc2
    refine ⟨_, rfl, HS2.out, ?_⟩
    clear hc2
    go_simp
    have heq := equal_bytes w2 100 4 Tryz.underlying100 (xs := [h0, h1, h2, h3]) (ys := mg) (by rw [← Hmg.out]; exact HB.out.take 4) byt_mg rfl rfl
    obtain ⟨bm, hbm⟩ : ∃ bm, bm = decide (xs.take 4 = mg) := ⟨_, rfl⟩
    have hb4 : decide ([h0, h1, h2, h3] = mg) = bm := by rw [hbm, Hmg.out]
    rw [hb4] at heq
    simp only [mg, List.map_cons, List.map_nil] at heq
    have Hbm : Hid _ := hbm
    clear hb4 hbm
    refine held_one 4 rfl rfl (by kernel_rfl) ?_
    refine wp_given (v := .bool (!bm)) (w' := w2) (by simp only [execOp, Act.eval]; go_simp) ⟨HS2.out, ?_⟩
    go_simp
    refine held_done (by kernel_rfl) (NoPanic.normal ?_)
    go_wp2
    go_meet
    exact ⟨by rw [Hbm.out], HC2.out⟩
  case rest =>
    obtain ⟨rfl, hc3⟩ := hcut
    generalize wc = w3 at *
    have s3 := hc3.size
    have HD : Hid _ := (hc3.block w.heap.size (Array.getElem?_eq_some_iff.1 Hz2.out).1 (by omega)).trans Hz2.out
    have HQ : Hid _ := (hc3.block (w.heap.size + 1) (Array.getElem?_eq_some_iff.1 Hz3.out).1 (by omega)).trans Hz3.out
    have HC3 : Hid _ := HA.out.trans hc3
    clear hc3 HGa Hz2 Hz3 HA
    by_cases hm : xs.take 4 = mg
    · have HEs : Hid (escL xs = [0, 0, 0, 0] ++ xs.drop 4) := by show _ = _; unfold escL; rw [if_pos hm]
      have Hm : Hid _ := hm
      rw [decide_eq_true hm]
      obtain ⟨c0, c1, c2, c3, cr, ecs⟩ : ∃ c0 c1 c2 c3 cr, cs = c0 :: c1 :: c2 :: c3 :: cr := by
        have := HL1.out
        match cs, this with
        | a :: b :: c :: d :: r, _ => exact ⟨a, b, c, d, r, rfl⟩
      have Hecs : Hid _ := ecs
      have hd3 := HD.out
      rw [ecs] at hd3
      obtain ⟨k0, k1, k2, k3, f0, f1, f2, f3⟩ : w3.cell? ⟨w.heap.size, 0, none⟩ = some c0 ∧ w3.cell? ⟨w.heap.size, 1, none⟩ = some c1 ∧ w3.cell? ⟨w.heap.size, 2, none⟩ = some c2 ∧ w3.cell? ⟨w.heap.size, 3, none⟩ = some c3 ∧ w3.frozen? ⟨w.heap.size, 0, none⟩ = false ∧ w3.frozen? ⟨w.heap.size, 1, none⟩ = false ∧ w3.frozen? ⟨w.heap.size, 2, none⟩ = false ∧ w3.frozen? ⟨w.heap.size, 3, none⟩ = false := by
        simp [World.cell?, World.frozen?, hd3]
      have hcl := fun ty => clear_four w3 w.heap.size 64 c0 c1 c2 c3 ty k0 k1 k2 k3 f0 f1 f2 f3
      have Hd3 : Hid _ := hd3
      clear ecs hd3 hm
      go_upto_region 4 with fail
      have C4 : Chg w.heap.size (w.heap.size + 1) w3 ((((w3.setCell ⟨w.heap.size, 0, none⟩ (.int .u8 0)).setCell ⟨w.heap.size, 1, none⟩ (.int .u8 0)).setCell ⟨w.heap.size, 2, none⟩ (.int .u8 0)).setCell ⟨w.heap.size, 3, none⟩ (.int .u8 0)) := (((Chg.setCell (p := ⟨w.heap.size, 0, none⟩) (Chg.refl _ _ _) (Or.inl ⟨Nat.le_refl _, Nat.lt_succ_self _⟩) _).setCell (p := ⟨w.heap.size, 1, none⟩) (Or.inl ⟨Nat.le_refl _, Nat.lt_succ_self _⟩) _).setCell (p := ⟨w.heap.size, 2, none⟩) (Or.inl ⟨Nat.le_refl _, Nat.lt_succ_self _⟩) _).setCell (p := ⟨w.heap.size, 3, none⟩) (Or.inl ⟨Nat.le_refl _, Nat.lt_succ_self _⟩) _
      have D4 : ((((w3.setCell ⟨w.heap.size, 0, none⟩ (.int .u8 0)).setCell ⟨w.heap.size, 1, none⟩ (.int .u8 0)).setCell ⟨w.heap.size, 2, none⟩ (.int .u8 0)).setCell ⟨w.heap.size, 3, none⟩ (.int .u8 0)).heap[w.heap.size]? = some (.cells (List.toArray (.int .u8 0 :: .int .u8 0 :: .int .u8 0 :: .int .u8 0 :: cr)) 98 (0, 0)) := by
        have e0 := heap_setCell_same w3 w.heap.size 0 _ _ (.int .u8 0) Hd3.out
        have e1 := heap_setCell_same _ w.heap.size 1 _ _ (.int .u8 0) e0
        have e2 := heap_setCell_same _ w.heap.size 2 _ _ (.int .u8 0) e1
        have e3 := heap_setCell_same _ w.heap.size 3 _ _ (.int .u8 0) e2
        simpa using e3
      generalize ((((w3.setCell ⟨w.heap.size, 0, none⟩ (.int .u8 0)).setCell ⟨w.heap.size, 1, none⟩ (.int .u8 0)).setCell ⟨w.heap.size, 2, none⟩ (.int .u8 0)).setCell ⟨w.heap.size, 3, none⟩ (.int .u8 0)) = w4 at *
      obtain ⟨ds, hds⟩ : ∃ ds, ds = Value.int .u8 0 :: .int .u8 0 :: .int .u8 0 :: .int .u8 0 :: cr := ⟨_, rfl⟩
      have hdm : ds = (escL xs).map (Value.int .u8) := by
        have h1 := Hcs.out
        have h2 := Hx.out
        rw [Hecs.out] at h1
        rw [hds, HEs.out]
        match xs, h2, h1 with
        | a :: b :: c :: d :: r, _, h1 =>
          simp only [List.map_cons, List.cons.injEq] at h1
          obtain ⟨_, _, _, _, rfl⟩ := h1
          simp
      have Hdm : Hid _ := hdm
      have HRl2 : Hid (ds.length = 64) := by
        have h1 := HL1.out
        rw [Hecs.out] at h1
        show ds.length = 64
        rw [hds]; simpa using h1
      have HRo2 : Hid (∀ v ∈ ds, v.oneCell' = true) := by
        show ∀ v ∈ ds, v.oneCell' = true
        rw [hdm]; exact ints_oneCell _ _
      have hids : (Tryz.prog.info? 98).map (·.size) = some ds.length := by rw [HRl2.out]; kernel_rfl
      rw [← hds] at D4
      have HR4 : Hid _ := row_rng D4
      have HQ4 : Hid _ := (C4.block (w.heap.size + 1) (Array.getElem?_eq_some_iff.1 HQ.out).1 (by omega)).trans HQ.out
      have HCw4 : Hid _ := HC3.out.step C4 (by omega)
      clear C4 D4 hds hdm k0 k1 k2 k3 f0 f1 f2 f3 hcl Hd3 HD HQ
      go_wp2_with (first
        | (refine wpList_load_mid rfl 98 (.tmp 1) rfl w.heap.size 0 rfl ds _ HR4.out u44 rfl hids ?_)
        | (refine wpList_store_row rfl 98 (.tmp 2) (.tmp 11) rfl rfl (w.heap.size + 1) rfl ds Z64 98 rfl HQ4.out (by rw [Z64_length]; exact HRl2.out) hids HRo2.out ?_; intro w9 hb9 hc9))
      have hl1 : (loadVar 98 ⟨w.heap.size + 1, 0, none⟩).run Tryz.prog w9 = .ok (.agg ds.toArray) w9 := run_loadVar_mid _ _ _ _ ds _ (row_rng hb9) Tryz.underlying98 rfl hids
      refine bodyPost_ret (v := .tuple #[.agg ds.toArray, .bool true]) (results_be Tryz.results71 rfl rfl hl1) rfl ⟨?_, HCw4.out.step hc9 (by omega)⟩
      rw [Hdm.out, decide_eq_true Hm.out]
    · have HEs : Hid (escL xs = xs) := by show _ = _; unfold escL; rw [if_neg hm]
      have Hm : Hid _ := hm
      rw [decide_eq_false hm]
      have HR : Hid _ := row_rng HD.out
      clear hm
      go_wp2_with (first
        | (refine wpList_load_mid rfl 98 (.tmp 1) rfl w.heap.size 0 rfl cs _ HR.out u44 rfl hi44 ?_)
        | (refine wpList_store_row rfl 98 (.tmp 2) (.tmp 9) rfl rfl (w.heap.size + 1) rfl cs Z64 98 rfl HQ.out (by rw [Z64_length]; exact HL1.out) hi44 HL2.out ?_; intro w9 hb9 hc9))
      have hl1 : (loadVar 98 ⟨w.heap.size + 1, 0, none⟩).run Tryz.prog w9 = .ok (.agg cs.toArray) w9 := run_loadVar_mid _ _ _ _ cs _ (row_rng hb9) Tryz.underlying98 rfl hi44
      refine bodyPost_ret (v := .tuple #[.agg cs.toArray, .bool false]) (results_be Tryz.results71 rfl rfl hl1) rfl ⟨?_, HC3.out.step hc9 (by omega)⟩
      rw [HEs.out, Hcs.out, decide_eq_false Hm.out]

end Go.Proofs.YteligghapkleaaaGreatDoor

namespace Go.Proofs.YteligghapkleaaaGreatDoor
open Go.RowKit

def tagC (ts : List (Int × Bool)) : List Value := ts.flatMap fun t => [.int .i64 t.1, .bool t.2]
theorem tagC_length (ts : List (Int × Bool)) : (tagC ts).length = ts.length * 2 := by
  unfold tagC
  induction ts with
  | nil => rfl
  | cons t r ih => rw [List.flatMap_cons, List.length_append, ih, List.length_cons]; simp; omega
theorem tagC_app (ts : List (Int × Bool)) (t : Int × Bool) : tagC (ts ++ [t]) = tagC ts ++ [.int .i64 t.1, .bool t.2] := by unfold tagC; simp
theorem tagC_at (ts : List (Int × Bool)) (i : Nat) (h : i < ts.length) : (tagC ts)[i * 2]? = some (.int .i64 (ts.getD i (0, false)).1) ∧ (tagC ts)[i * 2 + 1]? = some (.bool (ts.getD i (0, false)).2) := by
  induction ts generalizing i with
  | nil => simp at h
  | cons t r ih =>
    cases i with
    | zero => simp [tagC]
    | succ i =>
      have := ih i (by simpa using h)
      have e : tagC (t :: r) = .int .i64 t.1 :: .bool t.2 :: tagC r := by simp [tagC]
      rw [e, show (i + 1) * 2 = i * 2 + 1 + 1 by omega]
      simpa using this
/-- A row of tags. -/
def OwnG (w : World) (base : Nat) (v : Value) (ts : List (Int × Bool)) : Prop := w.ownsRow base 73 2 v ts.length (tagC ts)
theorem OwnG.lt {w : World} {base : Nat} {v : Value} {ts : List (Int × Bool)} (h : OwnG w base v ts) : ∀ g, v.ownBlock = some g → base ≤ g ∧ g < w.heap.size := World.ownsRow.lt h
theorem OwnG.chg {w w' : World} {base l r : Nat} {v : Value} {ts : List (Int × Bool)} (h : OwnG w base v ts) (c : Chg l r w w') (d : ∀ g, v.ownBlock = some g → g < l ∨ r ≤ g) : OwnG w' base v ts := by
  obtain ⟨h1, h2⟩ := h
  refine ⟨h1, ?_⟩
  rcases h2 with h2 | ⟨g, cap, cur, hv, hg, hh, r⟩
  · exact Or.inl h2
  · refine Or.inr ⟨g, cap, cur, hv, hg, ?_, r⟩
    rw [c.block g (Array.getElem?_eq_some_iff.1 hh).1 (d g (by rw [hv]; rfl))]; exact hh
theorem OwnG.nil (w : World) (base : Nat) : OwnG w base (.slice none 0 0) [] := World.ownsRow_nil _ _ _ _
theorem OwnG.cells {w : World} {base : Nat} {v : Value} {ts : List (Int × Bool)} (h : OwnG w base v ts) (h0 : 0 < ts.length) : ∃ g cap, v = .slice (some ⟨g, 0, none⟩) ts.length cap ∧ base ≤ g ∧ g < w.heap.size ∧
    ∀ i, i < ts.length → w.cell? ⟨g, 0 + i * 2, none⟩ = some (.int .i64 (ts.getD i (0, false)).1) ∧ w.cell? ⟨g, 0 + i * 2 + 1, none⟩ = some (.bool (ts.getD i (0, false)).2) := by
  have h' : w.ownsRow base 73 2 v ts.length (tagC ts) := h
  rcases h.2 with ⟨_, e⟩ | ⟨g, cap, cur, rfl, hg, hh, _⟩
  · omega
  · refine ⟨g, cap, rfl, hg, (Array.getElem?_eq_some_iff.1 hh).1, fun i hi => ?_⟩
    obtain ⟨e1, e2⟩ := tagC_at ts i hi
    rw [Nat.zero_add]
    refine ⟨?_, ?_⟩
    · exact (World.ownsRow.cellAt h' (i * 2) (by omega)).trans e1
    · exact (World.ownsRow.cellAt h' (i * 2 + 1) (by omega)).trans e2
theorem Tryz.infoG : (Tryz.prog.info? 73).map (fun i => (i.zero, i.size, i.bytes)) = some (some (.agg #[.int .i64 0, .bool false]), 2, 16) := by kernel_rfl

/-- append of one tag. -/
theorem wp_app_tag {o : Oper} {a : Act} {w : World} {K : Act → World → Prop} {Q : Exit → Act → World → Prop} (s x : Operand)
    (ho : o.op = .call { callee := .builtin .append, args := #[s, x], argTypes := #[66, 66] }) (base : Nat) (v : Value) (ts : List (Int × Bool)) (hs : a.eval s = v) (hown : OwnG w base v ts)
    (b c : Nat) (p : Int × Bool) (hx : a.eval x = .slice (some ⟨b, 0, none⟩) 1 c) (hc : w.heap[b]? = some (.cells #[.int .i64 p.1, .bool p.2] 73 (0, 0))) (hk : ts.length + 1 ≤ 2097152) (hbase : base ≤ w.heap.size)
    (h : ∀ v' w', OwnG w' base v' (ts ++ [p]) → w.grownBy w' v.ownBlock → K (a.put o.dst v') w') : o.wp Tryz.prog a w K Q := by
  obtain ⟨i, hi, hz0, hz1, hz2⟩ := info_parts Tryz.infoG
  refine wp_append_own w s x 66 ho base 73 i _ 2 16 Tryz.underlying66 hi hz0 hz1 hz2 rfl (by omega) v ts.length _ hs hown ⟨b, 0, none⟩ 1 c [.int .i64 p.1, .bool p.2] hx rfl ?_ ?_ (by unfold maxLen; omega) (by omega) hbase ?_
  · intro j u hj
    have hj2 : j < 2 := by have := (List.getElem?_eq_some_iff.1 hj).1; simpa using this
    rw [Go.WideShapes.add_plain, Nat.zero_add]
    obtain ⟨t0, t1, _, _⟩ := two_cells hc
    match j, hj2 with
    | 0, _ => simp at hj; subst hj; exact t0
    | 1, _ => simp at hj; subst hj; exact t1
  · intro u hu
    simp at hu
    rcases hu with rfl | rfl <;> rfl
  · intro v' w' h1 h2 _
    exact h v' w' (by unfold OwnG; rw [List.length_append, tagC_app]; exact h1) h2

theorem OwnB.grown {w w' : World} {base : Nat} {e : TypeId} {v : Value} {xs : List Int} {row : Option Nat} (h : OwnB w base e v xs) (hg : w.grownBy w' row) (hr : ∀ g, row = some g → v.ownBlock ≠ some g) : OwnB w' base e v xs := by
  obtain ⟨h1, h2⟩ := h
  refine ⟨h1, ?_⟩
  rcases h2 with h2 | ⟨g, cap, cur, hv, hb, hh, r⟩
  · exact Or.inl h2
  · refine Or.inr ⟨g, cap, cur, hv, hb, ?_, r⟩
    rw [hg.block g (Array.getElem?_eq_some_iff.1 hh).1 (fun e => hr g e.symm (by rw [hv]; rfl))]; exact hh
theorem OwnG.grown {w w' : World} {base : Nat} {v : Value} {xs : List (Int × Bool)} {row : Option Nat} (h : OwnG w base v xs) (hg : w.grownBy w' row) (hr : ∀ g, row = some g → v.ownBlock ≠ some g) : OwnG w' base v xs := by
  obtain ⟨h1, h2⟩ := h
  refine ⟨h1, ?_⟩
  rcases h2 with h2 | ⟨g, cap, cur, hv, hb, hh, r⟩
  · exact Or.inl h2
  · refine Or.inr ⟨g, cap, cur, hv, hb, ?_, r⟩
    rw [hg.block g (Array.getElem?_eq_some_iff.1 hh).1 (fun e => hr g e.symm (by rw [hv]; rfl))]; exact hh
theorem OwnG.elem {w : World} {base : Nat} {v : Value} {ts : List (Int × Bool)} {g : Nat} (h : OwnG w base v ts) (hg : v.ownBlock = some g) : ∃ cur, w.heap[g]? = some (.cells cur 73 (0, 0)) := by
  obtain ⟨_, h2⟩ := h
  rcases h2 with ⟨rfl, _⟩ | ⟨g', cap, cur, rfl, _, hh, _⟩
  · cases hg
  · cases hg; exact ⟨cur, hh⟩
/-- Bytes and tags lie apart. -/
theorem OwnG.apart {w : World} {base base' : Nat} {v u : Value} {ts : List (Int × Bool)} {xs : List Int} (h : OwnG w base v ts) (k : OwnB w base' 5 u xs) : ∀ g, v.ownBlock = some g → u.ownBlock ≠ some g := fun g hg hu => by
  obtain ⟨c1, e1⟩ := h.elem hg
  obtain ⟨c2, e2⟩ := k.elem hu
  rw [e1] at e2
  simp only [Option.some.injEq, Obj.cells.injEq] at e2
  exact absurd e2.2.1 (by decide)
theorem Chg.ofGrown0 {w w' : World} {row : Option Nat} {B : Nat} (h : w.grownBy w' row) (hr : ∀ k, row = some k → B ≤ k) : Chg B w.heap.size w w' := Chg.ofGrown h (fun k e hk => ⟨hr k e, hk⟩)

/-- append of bytes that are seen to bytes that are one's own: what else stands. -/
theorem wpList_app_seenG {ops : Array Oper} {rest : List Oper} {o : Oper} {a : Act} {w : World} {Q : Exit → Act → World → Prop} (hgd : o.guard = none) (s x : Operand)
    (ho : o.op = .call { callee := .builtin .append, args := #[s, x], argTypes := #[36, 36] })
    (base : Nat) (sv : Value) (xs : List Int) (hs : a.eval s = sv) (hO : OwnB w base 5 sv xs) (hbase : base ≤ w.heap.size) (lo hi : Nat) (xv : Value) (ys : List Int) (hx : a.eval x = xv) (hv : View w lo hi .u8 xv ys) (hy : 0 < ys.length) (hl : xs.length + ys.length ≤ 1048576)
    (h : ∀ v' w', OwnB w' base 5 v' (xs ++ ys) → w.grownBy w' sv.ownBlock → wpList Tryz.prog ops Q rest (a.put o.dst v') w') : wpList Tryz.prog ops Q (o :: rest) a w := by
  refine wpList_plain hgd fun K hK => ?_
  obtain ⟨i, hi, hz0, hz1, hz2⟩ := info_parts Tryz.infoU1
  obtain ⟨ao, cap, rfl, _, _, hcell⟩ := hv
  obtain ⟨b, off, rfl, hc⟩ : ∃ b off, ao = some ⟨b, off, none⟩ ∧ ∀ i, i < ys.length → w.cell? ⟨b, off + i, none⟩ = some (.int .u8 (ys.getD i 0)) := by
    rcases hcell with e | ⟨b, off, e, _, _, h3⟩
    · rw [e] at hy; simp at hy
    · exact ⟨b, off, e, h3⟩
  have HNW : ∀ j u, (ys.map (Value.int .u8))[j]? = some u → w.cell? ((⟨b, off, none⟩ : Addr).add j) = some u := by
    intro j u hj
    have hjl : j < ys.length := by have := (List.getElem?_eq_some_iff.1 hj).1; simpa using this
    rw [Addr.add_mid, hc j hjl, ← hj]
    simp [List.getD_eq_getElem?_getD, hjl]
  have hrow : w.ownsRow base 5 1 sv xs.length (xs.map (Value.int .u8)) := hO
  refine wp_append_own _ s x 36 ho base 5 i (.int .u8 0) 1 1 Tryz.underlying36 hi hz0 hz1 hz2 rfl (by decide) sv xs.length (xs.map (Value.int .u8)) hs hrow ⟨b, off, none⟩ ys.length cap (ys.map (Value.int .u8)) hx (by simp) HNW (ints_oneCell _ _) (by unfold maxLen; omega) (by omega) hbase ?_
  intro v' w2 hown hgrow _
  refine hK _ _ (h v' w2 ?_ hgrow)
  unfold OwnB
  rw [List.length_append, List.map_append]
  exact hown

end Go.Proofs.YteligghapkleaaaGreatDoor
