/- DecodeSuper of the program. (made by tools/mkread2.py) -/
import Derived.Test.YthfhleddpiemoaaDoorImplFsR
namespace Go.Proofs.YthfhleddpiemoaaDoor
open Go.RowKit

theorem arrayAt64 (w : World) (a : Addr) (cap : Nat) : (Instr.arrayAt 37 (.slice (some a) 64 cap)).run Tryd.prog w = .ok (.pointer (some a)) w := by
  simp [Instr.arrayAt, run_underlying Tryd.underlying37]

set_option maxRecDepth 20000 in
set_option maxHeartbeats 4000000 in
theorem implDecodeSuper_calls (w : World) {lo hi : Nat} {a : Value} {xs : List Int} (hv : View w lo hi .u8 a xs) (hB : Byt xs) (hm : SysM w) :
    Calls Tryd.prog 6 #[a] w fun e w' => e = .returned (decSup xs) ∧ Chg 0 0 w w' := by
  obtain ⟨ao, cap, rfl, hle, ⟨hcp, _⟩, hcell⟩ := hv
  have HC : Hid (Chg 0 0 w (w.alloc (.cells #[.bool false, .int .i64 0, .int .i64 0, .int .i64 0] 26))) := Chg.alloc (Chg.refl 0 0 w) _
  have HB : Hid ((w.alloc (.cells #[.bool false, .int .i64 0, .int .i64 0, .int .i64 0] 26)).heap[w.heap.size]? = some (.cells #[.bool false, .int .i64 0, .int .i64 0, .int .i64 0] 26 (0, 0))) := heap_new w _
  have s0 : (w.alloc (.cells #[.bool false, .int .i64 0, .int .i64 0, .int .i64 0] 26)).heap.size = w.heap.size + 1 := by simp
  by_cases h64 : xs.length = 64
  case neg =>
    have HE : Hid (decSup xs = srV false 0 0 0) := by show _ = _; unfold decSup; rw [if_neg (fun h => h64 h.1)]
    have hne : ((xs.length : Int) != 64) = true := by simp; omega
    clear h64
    go_enter Tryd.func6, Tryd.ntmps6
    go_wp2
    exact bodyPost_ret (v := srV false 0 0 0) (by simp [results, Tryd.results6, go_sem, srV]) rfl ⟨by rw [HE.out], by first | exact HC.out | (refine Chg.setCell (Chg.setCell (Chg.setCell (Chg.setCell HC.out ?_ _) ?_ _) ?_ _) ?_ _ <;> exact Or.inr (Nat.le_refl _))⟩
  obtain ⟨xb, xo, rfl, hxc⟩ : ∃ xb xo, ao = some ⟨xb, xo, none⟩ ∧ ∀ i, i < xs.length → w.cell? ⟨xb, xo + i, none⟩ = some (.int .u8 (xs.getD i 0)) := by
    rcases hcell with e | ⟨x, o, e, _, _, h⟩
    · rw [e] at h64; simp at h64
    · exact ⟨x, o, e, h⟩
  obtain ⟨cs, hcs⟩ : ∃ cs, cs = xs.map (Value.int .u8) := ⟨_, rfl⟩
  have L1 : cs.length = 64 := by rw [hcs, List.length_map]; exact h64
  have R0 : w.rangeAt xb xo cs := by
    intro j v hj
    have hj64 : j < xs.length := by have := (List.getElem?_eq_some_iff.1 hj).1; omega
    rw [hxc j hj64, ← hj, hcs, List.getElem?_map]
    simp only [List.getD_eq_getElem?_getD]
    rw [List.getElem?_eq_getElem hj64]
    rfl
  have hi28 : (Tryd.prog.info? 37).map (·.size) = some cs.length := by rw [L1]; kernel_rfl
  have u28 := Tryd.underlying37
  have hne : ((64 : Int) != 64) = false := by simp
  have hN := readSystem_calls (w.alloc (.cells #[.bool false, .int .i64 0, .int .i64 0, .int .i64 0] 26)) xs h64 hB (hm.chg HC.out)
  rw [← hcs] at hN
  have Hdec : Hid (decSup xs = if decide (encSup (sG xs 6) (sG xs 8) (sG xs 10) = xs) = true then srV true (sG xs 6) (sG xs 8) (sG xs 10) else srV false 0 0 0) := by
    show _ = _
    unfold decSup
    by_cases h : encSup (sG xs 6) (sG xs 8) (sG xs 10) = xs
    · rw [if_pos ⟨h64, h⟩, decide_eq_true h, if_pos rfl]
    · rw [if_neg (fun h' => h h'.2), decide_eq_false h, if_neg (by decide)]
  rw [Hdec.out]
  generalize decide (encSup (sG xs 6) (sG xs 8) (sG xs 10) = xs) = D at *
  generalize sG xs 6 = B at *
  generalize sG xs 8 = L at *
  generalize sG xs 10 = N at *
  rw [h64]
  have har := fun w' => arrayAt64 w' ⟨xb, xo, none⟩ cap
  clear hcell hxc L1 hcs hm hB h64 hle hcp Hdec
  go_enter Tryd.func6, Tryd.ntmps6
  go_upto_region 3 with fail
  have HR : Hid ((w.alloc (.cells #[.bool false, .int .i64 0, .int .i64 0, .int .i64 0] 26)).rangeAt xb xo cs) := fun j v hj => HC.out.cell (R0 j v hj) (by omega)
  generalize w.alloc (.cells #[.bool false, .int .i64 0, .int .i64 0, .int .i64 0] 26) = wa at *
  clear R0
  go_wp2_with (first
    | (refine wpList_load_mid rfl 37 (.tmp 11) rfl xb xo rfl cs _ HR.out u28 rfl hi28 ?_))
  refine hN.mono ?_
  rintro e w2 ⟨rfl, c2⟩
  have s2 := c2.size
  have HC2 : Hid (Chg 0 0 w (w2.alloc (.cells #[.int .i64 B, .int .i64 L, .int .i64 N] 24))) := (HC.out.trans c2).alloc _
  have hb2 : (w2.alloc (.cells #[.int .i64 B, .int .i64 L, .int .i64 N] 24)).heap[w.heap.size]? = some (.cells #[.bool false, .int .i64 0, .int .i64 0, .int .i64 0] 26 (0, 0)) := ((c2.alloc _).block _ (by omega) (by omega)).trans HB.out
  have hg2 := heap_new w2 (.cells #[.int .i64 B, .int .i64 L, .int .i64 N] 24)
  obtain ⟨⟨r0, r1, r2, r3⟩, f0, f1, f2, f3⟩ := four_all hb2
  obtain ⟨q0, q1, q2⟩ := trio hg2
  have hne2 : ¬ w2.heap.size = w.heap.size := by omega
  clear hN c2 HC HB HR har hb2 hg2
  cases D with
  | false =>
    go_wp2
    generalize w2.alloc (.cells #[.int .i64 B, .int .i64 L, .int .i64 N] 24) = w3 at *
    exact bodyPost_ret (v := srV false 0 0 0) (by simp [results, Tryd.results6, go_sem, srV, *]) rfl ⟨rfl, by refine Chg.setCell (Chg.setCell (Chg.setCell (Chg.setCell HC2.out ?_ _) ?_ _) ?_ _) ?_ _ <;> exact Or.inr (Nat.le_refl _)⟩
  | true =>
    go_wp2
    generalize w2.alloc (.cells #[.int .i64 B, .int .i64 L, .int .i64 N] 24) = w3 at *
    exact bodyPost_ret (v := srV true B L N) (by simp [results, Tryd.results6, go_sem, srV, *]) rfl ⟨rfl, by refine Chg.setCell (Chg.setCell (Chg.setCell (Chg.setCell HC2.out ?_ _) ?_ _) ?_ _) ?_ _ <;> exact Or.inr (Nat.le_refl _)⟩

end Go.Proofs.YthfhleddpiemoaaDoor
