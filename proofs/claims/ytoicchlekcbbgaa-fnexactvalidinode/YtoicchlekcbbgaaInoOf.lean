/- inodeOf of the program. (made by tools/mkinoof.py) -/
import Derived.Test.YtoicchlekcbbgaaInoC
import Derived.Test.YtoicchlekcbbgaaRowZ
import Derived.Test.YtoicchlekcbbgaaHeld
import Derived.Test.YtoicchlekcbbgaaWeak
import Derived.Deep.DeepCutAuto
namespace Go.Proofs.Ytoicchlekcbbgaa
open Go.RowKit

set_option maxRecDepth 20000 in
set_option maxHeartbeats 4000000 in
theorem inodeOf_some (w : World) (kd l s x : Int) (d0 d1 d2 d3 d4 d5 d6 d7 : Int) (b off cap : Nat) (hR : w.rangeAt b off [.int .i64 d0, .int .i64 d1, .int .i64 d2, .int .i64 d3, .int .i64 d4, .int .i64 d5, .int .i64 d6, .int .i64 d7]) :
    Calls Try.prog 12 #[.agg #[.int .i64 kd, .int .i64 l, .int .i64 s, .slice (some ⟨b, off, none⟩) 8 cap, .int .i64 x]] w fun e w' => e = .returned (.tuple #[.agg #[.int .i64 kd, .int .i64 l, .int .i64 s, .int .i64 d0, .int .i64 d1, .int .i64 d2, .int .i64 d3, .int .i64 d4, .int .i64 d5, .int .i64 d6, .int .i64 d7, .int .i64 x], .bool true]) ∧ Chg 0 0 w w' := by
  have u43 := Try.underlying36
  have har : ∀ y : World, (Instr.arrayAt 34 (.slice (some ⟨b, off, none⟩) 8 cap)).run Try.prog y = .ok (.pointer (some ⟨b, off, none⟩)) y := fun y => by simp [Instr.arrayAt, run_underlying Try.underlying34]
  obtain ⟨z0, z1, z2⟩ := alloc2 w (.cells #[.int .i64 kd, .int .i64 l, .int .i64 s, .slice (some ⟨b, off, none⟩) 8 cap, .int .i64 x] 27) (.cells Z12.toArray 36)
  have HC0 : Hid (Chg 0 0 w ((w.alloc (.cells #[.int .i64 kd, .int .i64 l, .int .i64 s, .slice (some ⟨b, off, none⟩) 8 cap, .int .i64 x] 27)).alloc (.cells Z12.toArray 36))) := (Chg.alloc (Chg.refl 0 0 w) _).alloc _
  have HR0 : Hid (((w.alloc (.cells #[.int .i64 kd, .int .i64 l, .int .i64 s, .slice (some ⟨b, off, none⟩) 8 cap, .int .i64 x] 27)).alloc (.cells Z12.toArray 36)).rangeAt b off [.int .i64 d0, .int .i64 d1, .int .i64 d2, .int .i64 d3, .int .i64 d4, .int .i64 d5, .int .i64 d6, .int .i64 d7]) := fun j v hv => HC0.out.cell (hR j v hv) (by omega)
  have HZ1 : Hid (((w.alloc (.cells #[.int .i64 kd, .int .i64 l, .int .i64 s, .slice (some ⟨b, off, none⟩) 8 cap, .int .i64 x] 27)).alloc (.cells Z12.toArray 36)).heap[w.heap.size]? = some (.cells #[.int .i64 kd, .int .i64 l, .int .i64 s, .slice (some ⟨b, off, none⟩) 8 cap, .int .i64 x] 27 (0, 0))) := z1
  have HZ2 : Hid (((w.alloc (.cells #[.int .i64 kd, .int .i64 l, .int .i64 s, .slice (some ⟨b, off, none⟩) 8 cap, .int .i64 x] 27)).alloc (.cells Z12.toArray 36)).heap[w.heap.size + 1]? = some (.cells Z12.toArray 36 (0, 0))) := z2
  have hbn : b ≠ w.heap.size + 1 := by have h : b < w.heap.size := lt_of_cell (hR 0 _ rfl); omega
  clear hR z0 z1 z2
  obtain ⟨⟨q0, q1, q2, q3, q4⟩, _⟩ := ino_all HZ1.out
  go_enter Try.func12, Try.ntmps12
  go_upto_region 3 with (simp only [Z12_eq])
  generalize ((w.alloc (.cells #[.int .i64 kd, .int .i64 l, .int .i64 s, .slice (some ⟨b, off, none⟩) 8 cap, .int .i64 x] 27)).alloc (.cells Z12.toArray 36)) = wa at *
  have HS : Hid ((fun w' : World => w'.heap[w.heap.size]? = some (.cells #[.int .i64 kd, .int .i64 l, .int .i64 s, .slice (some ⟨b, off, none⟩) 8 cap, .int .i64 x] 27 (0, 0)) ∧ w'.rangeAt b off [.int .i64 d0, .int .i64 d1, .int .i64 d2, .int .i64 d3, .int .i64 d4, .int .i64 d5, .int .i64 d6, .int .i64 d7]) wa.drew) := ⟨HZ1.out, HR0.out⟩
  have HC : Hid (Chg 0 0 w wa.drew) := HC0.out.drew
  have HZ : Hid (wa.drew.heap[w.heap.size + 1]? = some (.cells Z12.toArray 36 (0, 0))) := HZ2.out
  clear HC0 HR0 HZ1 HZ2 q0 q1 q2 q3 q4
  refine held_region (fun w' : World => w'.heap[w.heap.size]? = some (.cells #[.int .i64 kd, .int .i64 l, .int .i64 s, .slice (some ⟨b, off, none⟩) 8 cap, .int .i64 x] 27 (0, 0)) ∧ w'.rangeAt b off [.int .i64 d0, .int .i64 d1, .int .i64 d2, .int .i64 d3, .int .i64 d4, .int .i64 d5, .int .i64 d6, .int .i64 d7]) (by kernel_rfl) ?_
  generalize wa.drew = x1 at *
  refine held_take 0 (.pointer (some ⟨w.heap.size, 0, none⟩)) rfl (by kernel_rfl) (by kernel_rfl) (by kernel_rfl) (fun _ _ _ h => h) (.inl ⟨by kernel_rfl, fun w' hw' => by go_simp⟩) HS.out ?_
  go_simp
  refine held_take 1 (.int .i64 kd) rfl (by kernel_rfl) (by kernel_rfl) (by kernel_rfl) (fun _ _ _ h => h) (.inl ⟨by kernel_rfl, fun w' hw' => by obtain ⟨⟨q0, q1, q2, q3, q4⟩, _⟩ := ino_all hw'.1; go_simp⟩) HS.out ?_
  go_simp
  refine held_take 2 (.pointer (some ⟨w.heap.size, 1, none⟩)) rfl (by kernel_rfl) (by kernel_rfl) (by kernel_rfl) (fun _ _ _ h => h) (.inl ⟨by kernel_rfl, fun w' hw' => by go_simp⟩) HS.out ?_
  go_simp
  refine held_take 3 (.int .i64 l) rfl (by kernel_rfl) (by kernel_rfl) (by kernel_rfl) (fun _ _ _ h => h) (.inl ⟨by kernel_rfl, fun w' hw' => by obtain ⟨⟨q0, q1, q2, q3, q4⟩, _⟩ := ino_all hw'.1; go_simp⟩) HS.out ?_
  go_simp
  refine held_take 4 (.pointer (some ⟨w.heap.size, 2, none⟩)) rfl (by kernel_rfl) (by kernel_rfl) (by kernel_rfl) (fun _ _ _ h => h) (.inl ⟨by kernel_rfl, fun w' hw' => by go_simp⟩) HS.out ?_
  go_simp
  refine held_take 5 (.int .i64 s) rfl (by kernel_rfl) (by kernel_rfl) (by kernel_rfl) (fun _ _ _ h => h) (.inl ⟨by kernel_rfl, fun w' hw' => by obtain ⟨⟨q0, q1, q2, q3, q4⟩, _⟩ := ino_all hw'.1; go_simp⟩) HS.out ?_
  go_simp
  refine held_take 6 (.pointer (some ⟨w.heap.size, 3, none⟩)) rfl (by kernel_rfl) (by kernel_rfl) (by kernel_rfl) (fun _ _ _ h => h) (.inl ⟨by kernel_rfl, fun w' hw' => by go_simp⟩) HS.out ?_
  go_simp
  refine held_take 7 (.slice (some ⟨b, off, none⟩) 8 cap) rfl (by kernel_rfl) (by kernel_rfl) (by kernel_rfl) (fun _ _ _ h => h) (.inl ⟨by kernel_rfl, fun w' hw' => by obtain ⟨⟨q0, q1, q2, q3, q4⟩, _⟩ := ino_all hw'.1; go_simp⟩) HS.out ?_
  go_simp
  refine held_take 8 (.pointer (some ⟨b, off, none⟩)) rfl (by kernel_rfl) (by kernel_rfl) (by kernel_rfl) (fun _ _ _ h => h) (.inl ⟨by kernel_rfl, fun w' hw' => by have h4 := har w'; go_simp⟩) HS.out ?_
  go_simp
  refine held_take 9 (.agg #[.int .i64 d0, .int .i64 d1, .int .i64 d2, .int .i64 d3, .int .i64 d4, .int .i64 d5, .int .i64 d6, .int .i64 d7]) rfl (by kernel_rfl) (by kernel_rfl) (by kernel_rfl) (fun _ _ _ h => h) (yieldsIf_load_mid (by kernel_rfl) 34 (.tmp 17) rfl b off rfl [.int .i64 d0, .int .i64 d1, .int .i64 d2, .int .i64 d3, .int .i64 d4, .int .i64 d5, .int .i64 d6, .int .i64 d7] _ (fun w' hw' => hw'.2) Try.underlying34 rfl Try.size8) HS.out ?_
  go_simp
  refine held_take 10 (.pointer (some ⟨w.heap.size, 4, none⟩)) rfl (by kernel_rfl) (by kernel_rfl) (by kernel_rfl) (fun _ _ _ h => h) (.inl ⟨by kernel_rfl, fun w' hw' => by go_simp⟩) HS.out ?_
  go_simp
  refine held_take 11 (.int .i64 x) rfl (by kernel_rfl) (by kernel_rfl) (by kernel_rfl) (fun _ _ _ h => h) (.inl ⟨by kernel_rfl, fun w' hw' => by obtain ⟨⟨q0, q1, q2, q3, q4⟩, _⟩ := ino_all hw'.1; go_simp⟩) HS.out ?_
  go_simp
  refine held_take 12 (.agg #[.int .i64 kd, .int .i64 l, .int .i64 s, .int .i64 d0, .int .i64 d1, .int .i64 d2, .int .i64 d3, .int .i64 d4, .int .i64 d5, .int .i64 d6, .int .i64 d7, .int .i64 x]) rfl (by kernel_rfl) (by kernel_rfl) (by kernel_rfl) (fun _ _ _ h => h) (.inl ⟨by kernel_rfl, fun w' hw' => by go_simp⟩) HS.out ?_
  go_simp
  refine held_one 13 rfl rfl (by kernel_rfl) ?_
  refine wp_store_row 36 (.tmp 2) (.tmp 21) rfl rfl (w.heap.size + 1) rfl [.int .i64 kd, .int .i64 l, .int .i64 s, .int .i64 d0, .int .i64 d1, .int .i64 d2, .int .i64 d3, .int .i64 d4, .int .i64 d5, .int .i64 d6, .int .i64 d7, .int .i64 x] Z12 36 rfl HZ.out (by rw [Z12_length]; rfl) (by exact Try.sizeIno) (by simp [Value.oneCell']) ?_
  intro wy hy cy
  have HSy : Hid ((fun w' : World => w'.heap[w.heap.size]? = some (.cells #[.int .i64 kd, .int .i64 l, .int .i64 s, .slice (some ⟨b, off, none⟩) 8 cap, .int .i64 x] 27 (0, 0)) ∧ w'.rangeAt b off [.int .i64 d0, .int .i64 d1, .int .i64 d2, .int .i64 d3, .int .i64 d4, .int .i64 d5, .int .i64 d6, .int .i64 d7]) wy) := ⟨(cy.block _ (Array.getElem?_eq_some_iff.1 HS.out.1).1 (by omega)).trans HS.out.1, fun j v hv => cy.cell (HS.out.2 j v hv) (by
    omega)⟩
  have HCy : Hid (Chg 0 0 w wy) := HC.out.step cy (by omega)
  have Hy : Hid (wy.heap[w.heap.size + 1]? = some (.cells #[.int .i64 kd, .int .i64 l, .int .i64 s, .int .i64 d0, .int .i64 d1, .int .i64 d2, .int .i64 d3, .int .i64 d4, .int .i64 d5, .int .i64 d6, .int .i64 d7, .int .i64 x] 36 (0, 0))) := hy
  refine ⟨HSy.out, ?_⟩
  clear hy cy HS HC HZ
  go_simp
  refine held_one 14 rfl rfl (by kernel_rfl) ?_
  go_simp
  refine ⟨HSy.out, held_done (by kernel_rfl) (NoPanic.normal ?_)⟩
  have hl1 : (loadVar 36 ⟨w.heap.size + 1, 0, none⟩).run Try.prog wy = .ok (.agg #[.int .i64 kd, .int .i64 l, .int .i64 s, .int .i64 d0, .int .i64 d1, .int .i64 d2, .int .i64 d3, .int .i64 d4, .int .i64 d5, .int .i64 d6, .int .i64 d7, .int .i64 x]) wy := run_loadVar_mid _ _ _ _ [.int .i64 kd, .int .i64 l, .int .i64 s, .int .i64 d0, .int .i64 d1, .int .i64 d2, .int .i64 d3, .int .i64 d4, .int .i64 d5, .int .i64 d6, .int .i64 d7, .int .i64 x] _ (row_rng Hy.out) u43 rfl Try.sizeIno
  go_wp2
  exact bodyPost_ret (v := .tuple #[.agg #[.int .i64 kd, .int .i64 l, .int .i64 s, .int .i64 d0, .int .i64 d1, .int .i64 d2, .int .i64 d3, .int .i64 d4, .int .i64 d5, .int .i64 d6, .int .i64 d7, .int .i64 x], .bool true]) (results_ct Try.results12 rfl rfl hl1) rfl ⟨rfl, HCy.out⟩

set_option maxRecDepth 20000 in
set_option maxHeartbeats 1000000 in
theorem inodeOf_other (w : World) (i : Ino) (ao : Option Addr) (cap : Nat) (hn : i.dir.length ≠ 8) (_hl : i.dir.length ≤ 1048576) :
    Calls Try.prog 12 #[inoV i ao cap] w fun e w' => e = .returned (.tuple #[.agg Z12.toArray, .bool false]) ∧ Chg 0 0 w w' := by
  have u43 := Try.underlying36
  have hne : ((i.dir.length : Int) != 8) = true := by rw [bne_iff_ne]; omega
  obtain ⟨z0, z1, z2⟩ := alloc2 w (inoO 27 i ao cap) (.cells Z12.toArray 36)
  have HC0 : Hid (Chg 0 0 w ((w.alloc (inoO 27 i ao cap)).alloc (.cells Z12.toArray 36))) := (Chg.alloc (Chg.refl 0 0 w) _).alloc _
  have HZ : Hid (((w.alloc (inoO 27 i ao cap)).alloc (.cells Z12.toArray 36)).heap[w.heap.size + 1]? = some (.cells Z12.toArray 36 (0, 0))) := z2
  obtain ⟨⟨q0, q1, q2, q3, q4⟩, _⟩ := ino_all z1
  have hicz : (Try.prog.info? 36).map (·.size) = some Z12.length := by rw [Z12_length]; exact Try.sizeIno
  have hz1 : ∀ v ∈ Z12, v.oneCell' = true := by rw [Z12_ino]; exact nC_one _
  clear hn z0 z1 z2
  rw [← Z12_eq] at HZ HC0
  go_enter Try.func12, Try.ntmps12
  go_wp2_with ((refine wpList_store_row rfl 36 (.tmp 2) (.tmp 8) rfl rfl (w.heap.size + 1) rfl Z12 Z12 36 (by rw [← Z12_eq]; rfl) (by rw [← Z12_eq]; exact HZ.out) rfl hicz hz1 ?_; intro wg hbg hcg))
  have HCg : Hid (Chg 0 0 w wg) := HC0.out.step hcg (by omega)
  have hl1 : (loadVar 36 ⟨w.heap.size + 1, 0, none⟩).run Try.prog wg = .ok (.agg Z12.toArray) wg := run_loadVar_mid _ _ _ _ Z12 _ (row_rng hbg) u43 rfl hicz
  exact bodyPost_ret (v := .tuple #[.agg Z12.toArray, .bool false]) (results_ct Try.results12 rfl rfl hl1) rfl ⟨rfl, HCg.out⟩

/-- inodeOf: the inode, if it has as many numbers. -/
theorem inodeOf_calls (w : World) {lo hi : Nat} (i : Ino) (ao : Option Addr) (cap : Nat) (hl : i.dir.length ≤ 1048576) (hV : View w lo hi .i64 (.slice ao i.dir.length cap) i.dir) :
    Calls Try.prog 12 #[inoV i ao cap] w fun e w' => e = .returned (.tuple #[.agg (if i.dir.length = 8 then nC i else Z12).toArray, .bool (decide (i.dir.length = 8))]) ∧ Chg 0 0 w w' := by
  by_cases h : i.dir.length = 8
  · rw [if_pos h, decide_eq_true h]
    obtain ⟨a, b, c, d, e, f, g, k, hd⟩ := eightI h
    obtain ⟨kd, l, s, ds, x⟩ := i
    simp only at hd
    subst hd
    obtain ⟨ao', cap', he, _, _, hV⟩ := hV
    cases he
    rcases hV with hV | ⟨bb, off, rfl, _, hlt, hV⟩
    · cases hV
    · exact inodeOf_some w kd l s x a b c d e f g k bb off cap (fun j v hv => by
        have hj : j < 8 := by have := (List.getElem?_eq_some_iff.1 hv).1; simpa using this
        rw [hV j (by simpa using hj), ← hv]
        match j, hj with
        | 0, _ | 1, _ | 2, _ | 3, _ | 4, _ | 5, _ | 6, _ | 7, _ => rfl)
  · rw [if_neg h, decide_eq_false h]
    exact inodeOf_other w i ao cap h hl

end Go.Proofs.Ytoicchlekcbbgaa
