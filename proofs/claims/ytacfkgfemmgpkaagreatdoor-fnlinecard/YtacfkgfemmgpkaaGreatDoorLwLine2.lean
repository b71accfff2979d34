/- Calls as lines, with data: lwLine of the laws. (made by tools/mklwline.py) -/
import Derived.Test.YtacfkgfemmgpkaaGreatDoorLwLine
namespace Go.Proofs.YtacfkgfemmgpkaaGreatDoor
open Go.RowKit

set_option maxRecDepth 20000 in
set_option maxHeartbeats 4000000 in
theorem line_append (w : World) (p : ByteArray) (_hp : Fld p) (hps : p.size ≤ 3000) (d : ByteArray) (hds : d.size ≤ 3000) : Calls Tryz.prog 6 #[.agg #[.int .i64 8, .string p, .string ⟨#[]⟩, .int .i64 0, .int .i64 0, .int .i64 0, .string d]] w fun e w' => e = .returned (.string (J [⟨#[97, 112, 112, 101, 110, 100]⟩, p, (quoV d)])) ∧ Chg 0 0 w w' := by
  have cA : Chg 0 0 w (((w.alloc (.cells #[.int .i64 8, .string p, .string ⟨#[]⟩, .int .i64 0, .int .i64 0, .int .i64 0, .string d] 29)).alloc (.cells #[.string ⟨#[115, 121, 110, 99]⟩, .string ⟨#[99, 104, 101, 99, 107, 112, 111, 105, 110, 116]⟩, .string ⟨#[115, 112, 97, 99, 101]⟩, .string ⟨#[108, 111, 103]⟩] 9)).alloc (.cells #[.string ⟨#[99, 114, 101, 97, 116, 101]⟩, .string ⟨#[109, 107, 100, 105, 114]⟩, .string ⟨#[117, 110, 108, 105, 110, 107]⟩, .string ⟨#[114, 109, 100, 105, 114]⟩] 9)) := Chg.alloc (Chg.alloc (Chg.alloc (Chg.refl 0 0 w) _) _) _
  have cB : Chg 0 0 (w.alloc (.cells #[.int .i64 8, .string p, .string ⟨#[]⟩, .int .i64 0, .int .i64 0, .int .i64 0, .string d] 29)) (((w.alloc (.cells #[.int .i64 8, .string p, .string ⟨#[]⟩, .int .i64 0, .int .i64 0, .int .i64 0, .string d] 29)).alloc (.cells #[.string ⟨#[115, 121, 110, 99]⟩, .string ⟨#[99, 104, 101, 99, 107, 112, 111, 105, 110, 116]⟩, .string ⟨#[115, 112, 97, 99, 101]⟩, .string ⟨#[108, 111, 103]⟩] 9)).alloc (.cells #[.string ⟨#[99, 114, 101, 97, 116, 101]⟩, .string ⟨#[109, 107, 100, 105, 114]⟩, .string ⟨#[117, 110, 108, 105, 110, 107]⟩, .string ⟨#[114, 109, 100, 105, 114]⟩] 9)) := Chg.alloc (Chg.alloc (Chg.refl 0 0 _) _) _
  have hBx := (cB.block w.heap.size (by simp) (by omega)).trans (heap_new w (.cells #[.int .i64 8, .string p, .string ⟨#[]⟩, .int .i64 0, .int .i64 0, .int .i64 0, .string d] 29))
  have hmx : Tryz.prog.follows .mixedOrders = true := by kernel_rfl
  obtain ⟨qd, Hqd⟩ : ∃ qd, Hid (qd = quoV d) := ⟨_, rfl⟩
  have hq : qd.size ≤ 20000 := by rw [Hqd.out]; exact quoV_le hds
  have e2 : (⟨#[32]⟩ : ByteArray).size = 1 := rfl
  have e1 : (⟨#[97, 112, 112, 101, 110, 100, 32]⟩ : ByteArray).size = 7 := rfl
  have z1 : (⟨#[97, 112, 112, 101, 110, 100, 32]⟩ : ByteArray).size + p.size ≤ 9223372036854775807 := by omega
  have z1b : 7 + p.size ≤ 9223372036854775807 := by omega
  obtain ⟨s1, Hs1⟩ : ∃ s1, Hid (s1 = (⟨#[97, 112, 112, 101, 110, 100, 32]⟩ : ByteArray) ++ p) := ⟨_, rfl⟩
  have hs1 : s1.size ≤ 4000 := by rw [Hs1.out, ByteArray.size_append]; omega
  have z2 : s1.size + (⟨#[32]⟩ : ByteArray).size ≤ 9223372036854775807 := by omega
  have z3 : (s1 ++ ⟨#[32]⟩).size + qd.size ≤ 9223372036854775807 := by rw [ByteArray.size_append]; omega
  have z2b : s1.size + 1 ≤ 9223372036854775807 := by omega
  have z3b : s1.size + 1 + qd.size ≤ 9223372036854775807 := by omega
  have HT : Hid ((s1 ++ ⟨#[32]⟩) ++ qd = J [⟨#[97, 112, 112, 101, 110, 100]⟩, p, (quoV d)]) := by
    show _ = _
    rw [Hs1.out, Hqd.out]
    rw [J_word ⟨#[97, 112, 112, 101, 110, 100]⟩ ⟨#[97, 112, 112, 101, 110, 100, 32]⟩ (by rfl) p]
    exact J_more _ _ _
  have hQ := fun W => specQuote_calls W d (by omega)
  rw [← Hqd.out] at hQ
  go_enter Tryz.func6, Tryz.ntmps6
  go_upto_region 3 with fail
  generalize (((w.alloc (.cells #[.int .i64 8, .string p, .string ⟨#[]⟩, .int .i64 0, .int .i64 0, .int .i64 0, .string d] 29)).alloc (.cells #[.string ⟨#[115, 121, 110, 99]⟩, .string ⟨#[99, 104, 101, 99, 107, 112, 111, 105, 110, 116]⟩, .string ⟨#[115, 112, 97, 99, 101]⟩, .string ⟨#[108, 111, 103]⟩] 9)).alloc (.cells #[.string ⟨#[99, 114, 101, 97, 116, 101]⟩, .string ⟨#[109, 107, 100, 105, 114]⟩, .string ⟨#[117, 110, 108, 105, 110, 107]⟩, .string ⟨#[114, 109, 100, 105, 114]⟩] 9)) = W3 at *
  obtain ⟨⟨y0, y1, y2, y3, y4, y5, y6⟩, _⟩ := sevenC hBx
  clear cB hBx
  go_wp2_with fail
  refine held_region (fun W' => Chg 0 0 W3 W') hmx ?_
  have hSd : Chg 0 0 W3 W3.drew := Chg.drew (Chg.refl 0 0 W3)
  generalize W3.drew = wd at *
  refine held_take 0 (.pointer (some ⟨w.heap.size, 1, none⟩)) rfl (by kernel_rfl) (by kernel_rfl) (by kernel_rfl) (fun _ _ _ h => h) (.inl ⟨by kernel_rfl, fun w' (hw' : Chg 0 0 W3 w') => by go_simp⟩) hSd ?_
  go_simp
  refine held_take 1 (.string p) rfl (by kernel_rfl) (by kernel_rfl) (by kernel_rfl) (fun _ _ _ h => h) (.inl ⟨by kernel_rfl, fun w' (hw' : Chg 0 0 W3 w') => by have kk := hw'.cell y1 (by omega); go_simp⟩) hSd ?_
  go_simp
  refine held_take 2 (.string s1) rfl (by kernel_rfl) (by kernel_rfl) (by kernel_rfl) (fun _ _ _ h => h) (.inl ⟨by kernel_rfl, fun w' (hw' : Chg 0 0 W3 w') => by rw [Hs1.out]; go_simp⟩) hSd ?_
  go_simp
  refine held_take 3 (.string (s1 ++ ⟨#[32]⟩)) rfl (by kernel_rfl) (by kernel_rfl) (by kernel_rfl) (fun _ _ _ h => h) (.inl ⟨by kernel_rfl, fun w' (hw' : Chg 0 0 W3 w') => by go_simp⟩) hSd ?_
  go_simp
  refine held_take 4 (.pointer (some ⟨w.heap.size, 6, none⟩)) rfl (by kernel_rfl) (by kernel_rfl) (by kernel_rfl) (fun _ _ _ h => h) (.inl ⟨by kernel_rfl, fun w' (hw' : Chg 0 0 W3 w') => by go_simp⟩) hSd ?_
  go_simp
  refine held_take 5 (.string d) rfl (by kernel_rfl) (by kernel_rfl) (by kernel_rfl) (fun _ _ _ h => h) (.inl ⟨by kernel_rfl, fun w' (hw' : Chg 0 0 W3 w') => by have kk := hw'.cell y6 (by omega); go_simp⟩) hSd ?_
  go_simp
  refine held_one 6 rfl rfl (by kernel_rfl) ?_
  refine wp_enter 16 #[.string d] (by first | kernel_rfl | go_simp) (hQ _) ?_
  rintro e wf ⟨rfl, cf⟩
  replace hSd := hSd.trans cf
  refine ⟨_, rfl, hSd, ?_⟩
  go_simp
  refine held_take 7 (.string ((s1 ++ ⟨#[32]⟩) ++ qd)) rfl (by kernel_rfl) (by kernel_rfl) (by kernel_rfl) (fun _ _ _ h => h) (.inl ⟨by kernel_rfl, fun w' (hw' : Chg 0 0 W3 w') => by go_simp⟩) hSd ?_
  go_simp
  refine held_one 8 rfl rfl (by kernel_rfl) ?_
  have HC5 : Hid (Chg 0 0 w wf) := cA.trans hSd
  go_simp
  refine ⟨by kernel_rfl, NoPanic.normal ?_⟩
  go_wp2
  go_ret
  refine ⟨?_, HC5.out⟩
  show Ending.returned (Value.string ((s1 ++ ⟨#[32]⟩) ++ qd)) = _
  rw [HT.out]

set_option maxRecDepth 20000 in
set_option maxHeartbeats 4000000 in
theorem line_write (w : World) (p : ByteArray) (_hp : Fld p) (hps : p.size ≤ 3000) (o : Int) (ho : -1000000000 < o) (hos : o < 1000000000) (d : ByteArray) (hds : d.size ≤ 3000) : Calls Tryz.prog 6 #[.agg #[.int .i64 6, .string p, .string ⟨#[]⟩, .int .i64 0, .int .i64 o, .int .i64 0, .string d]] w fun e w' => e = .returned (.string (J [⟨#[119, 114, 105, 116, 101]⟩, p, (dec o), (quoV d)])) ∧ Chg 0 0 w w' := by
  have cA : Chg 0 0 w (((w.alloc (.cells #[.int .i64 6, .string p, .string ⟨#[]⟩, .int .i64 0, .int .i64 o, .int .i64 0, .string d] 29)).alloc (.cells #[.string ⟨#[115, 121, 110, 99]⟩, .string ⟨#[99, 104, 101, 99, 107, 112, 111, 105, 110, 116]⟩, .string ⟨#[115, 112, 97, 99, 101]⟩, .string ⟨#[108, 111, 103]⟩] 9)).alloc (.cells #[.string ⟨#[99, 114, 101, 97, 116, 101]⟩, .string ⟨#[109, 107, 100, 105, 114]⟩, .string ⟨#[117, 110, 108, 105, 110, 107]⟩, .string ⟨#[114, 109, 100, 105, 114]⟩] 9)) := Chg.alloc (Chg.alloc (Chg.alloc (Chg.refl 0 0 w) _) _) _
  have cB : Chg 0 0 (w.alloc (.cells #[.int .i64 6, .string p, .string ⟨#[]⟩, .int .i64 0, .int .i64 o, .int .i64 0, .string d] 29)) (((w.alloc (.cells #[.int .i64 6, .string p, .string ⟨#[]⟩, .int .i64 0, .int .i64 o, .int .i64 0, .string d] 29)).alloc (.cells #[.string ⟨#[115, 121, 110, 99]⟩, .string ⟨#[99, 104, 101, 99, 107, 112, 111, 105, 110, 116]⟩, .string ⟨#[115, 112, 97, 99, 101]⟩, .string ⟨#[108, 111, 103]⟩] 9)).alloc (.cells #[.string ⟨#[99, 114, 101, 97, 116, 101]⟩, .string ⟨#[109, 107, 100, 105, 114]⟩, .string ⟨#[117, 110, 108, 105, 110, 107]⟩, .string ⟨#[114, 109, 100, 105, 114]⟩] 9)) := Chg.alloc (Chg.alloc (Chg.refl 0 0 _) _) _
  have hBx := (cB.block w.heap.size (by simp) (by omega)).trans (heap_new w (.cells #[.int .i64 6, .string p, .string ⟨#[]⟩, .int .i64 0, .int .i64 o, .int .i64 0, .string d] 29))
  have hmx : Tryz.prog.follows .mixedOrders = true := by kernel_rfl
  obtain ⟨qd, Hqd⟩ : ∃ qd, Hid (qd = quoV d) := ⟨_, rfl⟩
  have hq : qd.size ≤ 20000 := by rw [Hqd.out]; exact quoV_le hds
  have e2 : (⟨#[32]⟩ : ByteArray).size = 1 := rfl
  have e1 : (⟨#[119, 114, 105, 116, 101, 32]⟩ : ByteArray).size = 6 := rfl
  have z0 : (⟨#[119, 114, 105, 116, 101, 32]⟩ : ByteArray).size + p.size ≤ 9223372036854775807 := by omega
  have z0b : 6 + p.size ≤ 9223372036854775807 := by omega
  obtain ⟨wv, Hwv⟩ : ∃ x, Hid (x = (⟨#[119, 114, 105, 116, 101, 32]⟩ : ByteArray) ++ p) := ⟨_, rfl⟩
  have hws : wv.size ≤ 4000 := by rw [Hwv.out, ByteArray.size_append]; omega
  have hI : In64 [o] := by intro x hx; simp only [List.mem_cons, List.not_mem_nil, or_false] at hx; rcases hx with rfl <;> omega
  have hI2 : ∀ x ∈ [o], -9223372036854775807 ≤ x := by intro x hx; simp only [List.mem_cons, List.not_mem_nil, or_false] at hx; rcases hx with rfl <;> omega
  obtain ⟨s1, Hs1⟩ : ∃ s1, Hid (s1 = say wv [o]) := ⟨_, rfl⟩
  have hs1 : s1.size ≤ 5000 := by
    have := say_size wv [o] hI 1 (by simp)
    rw [Hs1.out]
    rw [show [o].take 1 = [o] from rfl] at this
    omega
  have z2 : s1.size + (⟨#[32]⟩ : ByteArray).size ≤ 9223372036854775807 := by omega
  have z3 : (s1 ++ ⟨#[32]⟩).size + qd.size ≤ 9223372036854775807 := by rw [ByteArray.size_append]; omega
  have z2b : s1.size + 1 ≤ 9223372036854775807 := by omega
  have z3b : s1.size + 1 + qd.size ≤ 9223372036854775807 := by omega
  have HT : Hid ((s1 ++ ⟨#[32]⟩) ++ qd = J [⟨#[119, 114, 105, 116, 101]⟩, p, (dec o), (quoV d)]) := by
    show _ = _
    rw [Hs1.out, Hqd.out]
    rw [Hwv.out, J_word ⟨#[119, 114, 105, 116, 101]⟩ ⟨#[119, 114, 105, 116, 101, 32]⟩ (by rfl) p, say_1]
    simp only [J, app_assoc]
  have hQ := fun W => specQuote_calls W d (by omega)
  rw [← Hqd.out] at hQ
  go_enter Tryz.func6, Tryz.ntmps6
  go_upto_region 3 with fail
  generalize (((w.alloc (.cells #[.int .i64 6, .string p, .string ⟨#[]⟩, .int .i64 0, .int .i64 o, .int .i64 0, .string d] 29)).alloc (.cells #[.string ⟨#[115, 121, 110, 99]⟩, .string ⟨#[99, 104, 101, 99, 107, 112, 111, 105, 110, 116]⟩, .string ⟨#[115, 112, 97, 99, 101]⟩, .string ⟨#[108, 111, 103]⟩] 9)).alloc (.cells #[.string ⟨#[99, 114, 101, 97, 116, 101]⟩, .string ⟨#[109, 107, 100, 105, 114]⟩, .string ⟨#[117, 110, 108, 105, 110, 107]⟩, .string ⟨#[114, 109, 100, 105, 114]⟩] 9)) = W3 at *
  obtain ⟨⟨y0, y1, y2, y3, y4, y5, y6⟩, _⟩ := sevenC hBx
  clear cB hBx
  go_wp2_with fail
  refine held_region (fun W' => Chg 0 0 W3 W') hmx ?_
  have hSd : Chg 0 0 W3 W3.drew := Chg.drew (Chg.refl 0 0 W3)
  generalize W3.drew = wd at *
  refine held_take 0 (.pointer (some ⟨w.heap.size, 1, none⟩)) rfl (by kernel_rfl) (by kernel_rfl) (by kernel_rfl) (fun _ _ _ h => h) (.inl ⟨by kernel_rfl, fun w' (hw' : Chg 0 0 W3 w') => by go_simp⟩) hSd ?_
  go_simp
  refine held_take 1 (.string p) rfl (by kernel_rfl) (by kernel_rfl) (by kernel_rfl) (fun _ _ _ h => h) (.inl ⟨by kernel_rfl, fun w' (hw' : Chg 0 0 W3 w') => by have kk := hw'.cell y1 (by omega); go_simp⟩) hSd ?_
  go_simp
  refine held_take 2 (.string wv) rfl (by kernel_rfl) (by kernel_rfl) (by kernel_rfl) (fun _ _ _ h => h) (.inl ⟨by kernel_rfl, fun w' (hw' : Chg 0 0 W3 w') => by rw [Hwv.out]; go_simp⟩) hSd ?_
  go_simp
  refine held_take 3 (.pointer (some ⟨w.heap.size, 4, none⟩)) rfl (by kernel_rfl) (by kernel_rfl) (by kernel_rfl) (fun _ _ _ h => h) (.inl ⟨by kernel_rfl, fun w' (hw' : Chg 0 0 W3 w') => by go_simp⟩) hSd ?_
  go_simp
  refine held_take 4 (.int .i64 o) rfl (by kernel_rfl) (by kernel_rfl) (by kernel_rfl) (fun _ _ _ h => h) (.inl ⟨by kernel_rfl, fun w' (hw' : Chg 0 0 W3 w') => by have kk := hw'.cell y4 (by omega); go_simp⟩) hSd ?_
  go_simp
  refine held_take 8 (.pointer (some ⟨w.heap.size, 6, none⟩)) rfl (by kernel_rfl) (by kernel_rfl) (by kernel_rfl) (fun _ _ _ h => h) (.inl ⟨by kernel_rfl, fun w' (hw' : Chg 0 0 W3 w') => by go_simp⟩) hSd ?_
  go_simp
  refine held_take 9 (.string d) rfl (by kernel_rfl) (by kernel_rfl) (by kernel_rfl) (fun _ _ _ h => h) (.inl ⟨by kernel_rfl, fun w' (hw' : Chg 0 0 W3 w') => by have kk := hw'.cell y6 (by omega); go_simp⟩) hSd ?_
  go_simp
  refine held_one 5 rfl rfl (by kernel_rfl) ?_
  have hS := lwSay_calls (wd.alloc (.cells #[.int .i64 o] 2)) wv [o] (by simp) hws hI hI2 (view_i1 wd o)
  rw [← Hs1.out] at hS
  have hSe : Chg 0 0 W3 (wd.alloc (.cells #[.int .i64 o] 2)) := hSd.alloc _
  clear hSd
  have hSd := hSe
  clear hSe
  go_simp
  refine held_one 6 rfl rfl (by kernel_rfl) ?_
  refine wp_enter 9 #[.string wv, .slice (some ⟨wd.heap.size, 0, none⟩) 1 1] (by first | kernel_rfl | go_simp) hS ?_
  rintro e we ⟨rfl, ce⟩
  replace hSd := hSd.trans ce
  refine ⟨_, rfl, hSd, ?_⟩
  go_simp
  refine held_take 7 (.string (s1 ++ ⟨#[32]⟩)) rfl (by kernel_rfl) (by kernel_rfl) (by kernel_rfl) (fun _ _ _ h => h) (.inl ⟨by kernel_rfl, fun w' (hw' : Chg 0 0 W3 w') => by go_simp⟩) hSd ?_
  go_simp
  refine held_one 10 rfl rfl (by kernel_rfl) ?_
  refine wp_enter 16 #[.string d] (by first | kernel_rfl | go_simp) (hQ _) ?_
  rintro e wf ⟨rfl, cf⟩
  replace hSd := hSd.trans cf
  refine ⟨_, rfl, hSd, ?_⟩
  go_simp
  refine held_take 11 (.string ((s1 ++ ⟨#[32]⟩) ++ qd)) rfl (by kernel_rfl) (by kernel_rfl) (by kernel_rfl) (fun _ _ _ h => h) (.inl ⟨by kernel_rfl, fun w' (hw' : Chg 0 0 W3 w') => by go_simp⟩) hSd ?_
  go_simp
  refine held_one 12 rfl rfl (by kernel_rfl) ?_
  have HC5 : Hid (Chg 0 0 w wf) := cA.trans hSd
  go_simp
  refine ⟨by kernel_rfl, NoPanic.normal ?_⟩
  go_wp2
  go_ret
  refine ⟨?_, HC5.out⟩
  show Ending.returned (Value.string ((s1 ++ ⟨#[32]⟩) ++ qd)) = _
  rw [HT.out]

set_option maxRecDepth 20000 in
set_option maxHeartbeats 4000000 in
theorem line_pwrite (w : World) (h : Int) (hh : -1000000000 < h) (hhs : h < 1000000000) (o : Int) (ho : -1000000000 < o) (hos : o < 1000000000) (d : ByteArray) (hds : d.size ≤ 3000) : Calls Tryz.prog 6 #[.agg #[.int .i64 11, .string ⟨#[]⟩, .string ⟨#[]⟩, .int .i64 h, .int .i64 o, .int .i64 0, .string d]] w fun e w' => e = .returned (.string (J [⟨#[112, 119, 114, 105, 116, 101]⟩, (dec h), (dec o), (quoV d)])) ∧ Chg 0 0 w w' := by
  have cA : Chg 0 0 w (((w.alloc (.cells #[.int .i64 11, .string ⟨#[]⟩, .string ⟨#[]⟩, .int .i64 h, .int .i64 o, .int .i64 0, .string d] 29)).alloc (.cells #[.string ⟨#[115, 121, 110, 99]⟩, .string ⟨#[99, 104, 101, 99, 107, 112, 111, 105, 110, 116]⟩, .string ⟨#[115, 112, 97, 99, 101]⟩, .string ⟨#[108, 111, 103]⟩] 9)).alloc (.cells #[.string ⟨#[99, 114, 101, 97, 116, 101]⟩, .string ⟨#[109, 107, 100, 105, 114]⟩, .string ⟨#[117, 110, 108, 105, 110, 107]⟩, .string ⟨#[114, 109, 100, 105, 114]⟩] 9)) := Chg.alloc (Chg.alloc (Chg.alloc (Chg.refl 0 0 w) _) _) _
  have cB : Chg 0 0 (w.alloc (.cells #[.int .i64 11, .string ⟨#[]⟩, .string ⟨#[]⟩, .int .i64 h, .int .i64 o, .int .i64 0, .string d] 29)) (((w.alloc (.cells #[.int .i64 11, .string ⟨#[]⟩, .string ⟨#[]⟩, .int .i64 h, .int .i64 o, .int .i64 0, .string d] 29)).alloc (.cells #[.string ⟨#[115, 121, 110, 99]⟩, .string ⟨#[99, 104, 101, 99, 107, 112, 111, 105, 110, 116]⟩, .string ⟨#[115, 112, 97, 99, 101]⟩, .string ⟨#[108, 111, 103]⟩] 9)).alloc (.cells #[.string ⟨#[99, 114, 101, 97, 116, 101]⟩, .string ⟨#[109, 107, 100, 105, 114]⟩, .string ⟨#[117, 110, 108, 105, 110, 107]⟩, .string ⟨#[114, 109, 100, 105, 114]⟩] 9)) := Chg.alloc (Chg.alloc (Chg.refl 0 0 _) _) _
  have hBx := (cB.block w.heap.size (by simp) (by omega)).trans (heap_new w (.cells #[.int .i64 11, .string ⟨#[]⟩, .string ⟨#[]⟩, .int .i64 h, .int .i64 o, .int .i64 0, .string d] 29))
  have hmx : Tryz.prog.follows .mixedOrders = true := by kernel_rfl
  obtain ⟨qd, Hqd⟩ : ∃ qd, Hid (qd = quoV d) := ⟨_, rfl⟩
  have hq : qd.size ≤ 20000 := by rw [Hqd.out]; exact quoV_le hds
  have e2 : (⟨#[32]⟩ : ByteArray).size = 1 := rfl
  have hws : (⟨#[112, 119, 114, 105, 116, 101]⟩ : ByteArray).size ≤ 4000 := by decide
  have hI : In64 [h, o] := by intro x hx; simp only [List.mem_cons, List.not_mem_nil, or_false] at hx; rcases hx with rfl | rfl <;> omega
  have hI2 : ∀ x ∈ [h, o], -9223372036854775807 ≤ x := by intro x hx; simp only [List.mem_cons, List.not_mem_nil, or_false] at hx; rcases hx with rfl | rfl <;> omega
  obtain ⟨s1, Hs1⟩ : ∃ s1, Hid (s1 = say ⟨#[112, 119, 114, 105, 116, 101]⟩ [h, o]) := ⟨_, rfl⟩
  have hs1 : s1.size ≤ 5000 := by
    have := say_size ⟨#[112, 119, 114, 105, 116, 101]⟩ [h, o] hI 2 (by simp)
    rw [Hs1.out]
    rw [show [h, o].take 2 = [h, o] from rfl] at this
    omega
  have z2 : s1.size + (⟨#[32]⟩ : ByteArray).size ≤ 9223372036854775807 := by omega
  have z3 : (s1 ++ ⟨#[32]⟩).size + qd.size ≤ 9223372036854775807 := by rw [ByteArray.size_append]; omega
  have z2b : s1.size + 1 ≤ 9223372036854775807 := by omega
  have z3b : s1.size + 1 + qd.size ≤ 9223372036854775807 := by omega
  have HT : Hid ((s1 ++ ⟨#[32]⟩) ++ qd = J [⟨#[112, 119, 114, 105, 116, 101]⟩, (dec h), (dec o), (quoV d)]) := by
    show _ = _
    rw [Hs1.out, Hqd.out]
    rw [say_2]
    simp only [J, app_assoc]
  have hQ := fun W => specQuote_calls W d (by omega)
  rw [← Hqd.out] at hQ
  go_enter Tryz.func6, Tryz.ntmps6
  go_upto_region 3 with fail
  generalize (((w.alloc (.cells #[.int .i64 11, .string ⟨#[]⟩, .string ⟨#[]⟩, .int .i64 h, .int .i64 o, .int .i64 0, .string d] 29)).alloc (.cells #[.string ⟨#[115, 121, 110, 99]⟩, .string ⟨#[99, 104, 101, 99, 107, 112, 111, 105, 110, 116]⟩, .string ⟨#[115, 112, 97, 99, 101]⟩, .string ⟨#[108, 111, 103]⟩] 9)).alloc (.cells #[.string ⟨#[99, 114, 101, 97, 116, 101]⟩, .string ⟨#[109, 107, 100, 105, 114]⟩, .string ⟨#[117, 110, 108, 105, 110, 107]⟩, .string ⟨#[114, 109, 100, 105, 114]⟩] 9)) = W3 at *
  obtain ⟨⟨y0, y1, y2, y3, y4, y5, y6⟩, _⟩ := sevenC hBx
  clear cB hBx
  go_wp2_with fail
  refine held_region (fun W' => Chg 0 0 W3 W') hmx ?_
  have hSd : Chg 0 0 W3 W3.drew := Chg.drew (Chg.refl 0 0 W3)
  generalize W3.drew = wd at *
  refine held_take 0 (.pointer (some ⟨w.heap.size, 3, none⟩)) rfl (by kernel_rfl) (by kernel_rfl) (by kernel_rfl) (fun _ _ _ h => h) (.inl ⟨by kernel_rfl, fun w' (hw' : Chg 0 0 W3 w') => by go_simp⟩) hSd ?_
  go_simp
  refine held_take 1 (.int .i64 h) rfl (by kernel_rfl) (by kernel_rfl) (by kernel_rfl) (fun _ _ _ h => h) (.inl ⟨by kernel_rfl, fun w' (hw' : Chg 0 0 W3 w') => by have kk := hw'.cell y3 (by omega); go_simp⟩) hSd ?_
  go_simp
  refine held_take 2 (.pointer (some ⟨w.heap.size, 4, none⟩)) rfl (by kernel_rfl) (by kernel_rfl) (by kernel_rfl) (fun _ _ _ h => h) (.inl ⟨by kernel_rfl, fun w' (hw' : Chg 0 0 W3 w') => by go_simp⟩) hSd ?_
  go_simp
  refine held_take 3 (.int .i64 o) rfl (by kernel_rfl) (by kernel_rfl) (by kernel_rfl) (fun _ _ _ h => h) (.inl ⟨by kernel_rfl, fun w' (hw' : Chg 0 0 W3 w') => by have kk := hw'.cell y4 (by omega); go_simp⟩) hSd ?_
  go_simp
  refine held_take 7 (.pointer (some ⟨w.heap.size, 6, none⟩)) rfl (by kernel_rfl) (by kernel_rfl) (by kernel_rfl) (fun _ _ _ h => h) (.inl ⟨by kernel_rfl, fun w' (hw' : Chg 0 0 W3 w') => by go_simp⟩) hSd ?_
  go_simp
  refine held_take 8 (.string d) rfl (by kernel_rfl) (by kernel_rfl) (by kernel_rfl) (fun _ _ _ h => h) (.inl ⟨by kernel_rfl, fun w' (hw' : Chg 0 0 W3 w') => by have kk := hw'.cell y6 (by omega); go_simp⟩) hSd ?_
  go_simp
  refine held_one 4 rfl rfl (by kernel_rfl) ?_
  have hS := lwSay_calls (wd.alloc (.cells #[.int .i64 h, .int .i64 o] 2)) ⟨#[112, 119, 114, 105, 116, 101]⟩ [h, o] (by simp) hws hI hI2 (view_i2 wd h o)
  rw [← Hs1.out] at hS
  have hSe : Chg 0 0 W3 (wd.alloc (.cells #[.int .i64 h, .int .i64 o] 2)) := hSd.alloc _
  clear hSd
  have hSd := hSe
  clear hSe
  go_simp
  refine held_one 5 rfl rfl (by kernel_rfl) ?_
  refine wp_enter 9 #[.string ⟨#[112, 119, 114, 105, 116, 101]⟩, .slice (some ⟨wd.heap.size, 0, none⟩) 2 2] (by first | kernel_rfl | go_simp) hS ?_
  rintro e we ⟨rfl, ce⟩
  replace hSd := hSd.trans ce
  refine ⟨_, rfl, hSd, ?_⟩
  go_simp
  refine held_take 6 (.string (s1 ++ ⟨#[32]⟩)) rfl (by kernel_rfl) (by kernel_rfl) (by kernel_rfl) (fun _ _ _ h => h) (.inl ⟨by kernel_rfl, fun w' (hw' : Chg 0 0 W3 w') => by go_simp⟩) hSd ?_
  go_simp
  refine held_one 9 rfl rfl (by kernel_rfl) ?_
  refine wp_enter 16 #[.string d] (by first | kernel_rfl | go_simp) (hQ _) ?_
  rintro e wf ⟨rfl, cf⟩
  replace hSd := hSd.trans cf
  refine ⟨_, rfl, hSd, ?_⟩
  go_simp
  refine held_take 10 (.string ((s1 ++ ⟨#[32]⟩) ++ qd)) rfl (by kernel_rfl) (by kernel_rfl) (by kernel_rfl) (fun _ _ _ h => h) (.inl ⟨by kernel_rfl, fun w' (hw' : Chg 0 0 W3 w') => by go_simp⟩) hSd ?_
  go_simp
  refine held_one 11 rfl rfl (by kernel_rfl) ?_
  have HC5 : Hid (Chg 0 0 w wf) := cA.trans hSd
  go_simp
  refine ⟨by kernel_rfl, NoPanic.normal ?_⟩
  go_wp2
  go_ret
  refine ⟨?_, HC5.out⟩
  show Ending.returned (Value.string ((s1 ++ ⟨#[32]⟩) ++ qd)) = _
  rw [HT.out]

theorem lwLine_calls (w : World) {d : Lst} {F : List ByteArray} (h : GoodC d F) : Calls Tryz.prog 6 #[.agg (cA d)] w fun e w' => e = .returned (.string (J F)) ∧ Chg 0 0 w w' := by
  refine GoodC.el (P := fun d F => Calls Tryz.prog 6 #[.agg (cA d)] w fun e w' => e = .returned (.string (J F)) ∧ Chg 0 0 w w') h ?sync' ?checkpoint' ?space' ?log' ?create' ?mkdir' ?unlink' ?rmdir' ?open' ?stat' ?lstat' ?list' ?readlink' ?rename' ?link' ?symlink' ?append' ?write' ?trunc' ?read' ?close' ?fstat' ?ftrunc' ?pread' ?pwrite'
  case sync' => exact line_sync w 
  case checkpoint' => exact line_checkpoint w 
  case space' => exact line_space w 
  case log' => exact line_log w 
  case create' => intro p hp hps; exact line_create w p hp hps
  case mkdir' => intro p hp hps; exact line_mkdir w p hp hps
  case unlink' => intro p hp hps; exact line_unlink w p hp hps
  case rmdir' => intro p hp hps; exact line_rmdir w p hp hps
  case open' => intro p hp hps; exact line_open w p hp hps
  case stat' => intro p hp hps; exact line_stat w p hp hps
  case lstat' => intro p hp hps; exact line_lstat w p hp hps
  case list' => intro p hp hps; exact line_list w p hp hps
  case readlink' => intro p hp hps; exact line_readlink w p hp hps
  case rename' => intro p hp hps t ht hts; exact line_rename w p hp hps t ht hts
  case link' => intro p hp hps t ht hts; exact line_link w p hp hps t ht hts
  case symlink' => intro p hp hps t ht hts; exact line_symlink w p hp hps t ht hts
  case append' => intro p hp hps d hds; exact line_append w p hp hps d hds
  case write' => intro p hp hps o ho hos d hds; exact line_write w p hp hps o ho hos d hds
  case trunc' => intro p hp hps z hz hzs; exact line_trunc w p hp hps z hz hzs
  case read' => intro p hp hps o ho hos z hz hzs; exact line_read w p hp hps o ho hos z hz hzs
  case close' => intro h hh hhs; exact line_close w h hh hhs
  case fstat' => intro h hh hhs; exact line_fstat w h hh hhs
  case ftrunc' => intro h hh hhs z hz hzs; exact line_ftrunc w h hh hhs z hz hzs
  case pread' => intro h hh hhs o ho hos z hz hzs; exact line_pread w h hh hhs o ho hos z hz hzs
  case pwrite' => intro h hh hhs o ho hos d hds; exact line_pwrite w h hh hhs o ho hos d hds

end Go.Proofs.YtacfkgfemmgpkaaGreatDoor
