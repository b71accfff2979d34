/- The law on ParseLine: its walk. (made by tools/mklawparse.py) -/
import Derived.Test.YteaeikmgkmpkiaaGreatDoorLineF
import Derived.Test.YteaeikmgkmpkiaaGreatDoorLineEq
import Derived.Test.YteaeikmgkmpkiaaGreatDoorSpecParse
import Derived.Test.YteaeikmgkmpkiaaGreatDoorOpenB
namespace Go.Proofs.YteaeikmgkmpkiaaGreatDoor
open Go.ChangeShapes Go.WideShapes Go.ChangeAt Go.RowKit

theorem line_eq (s : ByteArray) : modelOf s = lineOf s := by
  unfold modelOf lineOf
  rw [fields_eq _ (by rw [cutD_len]; omega)]
theorem crashF_nums {F : List ByteArray} {s : Lst} (h : crashF F = some s) : s.nums.length ≤ 601 := by
  unfold crashF at h
  split at h
  · rename_i hc; injection h with h; subst h; exact Nat.le_trans hc.2 (by omega)
  · cases h
theorem armF_nums {F : List ByteArray} {s : Lst} (h : armF F = some s) : s.nums.length ≤ 601 := by
  unfold armF at h
  split at h
  · rename_i hc; injection h with h; subst h; exact hc.2.2.1
  · cases h
theorem modelF_nums {F : List ByteArray} {s : Lst} (h : modelF F = some s) : s.nums.length ≤ 601 := by
  unfold modelF at h
  split at h
  · cases h
  split at h
  · injection h with h; subst h; exact Nat.zero_le _
  split at h
  · injection h with h; subst h; exact Nat.zero_le _
  split at h
  · injection h with h; subst h; exact Nat.zero_le _
  split at h
  · injection h with h; subst h; exact Nat.zero_le _
  split at h
  · injection h with h; subst h; exact Nat.zero_le _
  split at h
  · exact crashF_nums h
  split at h
  · exact armF_nums h
  unfold restF at h
  cases hl : longF F with
  | some s' => rw [hl] at h; injection h with h; subst h; rw [(longF_line hl).2]; exact Nat.zero_le _
  | none => rw [hl] at h; rw [(hanF_line h).2]; exact Nat.zero_le _
theorem line_nums (s : ByteArray) : ((lineOf s).getD zeroL).nums.length ≤ 601 := by
  cases h : lineOf s with
  | none => exact Nat.zero_le _
  | some x =>
    unfold lineOf at h
    split at h
    · cases h
    rw [fields_eq _ (by rw [cutD_len]; omega)] at h
    exact modelF_nums h
theorem Blank.chg {w w' : World} (h : Blank w) (c : Chg 0 0 w w') : Blank w' := by
  obtain ⟨m, h⟩ := h
  exact ⟨m, c.cell h (by omega)⟩
theorem OwnN.seen {w : World} {base : Nat} {v : Value} {xs : List Int} (h : OwnN w base v xs) (hl : xs.length ≤ 1048576) : View w base w.heap.size .i64 v xs := by
  have hi : OwnI w base 2 v xs := h
  exact FView.ints (hi.flat.view (by omega) (fun g hg => (hi.flat.lt g hg).2))
theorem OwnN.sl {w : World} {base : Nat} {v : Value} {xs : List Int} (h : OwnN w base v xs) : ∃ a c, v = .slice a xs.length c := by
  unfold OwnN at h
  rcases h.2 with ⟨rfl, h0⟩ | ⟨g, cap, cur, rfl, _⟩
  · rw [h0]; exact ⟨_, _, rfl⟩
  · exact ⟨_, _, rfl⟩

set_option maxRecDepth 20000 in
set_option maxHeartbeats 4000000 in
theorem lawParseLine_walk (w : World) {hi : Nat} {a : Value} {xs : List Int} (h1 : View w 0 hi .u8 a xs) (hS : SynE w) (hR : RanE w) (hP : Pow w) (hBl : Blank w) (hgb : 8 ≤ w.heap.size) :
    Calls Tryz.prog 3 #[a] w fun e w' => e = .returned (.bool true) ∧ Below w.heap.size w w' := by
  have V0 : Hid (View w 0 hi .u8 a xs) := h1
  obtain ⟨ao, cap, rfl, hl0, _, _⟩ := h1
  by_cases hl : xs.length ≤ 1048576
  case neg =>
    go_enter Tryz.func3, Tryz.ntmps3
    go_wp2
    go_ret
    exact ⟨rfl, (Chg.refl 0 0 w).below (by omega)⟩
  have hle := line_nums (strOfNums xs)
  have HS : Hid (∀ (W : World) (lo hi : Nat) (a : Value), View W lo hi .u8 a xs → Calls Tryz.prog 4 #[a] W fun e w' => ∃ v, e = .returned (lineV ((lineOf (strOfNums xs)).getD zeroL) v) ∧ OwnN w' W.heap.size v ((lineOf (strOfNums xs)).getD zeroL).nums ∧ Chg 0 0 W w') := fun W lo hi a h => by
    rw [← line_eq]
    exact specParseLine_calls W a _ xs h rfl hl
  have HI : Hid (∀ (W : World) (lo hi : Nat) (a : Value), Chg 0 0 w W → View W lo hi .u8 a xs → Calls Tryz.prog 6 #[a] W fun e w' => ∃ v, e = .returned (lineV ((lineOf (strOfNums xs)).getD zeroL) v) ∧ OwnN w' W.heap.size v ((lineOf (strOfNums xs)).getD zeroL).nums ∧ Chg 0 0 W w') := fun W lo hi a c h => implParseLine_calls W a _ xs h rfl hl (synE_chg hS c) (hR.chg c) (hP.chg c) (hBl.chg c) (Nat.le_trans hgb c.size)
  generalize (lineOf (strOfNums xs)).getD zeroL = st at *
  have HSv : Hid (∀ v, lineV st v = .agg #[.int .i64 st.kind, .int .i64 st.ck, .string st.path, .string st.to', .int .i64 st.han, .int .i64 st.off, .int .i64 st.siz, .string st.data, v]) := fun v => rfl
  simp only [HSv.out] at HS HI
  clear hS hR hP hBl HSv
  have HA0 : Hid (Chg 0 0 w w) := Chg.refl 0 0 w
  go_enter Tryz.func3, Tryz.ntmps3
  go_wp2_with fail
  refine (toByteS_calls _ hl (V0.out.chg HA0.out (by omega))).mono ?_
  rintro e w1 ⟨g1, rfl, og1, h1⟩
  have HA1 : Hid (Chg 0 0 w w1) := HA0.out.trans h1
  have s1 := h1.size
  have VX1 : Hid (View w1 w.heap.size w1.heap.size .u8 (.slice (some ⟨g1, 0, none⟩) xs.length xs.length) xs) := og1.seen (by omega)
  clear og1
  clear h1 HA0
  go_wp2_with fail
  refine (HS.out _ _ _ _ VX1.out).mono ?_
  rintro e w2 ⟨vs, rfl, os, h2⟩
  have HA2 : Hid (Chg 0 0 w w2) := HA1.out.trans h2
  have s2 := h2.size
  have VS2 : Hid (View w2 w1.heap.size w2.heap.size .i64 vs st.nums) := os.seen (by omega)
  obtain ⟨sa, sc, rfl⟩ := os.sl
  clear os
  clear h2 HA1 VX1
  have Ca : Chg 0 0 w2 (w2.alloc (.cells #[.int .i64 st.kind, .int .i64 st.ck, .string st.path, .string st.to', .int .i64 st.han, .int .i64 st.off, .int .i64 st.siz, .string st.data, .slice sa st.nums.length sc] 27)) := Chg.alloc (Chg.refl 0 0 w2) _
  have sw2a : (w2.alloc (.cells #[.int .i64 st.kind, .int .i64 st.ck, .string st.path, .string st.to', .int .i64 st.han, .int .i64 st.off, .int .i64 st.siz, .string st.data, .slice sa st.nums.length sc] 27)).heap.size = w2.heap.size + 1 := by simp
  have HA2a : Hid (Chg 0 0 w (w2.alloc (.cells #[.int .i64 st.kind, .int .i64 st.ck, .string st.path, .string st.to', .int .i64 st.han, .int .i64 st.off, .int .i64 st.siz, .string st.data, .slice sa st.nums.length sc] 27))) := HA2.out.trans Ca
  have HW2a : Hid ((w2.alloc (.cells #[.int .i64 st.kind, .int .i64 st.ck, .string st.path, .string st.to', .int .i64 st.han, .int .i64 st.off, .int .i64 st.siz, .string st.data, .slice sa st.nums.length sc] 27)).heap[w2.heap.size]? = some (.cells #[.int .i64 st.kind, .int .i64 st.ck, .string st.path, .string st.to', .int .i64 st.han, .int .i64 st.off, .int .i64 st.siz, .string st.data, .slice sa st.nums.length sc] 27 (0, 0))) := heap_new w2 _
  have VS2a : Hid (View (w2.alloc (.cells #[.int .i64 st.kind, .int .i64 st.ck, .string st.path, .string st.to', .int .i64 st.han, .int .i64 st.off, .int .i64 st.siz, .string st.data, .slice sa st.nums.length sc] 27)) w1.heap.size w2.heap.size .i64 (.slice sa st.nums.length sc) st.nums) := VS2.out.chg Ca (by omega)
  clear Ca HA2 VS2
  go_wp2_with fail
  generalize w2.alloc (.cells #[.int .i64 st.kind, .int .i64 st.ck, .string st.path, .string st.to', .int .i64 st.han, .int .i64 st.off, .int .i64 st.siz, .string st.data, .slice sa st.nums.length sc] 27) = w2a at *
  refine (toByteS_calls _ hl (V0.out.chg HA2a.out (by omega))).mono ?_
  rintro e w3 ⟨g3, rfl, og3, h3⟩
  have HA3 : Hid (Chg 0 0 w w3) := HA2a.out.trans h3
  have s3 := h3.size
  have HW3 : Hid (w3.heap[w2.heap.size]? = some (.cells #[.int .i64 st.kind, .int .i64 st.ck, .string st.path, .string st.to', .int .i64 st.han, .int .i64 st.off, .int .i64 st.siz, .string st.data, .slice sa st.nums.length sc] 27 (0, 0))) := (h3.block _ (by omega) (by omega)).trans HW2a.out
  have VS3 : Hid (View w3 w1.heap.size w2.heap.size .i64 (.slice sa st.nums.length sc) st.nums) := VS2a.out.chg h3 (by omega)
  have HX3 : Hid (OwnB w3 w2a.heap.size 5 (.slice (some ⟨g3, 0, none⟩) xs.length xs.length) xs) := og3
  have XB : Hid (∀ z, (Value.slice (some ⟨g3, 0, none⟩) xs.length xs.length).ownBlock = some z → w2a.heap.size ≤ z ∧ z < w3.heap.size) := fun z hz => og3.lt z hz
  have VY3 : Hid (View w3 w2a.heap.size w3.heap.size .u8 (.slice (some ⟨g3, 0, none⟩) xs.length xs.length) xs) := og3.seen (by omega)
  clear og3
  clear h3 HA2a HW2a VS2a
  go_wp2_with fail
  refine (HI.out _ _ _ _ HA3.out VY3.out).mono ?_
  rintro e w4 ⟨vg, rfl, og, h4⟩
  have HA4 : Hid (Chg 0 0 w w4) := HA3.out.trans h4
  have s4 := h4.size
  have HW4 : Hid (w4.heap[w2.heap.size]? = some (.cells #[.int .i64 st.kind, .int .i64 st.ck, .string st.path, .string st.to', .int .i64 st.han, .int .i64 st.off, .int .i64 st.siz, .string st.data, .slice sa st.nums.length sc] 27 (0, 0))) := (h4.block _ (by omega) (by omega)).trans HW3.out
  have VS4 : Hid (View w4 w1.heap.size w2.heap.size .i64 (.slice sa st.nums.length sc) st.nums) := VS3.out.chg h4 (by omega)
  have VY4 : Hid (View w4 w2a.heap.size w3.heap.size .u8 (.slice (some ⟨g3, 0, none⟩) xs.length xs.length) xs) := VY3.out.chg h4 (by omega)
  have HX4 : Hid (OwnB w4 w2a.heap.size 5 (.slice (some ⟨g3, 0, none⟩) xs.length xs.length) xs) := HX3.out.chg h4 (fun g hg => by have := (HX3.out.lt g hg); omega)
  have VG4 : Hid (View w4 w3.heap.size w4.heap.size .i64 vg st.nums) := og.seen (by omega)
  obtain ⟨ga, gc, rfl⟩ := og.sl
  have HG4 : Hid (OwnI w4 w3.heap.size 2 (.slice ga st.nums.length gc) st.nums) := og
  have GB : Hid (∀ z, (Value.slice ga st.nums.length gc).ownBlock = some z → w3.heap.size ≤ z ∧ z < w4.heap.size) := fun z hz => HG4.out.lt z hz
  clear og
  clear h4 HA3 HW3 VS3 VY3 HX3
  have Ca : Chg 0 0 w4 (w4.alloc (.cells #[.int .i64 st.kind, .int .i64 st.ck, .string st.path, .string st.to', .int .i64 st.han, .int .i64 st.off, .int .i64 st.siz, .string st.data, .slice ga st.nums.length gc] 27)) := Chg.alloc (Chg.refl 0 0 w4) _
  have sw4a : (w4.alloc (.cells #[.int .i64 st.kind, .int .i64 st.ck, .string st.path, .string st.to', .int .i64 st.han, .int .i64 st.off, .int .i64 st.siz, .string st.data, .slice ga st.nums.length gc] 27)).heap.size = w4.heap.size + 1 := by simp
  have HA4a : Hid (Chg 0 0 w (w4.alloc (.cells #[.int .i64 st.kind, .int .i64 st.ck, .string st.path, .string st.to', .int .i64 st.han, .int .i64 st.off, .int .i64 st.siz, .string st.data, .slice ga st.nums.length gc] 27))) := HA4.out.trans Ca
  have HQ4a : Hid ((w4.alloc (.cells #[.int .i64 st.kind, .int .i64 st.ck, .string st.path, .string st.to', .int .i64 st.han, .int .i64 st.off, .int .i64 st.siz, .string st.data, .slice ga st.nums.length gc] 27)).heap[w4.heap.size]? = some (.cells #[.int .i64 st.kind, .int .i64 st.ck, .string st.path, .string st.to', .int .i64 st.han, .int .i64 st.off, .int .i64 st.siz, .string st.data, .slice ga st.nums.length gc] 27 (0, 0))) := heap_new w4 _
  have HW4a : Hid ((w4.alloc (.cells #[.int .i64 st.kind, .int .i64 st.ck, .string st.path, .string st.to', .int .i64 st.han, .int .i64 st.off, .int .i64 st.siz, .string st.data, .slice ga st.nums.length gc] 27)).heap[w2.heap.size]? = some (.cells #[.int .i64 st.kind, .int .i64 st.ck, .string st.path, .string st.to', .int .i64 st.han, .int .i64 st.off, .int .i64 st.siz, .string st.data, .slice sa st.nums.length sc] 27 (0, 0))) := (Ca.block _ (by omega) (by omega)).trans HW4.out
  have VS4a : Hid (View (w4.alloc (.cells #[.int .i64 st.kind, .int .i64 st.ck, .string st.path, .string st.to', .int .i64 st.han, .int .i64 st.off, .int .i64 st.siz, .string st.data, .slice ga st.nums.length gc] 27)) w1.heap.size w2.heap.size .i64 (.slice sa st.nums.length sc) st.nums) := VS4.out.chg Ca (by omega)
  have VY4a : Hid (View (w4.alloc (.cells #[.int .i64 st.kind, .int .i64 st.ck, .string st.path, .string st.to', .int .i64 st.han, .int .i64 st.off, .int .i64 st.siz, .string st.data, .slice ga st.nums.length gc] 27)) w2a.heap.size w3.heap.size .u8 (.slice (some ⟨g3, 0, none⟩) xs.length xs.length) xs) := VY4.out.chg Ca (by omega)
  have VG4a : Hid (View (w4.alloc (.cells #[.int .i64 st.kind, .int .i64 st.ck, .string st.path, .string st.to', .int .i64 st.han, .int .i64 st.off, .int .i64 st.siz, .string st.data, .slice ga st.nums.length gc] 27)) w3.heap.size w4.heap.size .i64 (.slice ga st.nums.length gc) st.nums) := VG4.out.chg Ca (by omega)
  have HX4a : Hid (OwnB (w4.alloc (.cells #[.int .i64 st.kind, .int .i64 st.ck, .string st.path, .string st.to', .int .i64 st.han, .int .i64 st.off, .int .i64 st.siz, .string st.data, .slice ga st.nums.length gc] 27)) w2a.heap.size 5 (.slice (some ⟨g3, 0, none⟩) xs.length xs.length) xs) := HX4.out.chg Ca (by intro g _; omega)
  have HG4a : Hid (OwnI (w4.alloc (.cells #[.int .i64 st.kind, .int .i64 st.ck, .string st.path, .string st.to', .int .i64 st.han, .int .i64 st.off, .int .i64 st.siz, .string st.data, .slice ga st.nums.length gc] 27)) w3.heap.size 2 (.slice ga st.nums.length gc) st.nums) := HG4.out.chg Ca (by intro g _; omega)
  clear Ca HA4 HW4 VS4 VY4 VG4 HX4 HG4
  obtain ⟨⟨y0, y1, y2, y3, y4, y5, y6, y7, y8⟩, _⟩ := nine_all HQ4a.out
  obtain ⟨⟨y9, y10, y11, y12, y13, y14, y15, y16, y17⟩, _⟩ := nine_all HW4a.out
  go_wp2_with fail
  generalize w4.alloc (.cells #[.int .i64 st.kind, .int .i64 st.ck, .string st.path, .string st.to', .int .i64 st.han, .int .i64 st.off, .int .i64 st.siz, .string st.data, .slice ga st.nums.length gc] 27) = w4a at *
  clear y0 y1 y2 y3 y4 y5 y6 y7 y8 y9 y10 y11 y12 y13 y14 y15 y16 y17
  refine (eqLine_calls _ st ga sa gc sc VG4a.out VS4a.out).mono ?_
  rintro e w5 ⟨rfl, h5⟩
  have HA5 : Hid (Chg 0 0 w w5) := HA4a.out.trans h5
  have s5 := h5.size
  have HW5 : Hid (w5.heap[w2.heap.size]? = some (.cells #[.int .i64 st.kind, .int .i64 st.ck, .string st.path, .string st.to', .int .i64 st.han, .int .i64 st.off, .int .i64 st.siz, .string st.data, .slice sa st.nums.length sc] 27 (0, 0))) := (h5.block _ (by omega) (by omega)).trans HW4a.out
  have HQ5 : Hid (w5.heap[w4.heap.size]? = some (.cells #[.int .i64 st.kind, .int .i64 st.ck, .string st.path, .string st.to', .int .i64 st.han, .int .i64 st.off, .int .i64 st.siz, .string st.data, .slice ga st.nums.length gc] 27 (0, 0))) := (h5.block _ (by omega) (by omega)).trans HQ4a.out
  have VS5 : Hid (View w5 w1.heap.size w2.heap.size .i64 (.slice sa st.nums.length sc) st.nums) := VS4a.out.chg h5 (by omega)
  have VY5 : Hid (View w5 w2a.heap.size w3.heap.size .u8 (.slice (some ⟨g3, 0, none⟩) xs.length xs.length) xs) := VY4a.out.chg h5 (by omega)
  have VG5 : Hid (View w5 w3.heap.size w4.heap.size .i64 (.slice ga st.nums.length gc) st.nums) := VG4a.out.chg h5 (by omega)
  have HX5 : Hid (OwnB w5 w2a.heap.size 5 (.slice (some ⟨g3, 0, none⟩) xs.length xs.length) xs) := HX4a.out.chg h5 (fun g hg => by have := (HX4a.out.lt g hg); omega)
  have HG5 : Hid (OwnI w5 w3.heap.size 2 (.slice ga st.nums.length gc) st.nums) := HG4a.out.chg h5 (fun g hg => by have := (HG4a.out.lt g hg); omega)
  clear h5 HA4a HW4a HQ4a VS4a VY4a VG4a HX4a HG4a
  go_wp2_with fail
  refine (toByteS_calls _ hl (V0.out.chg HA5.out (by omega))).mono ?_
  rintro e w6 ⟨g6, rfl, og6, h6⟩
  have HA6 : Hid (Chg 0 0 w w6) := HA5.out.trans h6
  have s6 := h6.size
  have HW6 : Hid (w6.heap[w2.heap.size]? = some (.cells #[.int .i64 st.kind, .int .i64 st.ck, .string st.path, .string st.to', .int .i64 st.han, .int .i64 st.off, .int .i64 st.siz, .string st.data, .slice sa st.nums.length sc] 27 (0, 0))) := (h6.block _ (by omega) (by omega)).trans HW5.out
  have HQ6 : Hid (w6.heap[w4.heap.size]? = some (.cells #[.int .i64 st.kind, .int .i64 st.ck, .string st.path, .string st.to', .int .i64 st.han, .int .i64 st.off, .int .i64 st.siz, .string st.data, .slice ga st.nums.length gc] 27 (0, 0))) := (h6.block _ (by omega) (by omega)).trans HQ5.out
  have VS6 : Hid (View w6 w1.heap.size w2.heap.size .i64 (.slice sa st.nums.length sc) st.nums) := VS5.out.chg h6 (by omega)
  have VY6 : Hid (View w6 w2a.heap.size w3.heap.size .u8 (.slice (some ⟨g3, 0, none⟩) xs.length xs.length) xs) := VY5.out.chg h6 (by omega)
  have VG6 : Hid (View w6 w3.heap.size w4.heap.size .i64 (.slice ga st.nums.length gc) st.nums) := VG5.out.chg h6 (by omega)
  have HX6 : Hid (OwnB w6 w2a.heap.size 5 (.slice (some ⟨g3, 0, none⟩) xs.length xs.length) xs) := HX5.out.chg h6 (fun g hg => by have := (HX5.out.lt g hg); omega)
  have HG6 : Hid (OwnI w6 w3.heap.size 2 (.slice ga st.nums.length gc) st.nums) := HG5.out.chg h6 (fun g hg => by have := (HG5.out.lt g hg); omega)
  have VZ6 : Hid (View w6 w5.heap.size w6.heap.size .u8 (.slice (some ⟨g6, 0, none⟩) xs.length xs.length) xs) := og6.seen (by omega)
  clear og6
  clear h6 HA5 HW5 HQ5 VS5 VY5 VG5 HX5 HG5
  go_wp2_with fail
  refine (eqByteS_calls _ VY6.out VZ6.out).mono ?_
  rintro e w7 ⟨rfl, h7⟩
  have h7 := h7.chg 0 0
  have HA7 : Hid (Chg 0 0 w w7) := HA6.out.trans h7
  have s7 := h7.size
  have HW7 : Hid (w7.heap[w2.heap.size]? = some (.cells #[.int .i64 st.kind, .int .i64 st.ck, .string st.path, .string st.to', .int .i64 st.han, .int .i64 st.off, .int .i64 st.siz, .string st.data, .slice sa st.nums.length sc] 27 (0, 0))) := (h7.block _ (by omega) (by omega)).trans HW6.out
  have HQ7 : Hid (w7.heap[w4.heap.size]? = some (.cells #[.int .i64 st.kind, .int .i64 st.ck, .string st.path, .string st.to', .int .i64 st.han, .int .i64 st.off, .int .i64 st.siz, .string st.data, .slice ga st.nums.length gc] 27 (0, 0))) := (h7.block _ (by omega) (by omega)).trans HQ6.out
  have VS7 : Hid (View w7 w1.heap.size w2.heap.size .i64 (.slice sa st.nums.length sc) st.nums) := VS6.out.chg h7 (by omega)
  have VG7 : Hid (View w7 w3.heap.size w4.heap.size .i64 (.slice ga st.nums.length gc) st.nums) := VG6.out.chg h7 (by omega)
  have HX7 : Hid (OwnB w7 w2a.heap.size 5 (.slice (some ⟨g3, 0, none⟩) xs.length xs.length) xs) := HX6.out.chg h7 (fun g hg => by have := (HX6.out.lt g hg); omega)
  have HG7 : Hid (OwnI w7 w3.heap.size 2 (.slice ga st.nums.length gc) st.nums) := HG6.out.chg h7 (fun g hg => by have := (HG6.out.lt g hg); omega)
  clear h7 HA6 HW6 HQ6 VS6 VY6 VG6 VZ6 HX6 HG6
  go_wp2_with fail
  refine (markByteS_calls _ _ _ _ _ 1 w2a.heap.size w3.heap.size (by omega) (by omega) HX7.out XB.out).mono ?_
  rintro e w8 ⟨rfl, _, h8, _, _⟩
  have HA8 : Hid (Chg 0 0 w w8) := HA7.out.step h8 (by have := HA7.out.size; omega)
  have s8 := h8.size
  have HW8 : Hid (w8.heap[w2.heap.size]? = some (.cells #[.int .i64 st.kind, .int .i64 st.ck, .string st.path, .string st.to', .int .i64 st.han, .int .i64 st.off, .int .i64 st.siz, .string st.data, .slice sa st.nums.length sc] 27 (0, 0))) := (h8.block _ (by omega) (by omega)).trans HW7.out
  have HQ8 : Hid (w8.heap[w4.heap.size]? = some (.cells #[.int .i64 st.kind, .int .i64 st.ck, .string st.path, .string st.to', .int .i64 st.han, .int .i64 st.off, .int .i64 st.siz, .string st.data, .slice ga st.nums.length gc] 27 (0, 0))) := (h8.block _ (by omega) (by omega)).trans HQ7.out
  have VS8 : Hid (View w8 w1.heap.size w2.heap.size .i64 (.slice sa st.nums.length sc) st.nums) := VS7.out.chg h8 (by omega)
  have VG8 : Hid (View w8 w3.heap.size w4.heap.size .i64 (.slice ga st.nums.length gc) st.nums) := VG7.out.chg h8 (by omega)
  have HG8 : Hid (OwnI w8 w3.heap.size 2 (.slice ga st.nums.length gc) st.nums) := HG7.out.chg h8 (fun g hg => by have := (HG7.out.lt g hg); omega)
  clear h8 HA7 HW7 HQ7 VS7 VG7 HX7 HG7
  have hk0 : ¬ (((1 + xs.length : Nat) : Int) < 0) := by omega
  obtain ⟨⟨y0, y1, y2, y3, y4, y5, y6, y7, y8⟩, _⟩ := nine_all HQ8.out
  obtain ⟨⟨y9, y10, y11, y12, y13, y14, y15, y16, y17⟩, _⟩ := nine_all HW8.out
  go_wp2_with fail
  clear y0 y1 y2 y3 y4 y5 y6 y7 y8 y9 y10 y11 y12 y13 y14 y15 y16 y17
  refine (eqLine_calls _ st ga sa gc sc VG8.out VS8.out).mono ?_
  rintro e w9 ⟨rfl, h9⟩
  have HA9 : Hid (Chg 0 0 w w9) := HA8.out.trans h9
  have s9 := h9.size
  have HW9 : Hid (w9.heap[w2.heap.size]? = some (.cells #[.int .i64 st.kind, .int .i64 st.ck, .string st.path, .string st.to', .int .i64 st.han, .int .i64 st.off, .int .i64 st.siz, .string st.data, .slice sa st.nums.length sc] 27 (0, 0))) := (h9.block _ (by omega) (by omega)).trans HW8.out
  have HQ9 : Hid (w9.heap[w4.heap.size]? = some (.cells #[.int .i64 st.kind, .int .i64 st.ck, .string st.path, .string st.to', .int .i64 st.han, .int .i64 st.off, .int .i64 st.siz, .string st.data, .slice ga st.nums.length gc] 27 (0, 0))) := (h9.block _ (by omega) (by omega)).trans HQ8.out
  have VS9 : Hid (View w9 w1.heap.size w2.heap.size .i64 (.slice sa st.nums.length sc) st.nums) := VS8.out.chg h9 (by omega)
  have HG9 : Hid (OwnI w9 w3.heap.size 2 (.slice ga st.nums.length gc) st.nums) := HG8.out.chg h9 (fun g hg => by have := (HG8.out.lt g hg); omega)
  clear h9 HA8 HW8 HQ8 VS8 VG8 HG8
  clear hk0
  obtain ⟨⟨y0, y1, y2, y3, y4, y5, y6, y7, y8⟩, _⟩ := nine_all HQ9.out
  go_wp2_with fail
  clear y0 y1 y2 y3 y4 y5 y6 y7 y8
  refine (markLine_calls _ st w3.heap.size ga gc 1 w3.heap.size w4.heap.size (by omega) (by omega) HG9.out GB.out).mono ?_
  rintro e w10 ⟨rfl, om, h10⟩
  have HA10 : Hid (Chg 0 0 w w10) := HA9.out.step h10 (by have := HA9.out.size; omega)
  have s10 := h10.size
  have HW10 : Hid (w10.heap[w2.heap.size]? = some (.cells #[.int .i64 st.kind, .int .i64 st.ck, .string st.path, .string st.to', .int .i64 st.han, .int .i64 st.off, .int .i64 st.siz, .string st.data, .slice sa st.nums.length sc] 27 (0, 0))) := (h10.block _ (by omega) (by omega)).trans HW9.out
  have HQ10 : Hid (w10.heap[w4.heap.size]? = some (.cells #[.int .i64 st.kind, .int .i64 st.ck, .string st.path, .string st.to', .int .i64 st.han, .int .i64 st.off, .int .i64 st.siz, .string st.data, .slice ga st.nums.length gc] 27 (0, 0))) := (h10.block _ (by omega) (by omega)).trans HQ9.out
  have VS10 : Hid (View w10 w1.heap.size w2.heap.size .i64 (.slice sa st.nums.length sc) st.nums) := VS9.out.chg h10 (by omega)
  have VM10 : Hid (OwnI w10 w3.heap.size 2 (.slice ga st.nums.length gc) (marksI 1 st.nums.length)) := om
  clear om
  clear h10 HA9 HW9 HQ9 VS9 HG9
  obtain ⟨⟨y0, y1, y2, y3, y4, y5, y6, y7, y8⟩, _⟩ := nine_all HQ10.out
  go_wp2_with fail
  clear y0 y1 y2 y3 y4 y5 y6 y7 y8
  refine (heldLine_calls _ st w3.heap.size ga gc 1 (by omega) (by omega) VM10.out).mono ?_
  rintro e w11 ⟨rfl, h11⟩
  have HA11 : Hid (Chg 0 0 w w11) := HA10.out.trans h11
  have s11 := h11.size
  have HW11 : Hid (w11.heap[w2.heap.size]? = some (.cells #[.int .i64 st.kind, .int .i64 st.ck, .string st.path, .string st.to', .int .i64 st.han, .int .i64 st.off, .int .i64 st.siz, .string st.data, .slice sa st.nums.length sc] 27 (0, 0))) := (h11.block _ (by omega) (by omega)).trans HW10.out
  have HQ11 : Hid (w11.heap[w4.heap.size]? = some (.cells #[.int .i64 st.kind, .int .i64 st.ck, .string st.path, .string st.to', .int .i64 st.han, .int .i64 st.off, .int .i64 st.siz, .string st.data, .slice ga st.nums.length gc] 27 (0, 0))) := (h11.block _ (by omega) (by omega)).trans HQ10.out
  have VS11 : Hid (View w11 w1.heap.size w2.heap.size .i64 (.slice sa st.nums.length sc) st.nums) := VS10.out.chg h11 (by omega)
  clear h11 HA10 HW10 HQ10 VS10 VM10
  have hk0 : ¬ (((1 + st.nums.length : Nat) : Int) < 0) := by omega
  have hne : (((1 + st.nums.length : Nat) : Int) != ((1 + st.nums.length : Nat) : Int)) = false := by simp
  go_wp2_with fail
  clear hk0 hne
  refine (toByteS_calls _ hl (V0.out.chg HA11.out (by omega))).mono ?_
  rintro e w12 ⟨g12, rfl, og12, h12⟩
  have HA12 : Hid (Chg 0 0 w w12) := HA11.out.trans h12
  have s12 := h12.size
  have HW12 : Hid (w12.heap[w2.heap.size]? = some (.cells #[.int .i64 st.kind, .int .i64 st.ck, .string st.path, .string st.to', .int .i64 st.han, .int .i64 st.off, .int .i64 st.siz, .string st.data, .slice sa st.nums.length sc] 27 (0, 0))) := (h12.block _ (by omega) (by omega)).trans HW11.out
  have HQ12 : Hid (w12.heap[w4.heap.size]? = some (.cells #[.int .i64 st.kind, .int .i64 st.ck, .string st.path, .string st.to', .int .i64 st.han, .int .i64 st.off, .int .i64 st.siz, .string st.data, .slice ga st.nums.length gc] 27 (0, 0))) := (h12.block _ (by omega) (by omega)).trans HQ11.out
  have VS12 : Hid (View w12 w1.heap.size w2.heap.size .i64 (.slice sa st.nums.length sc) st.nums) := VS11.out.chg h12 (by omega)
  have VZ12 : Hid (View w12 w11.heap.size w12.heap.size .u8 (.slice (some ⟨g12, 0, none⟩) xs.length xs.length) xs) := og12.seen (by omega)
  clear og12
  clear h12 HA11 HW11 HQ11 VS11
  go_wp2_with fail
  refine (HI.out _ _ _ _ HA12.out VZ12.out).mono ?_
  rintro e w13 ⟨vh, rfl, oh, h13⟩
  have HA13 : Hid (Chg 0 0 w w13) := HA12.out.trans h13
  have s13 := h13.size
  have HW13 : Hid (w13.heap[w2.heap.size]? = some (.cells #[.int .i64 st.kind, .int .i64 st.ck, .string st.path, .string st.to', .int .i64 st.han, .int .i64 st.off, .int .i64 st.siz, .string st.data, .slice sa st.nums.length sc] 27 (0, 0))) := (h13.block _ (by omega) (by omega)).trans HW12.out
  have HQ13 : Hid (w13.heap[w4.heap.size]? = some (.cells #[.int .i64 st.kind, .int .i64 st.ck, .string st.path, .string st.to', .int .i64 st.han, .int .i64 st.off, .int .i64 st.siz, .string st.data, .slice ga st.nums.length gc] 27 (0, 0))) := (h13.block _ (by omega) (by omega)).trans HQ12.out
  have VS13 : Hid (View w13 w1.heap.size w2.heap.size .i64 (.slice sa st.nums.length sc) st.nums) := VS12.out.chg h13 (by omega)
  have VH13 : Hid (View w13 w12.heap.size w13.heap.size .i64 vh st.nums) := oh.seen (by omega)
  obtain ⟨ha, hc, rfl⟩ := oh.sl
  clear oh
  clear h13 HA12 HW12 HQ12 VS12 VZ12
  have Ca : Chg 0 0 w13 (w13.alloc (.cells #[.int .i64 st.kind, .int .i64 st.ck, .string st.path, .string st.to', .int .i64 st.han, .int .i64 st.off, .int .i64 st.siz, .string st.data, .slice ha st.nums.length hc] 27)) := Chg.alloc (Chg.refl 0 0 w13) _
  have sw13a : (w13.alloc (.cells #[.int .i64 st.kind, .int .i64 st.ck, .string st.path, .string st.to', .int .i64 st.han, .int .i64 st.off, .int .i64 st.siz, .string st.data, .slice ha st.nums.length hc] 27)).heap.size = w13.heap.size + 1 := by simp
  have HA13a : Hid (Chg 0 0 w (w13.alloc (.cells #[.int .i64 st.kind, .int .i64 st.ck, .string st.path, .string st.to', .int .i64 st.han, .int .i64 st.off, .int .i64 st.siz, .string st.data, .slice ha st.nums.length hc] 27))) := HA13.out.trans Ca
  have HH13a : Hid ((w13.alloc (.cells #[.int .i64 st.kind, .int .i64 st.ck, .string st.path, .string st.to', .int .i64 st.han, .int .i64 st.off, .int .i64 st.siz, .string st.data, .slice ha st.nums.length hc] 27)).heap[w13.heap.size]? = some (.cells #[.int .i64 st.kind, .int .i64 st.ck, .string st.path, .string st.to', .int .i64 st.han, .int .i64 st.off, .int .i64 st.siz, .string st.data, .slice ha st.nums.length hc] 27 (0, 0))) := heap_new w13 _
  have HW13a : Hid ((w13.alloc (.cells #[.int .i64 st.kind, .int .i64 st.ck, .string st.path, .string st.to', .int .i64 st.han, .int .i64 st.off, .int .i64 st.siz, .string st.data, .slice ha st.nums.length hc] 27)).heap[w2.heap.size]? = some (.cells #[.int .i64 st.kind, .int .i64 st.ck, .string st.path, .string st.to', .int .i64 st.han, .int .i64 st.off, .int .i64 st.siz, .string st.data, .slice sa st.nums.length sc] 27 (0, 0))) := (Ca.block _ (by omega) (by omega)).trans HW13.out
  have HQ13a : Hid ((w13.alloc (.cells #[.int .i64 st.kind, .int .i64 st.ck, .string st.path, .string st.to', .int .i64 st.han, .int .i64 st.off, .int .i64 st.siz, .string st.data, .slice ha st.nums.length hc] 27)).heap[w4.heap.size]? = some (.cells #[.int .i64 st.kind, .int .i64 st.ck, .string st.path, .string st.to', .int .i64 st.han, .int .i64 st.off, .int .i64 st.siz, .string st.data, .slice ga st.nums.length gc] 27 (0, 0))) := (Ca.block _ (by omega) (by omega)).trans HQ13.out
  have VS13a : Hid (View (w13.alloc (.cells #[.int .i64 st.kind, .int .i64 st.ck, .string st.path, .string st.to', .int .i64 st.han, .int .i64 st.off, .int .i64 st.siz, .string st.data, .slice ha st.nums.length hc] 27)) w1.heap.size w2.heap.size .i64 (.slice sa st.nums.length sc) st.nums) := VS13.out.chg Ca (by omega)
  have VH13a : Hid (View (w13.alloc (.cells #[.int .i64 st.kind, .int .i64 st.ck, .string st.path, .string st.to', .int .i64 st.han, .int .i64 st.off, .int .i64 st.siz, .string st.data, .slice ha st.nums.length hc] 27)) w12.heap.size w13.heap.size .i64 (.slice ha st.nums.length hc) st.nums) := VH13.out.chg Ca (by omega)
  clear Ca HA13 HW13 HQ13 VS13 VH13
  obtain ⟨⟨y0, y1, y2, y3, y4, y5, y6, y7, y8⟩, _⟩ := nine_all HH13a.out
  obtain ⟨⟨y9, y10, y11, y12, y13, y14, y15, y16, y17⟩, _⟩ := nine_all HW13a.out
  go_wp2_with fail
  generalize w13.alloc (.cells #[.int .i64 st.kind, .int .i64 st.ck, .string st.path, .string st.to', .int .i64 st.han, .int .i64 st.off, .int .i64 st.siz, .string st.data, .slice ha st.nums.length hc] 27) = w13a at *
  clear y0 y1 y2 y3 y4 y5 y6 y7 y8 y9 y10 y11 y12 y13 y14 y15 y16 y17
  refine (eqLine_calls _ st ha sa hc sc VH13a.out VS13a.out).mono ?_
  rintro e w14 ⟨rfl, h14⟩
  have HA14 : Hid (Chg 0 0 w w14) := HA13a.out.trans h14
  have s14 := h14.size
  have HW14 : Hid (w14.heap[w2.heap.size]? = some (.cells #[.int .i64 st.kind, .int .i64 st.ck, .string st.path, .string st.to', .int .i64 st.han, .int .i64 st.off, .int .i64 st.siz, .string st.data, .slice sa st.nums.length sc] 27 (0, 0))) := (h14.block _ (by omega) (by omega)).trans HW13a.out
  have HQ14 : Hid (w14.heap[w4.heap.size]? = some (.cells #[.int .i64 st.kind, .int .i64 st.ck, .string st.path, .string st.to', .int .i64 st.han, .int .i64 st.off, .int .i64 st.siz, .string st.data, .slice ga st.nums.length gc] 27 (0, 0))) := (h14.block _ (by omega) (by omega)).trans HQ13a.out
  have HH14 : Hid (w14.heap[w13.heap.size]? = some (.cells #[.int .i64 st.kind, .int .i64 st.ck, .string st.path, .string st.to', .int .i64 st.han, .int .i64 st.off, .int .i64 st.siz, .string st.data, .slice ha st.nums.length hc] 27 (0, 0))) := (h14.block _ (by omega) (by omega)).trans HH13a.out
  have VS14 : Hid (View w14 w1.heap.size w2.heap.size .i64 (.slice sa st.nums.length sc) st.nums) := VS13a.out.chg h14 (by omega)
  have VH14 : Hid (View w14 w12.heap.size w13.heap.size .i64 (.slice ha st.nums.length hc) st.nums) := VH13a.out.chg h14 (by omega)
  clear h14 HA13a HW13a HQ13a HH13a VS13a VH13a
  go_wp2
  go_ret
  exact ⟨rfl, HA14.out.below (by omega)⟩

end Go.Proofs.YteaeikmgkmpkiaaGreatDoor
