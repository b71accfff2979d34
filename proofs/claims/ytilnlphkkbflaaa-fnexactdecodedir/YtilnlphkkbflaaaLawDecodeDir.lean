/- The law on DecodeDir (made by tools/mklaw_dirdec.py). -/
import Derived.Test.YtilnlphkkbflaaaImplEnt5
import Derived.Test.YtilnlphkkbflaaaHeld
import Derived.Test.YtilnlphkkbflaaaMarkB
import Derived.Test.YtilnlphkkbflaaaToB
import Derived.Test.YtilnlphkkbflaaaOpenB
namespace Go.Proofs.Ytilnlphkkbflaaa
open Go.ChangeShapes Go.WideShapes Go.ChangeAt Go.RowKit

theorem OwnE.seen {w : World} {base : Nat} {e : TypeId} {v : Value} {ts : List Ent} (h : OwnE w base e v ts) (hl : ts.length ≤ 1048576) : EView w base w.heap.size v ts :=
  h.view (by omega) (fun g hg => (h.lt g hg).2)

set_option maxRecDepth 20000 in
set_option maxHeartbeats 1000000 in
theorem eqDirResult_calls (w : World) {lo hi lo' hi' : Nat} (g : Bool) (a b : Option Addr) (n m c d : Nat) {ts : List Ent} (h1 : EView w lo hi (.slice a n c) ts) (h2 : EView w lo' hi' (.slice b m d) ts) :
    Calls Try.prog 7 #[.agg #[.bool g, .slice a n c], .agg #[.bool g, .slice b m d]] w fun e w' => e = .returned (.bool true) ∧ Chg 0 0 w w' := by
  have hb : ((g != g) = false) := by simp
  have hA : Chg 0 0 w ((w.alloc (.cells #[.bool g, .slice a n c] 25)).alloc (.cells #[.bool g, .slice b m d] 25)) := (Chg.alloc (Chg.refl 0 0 w) _).alloc _
  have hE := eqEntryS_calls ((w.alloc (.cells #[.bool g, .slice a n c] 25)).alloc (.cells #[.bool g, .slice b m d] 25)) (h1.chg hA (by omega)) (h2.chg hA (by omega))
  have HA : Hid (Chg 0 0 w ((w.alloc (.cells #[.bool g, .slice a n c] 25)).alloc (.cells #[.bool g, .slice b m d] 25))) := hA
  clear hA h1 h2
  go_enter Try.func7, Try.ntmps7
  go_wp2_with fail
  generalize (w.alloc (.cells #[.bool g, .slice a n c] 25)).alloc (.cells #[.bool g, .slice b m d] 25) = w0 at *
  refine hE.mono ?_
  rintro e w1 ⟨rfl, h1⟩
  have HA1 : Hid (Chg 0 0 w w1) := HA.out.trans h1
  clear h1 HA hE hb
  go_wp2
  go_ret
  exact ⟨rfl, HA1.out⟩

set_option maxRecDepth 20000 in
set_option maxHeartbeats 1000000 in
theorem markDirResult_calls (w : World) (g : Bool) (base : Nat) (a : Option Addr) (n c : Nat) (ts : List Ent) (k0 lo hi : Nat) (hl : ts.length ≤ 1048576) (hk0 : 0 < k0) (hk1 : k0 ≤ 1048576) (h1 : OwnE w base 34 (.slice a n c) ts) (hb : ∀ g, (Value.slice a n c).ownBlock = some g → lo ≤ g ∧ g < hi) :
    Calls Try.prog 10 #[.agg #[.bool g, .slice a n c], .int .i64 k0] w fun e w' => e = .returned (.int .i64 ((k0 + 2 * ts.length : Nat) : Int)) ∧ OwnE w' base 34 (.slice a n c) (mkE k0 ts.length) ∧ Chg lo hi w w' := by
  have C0 : Chg 0 0 w (w.alloc (.cells #[.bool g, .slice a n c] 25)) := Chg.alloc (Chg.refl 0 0 w) _
  have C1 : Chg lo hi w (w.alloc (.cells #[.bool g, .slice a n c] 25)) := Chg.alloc (Chg.refl lo hi w) _
  have hM := markEntryS_calls (w.alloc (.cells #[.bool g, .slice a n c] 25)) base 34 (.slice a n c) ts k0 lo hi hl hk0 hk1 (h1.chg C0 (by intro g _; omega)) hb
  clear C0 h1 hb
  go_enter Try.func10, Try.ntmps10
  go_wp2_with fail
  generalize w.alloc (.cells #[.bool g, .slice a n c] 25) = w0 at *
  refine hM.mono ?_
  rintro e w1 ⟨rfl, o1, h1'⟩
  have HR : Hid (OwnE w1 base 34 (.slice a n c) (mkE k0 ts.length) ∧ Chg lo hi w w1) := ⟨o1, C1.trans h1'⟩
  clear hM o1 h1' C1
  go_wp2
  go_ret
  exact ⟨rfl, HR.out⟩

set_option maxRecDepth 20000 in
set_option maxHeartbeats 1000000 in
theorem heldDirResult_calls (w : World) {lo hi : Nat} (g : Bool) (a : Option Addr) (n c k0 K : Nat) (hl : K ≤ 1048576) (hk0 : 0 < k0) (hk1 : k0 ≤ 1048576) (h1 : EView w lo hi (.slice a n c) (mkE k0 K)) :
    Calls Try.prog 11 #[.agg #[.bool g, .slice a n c], .int .i64 k0] w fun e w' => e = .returned (.int .i64 ((k0 + 2 * K : Nat) : Int)) ∧ Chg 0 0 w w' := by
  have C0 : Chg 0 0 w (w.alloc (.cells #[.bool g, .slice a n c] 25)) := Chg.alloc (Chg.refl 0 0 w) _
  have hM := heldEntryS_calls (w.alloc (.cells #[.bool g, .slice a n c] 25)) k0 K hl hk0 hk1 (h1.chg C0 (by omega))
  have hnn : ¬ (((k0 + 2 * K : Nat) : Int) < 0) := by omega
  clear h1
  go_enter Try.func11, Try.ntmps11
  go_wp2_with fail
  generalize w.alloc (.cells #[.bool g, .slice a n c] 25) = w0 at *
  refine hM.mono ?_
  rintro e w1 ⟨rfl, h1'⟩
  have HR : Hid (Chg 0 0 w w1) := C0.trans h1'
  clear hM h1' C0
  go_wp2
  go_ret
  exact ⟨rfl, HR.out⟩

set_option maxRecDepth 20000 in
set_option maxHeartbeats 4000000 in
theorem lawDecodeDir_walk (w : World) {hi : Nat} {a : Value} {xs : List Int} (hB : Byt xs) (h1 : View w 0 hi .u8 a xs) :
    Calls Try.prog 3 #[a] w fun e w' => e = .returned (.bool true) ∧ Below w.heap.size w w' := by
  have V0 : Hid (View w 0 hi .u8 a xs) := h1
  obtain ⟨ao, cap, rfl, hl0, _, _⟩ := h1
  by_cases hl : xs.length ≤ 1048576
  case neg =>
    go_enter Try.func3, Try.ntmps3
    go_wp2
    go_ret
    exact ⟨rfl, (Chg.refl 0 0 w).below (by omega)⟩
  have hle := dirE_len xs
  have HS : Hid (∀ (w : World) (lo hi : Nat) (a : Value), View w lo hi .u8 a xs → Calls Try.prog 4 #[a] w fun e w' => ∃ v, e = .returned (.agg #[.bool (dirG xs), v]) ∧ OwnE w' w.heap.size 34 v (dirE xs) ∧ Chg 0 0 w w') := fun w lo hi a h => specDecDir_calls w h hB hl
  have HI : Hid (∀ (w : World) (lo hi : Nat) (ao : Option Addr), View w lo hi .u8 (.slice ao xs.length xs.length) xs → Calls Try.prog 6 #[.slice ao xs.length xs.length] w fun e w' => ∃ v, e = .returned (.agg #[.bool (dirG xs), v]) ∧ OwnE w' w.heap.size 34 v (dirE xs) ∧ Chg 0 0 w w') := fun w lo hi ao h => implDecodeDir_calls w h hB (by omega)
  generalize dirG xs = g at *
  generalize dirE xs = ts at *
  clear hB
  have HA0 : Hid (Chg 0 0 w w) := Chg.refl 0 0 w
  go_enter Try.func3, Try.ntmps3
  go_wp2_with fail
  refine (toByteS_calls _ hl (V0.out.chg HA0.out (by omega))).mono ?_
  rintro e w1 ⟨g1, rfl, og1, h1⟩
  have HA1 : Hid (Chg 0 0 w w1) := HA0.out.trans h1
  have s1 := h1.size
  have VX1 : Hid (View w1 w.heap.size w1.heap.size .u8 (.slice (some ⟨g1, 0, none⟩) xs.length xs.length) xs) := og1.seen (by omega)
  clear og1
  clear h1 HA0
  go_wp2_with fail
  refine (HS.out _ _ _ _ VX1.out).mono ?_
  rintro e w2 ⟨vs, rfl, os, h2⟩
  have HA2 : Hid (Chg 0 0 w w2) := HA1.out.trans h2
  have s2 := h2.size
  have VS2 : Hid (EView w2 w1.heap.size w2.heap.size vs ts) := os.seen (by omega)
  obtain ⟨sa, sc, rfl⟩ := os.sl
  clear os
  clear h2 HA1 VX1
  have Ca : Chg 0 0 w2 (w2.alloc (.cells #[.bool g, .slice sa ts.length sc] 25)) := Chg.alloc (Chg.refl 0 0 w2) _
  have sw2a : (w2.alloc (.cells #[.bool g, .slice sa ts.length sc] 25)).heap.size = w2.heap.size + 1 := by simp
  have HA2a : Hid (Chg 0 0 w (w2.alloc (.cells #[.bool g, .slice sa ts.length sc] 25))) := HA2.out.trans Ca
  have HW2a : Hid ((w2.alloc (.cells #[.bool g, .slice sa ts.length sc] 25)).heap[w2.heap.size]? = some (.cells #[.bool g, .slice sa ts.length sc] 25 (0, 0))) := heap_new w2 _
  have VS2a : Hid (EView (w2.alloc (.cells #[.bool g, .slice sa ts.length sc] 25)) w1.heap.size w2.heap.size (.slice sa ts.length sc) ts) := VS2.out.chg Ca (by omega)
  clear Ca HA2 VS2
  go_wp2_with fail
  generalize w2.alloc (.cells #[.bool g, .slice sa ts.length sc] 25) = w2a at *
  refine (toByteS_calls _ hl (V0.out.chg HA2a.out (by omega))).mono ?_
  rintro e w3 ⟨g3, rfl, og3, h3⟩
  have HA3 : Hid (Chg 0 0 w w3) := HA2a.out.trans h3
  have s3 := h3.size
  have HW3 : Hid (w3.heap[w2.heap.size]? = some (.cells #[.bool g, .slice sa ts.length sc] 25 (0, 0))) := (h3.block _ (by omega) (by omega)).trans HW2a.out
  have VS3 : Hid (EView w3 w1.heap.size w2.heap.size (.slice sa ts.length sc) ts) := VS2a.out.chg h3 (by omega)
  have HX3 : Hid (OwnB w3 w2a.heap.size 5 (.slice (some ⟨g3, 0, none⟩) xs.length xs.length) xs) := og3
  have XB : Hid (∀ z, (Value.slice (some ⟨g3, 0, none⟩) xs.length xs.length).ownBlock = some z → w2a.heap.size ≤ z ∧ z < w3.heap.size) := fun z hz => og3.lt z hz
  have VY3 : Hid (View w3 w2a.heap.size w3.heap.size .u8 (.slice (some ⟨g3, 0, none⟩) xs.length xs.length) xs) := og3.seen (by omega)
  clear og3
  clear h3 HA2a HW2a VS2a
  go_wp2_with fail
  refine (HI.out _ _ _ _ VY3.out).mono ?_
  rintro e w4 ⟨vg, rfl, og, h4⟩
  have HA4 : Hid (Chg 0 0 w w4) := HA3.out.trans h4
  have s4 := h4.size
  have HW4 : Hid (w4.heap[w2.heap.size]? = some (.cells #[.bool g, .slice sa ts.length sc] 25 (0, 0))) := (h4.block _ (by omega) (by omega)).trans HW3.out
  have VS4 : Hid (EView w4 w1.heap.size w2.heap.size (.slice sa ts.length sc) ts) := VS3.out.chg h4 (by omega)
  have VY4 : Hid (View w4 w2a.heap.size w3.heap.size .u8 (.slice (some ⟨g3, 0, none⟩) xs.length xs.length) xs) := VY3.out.chg h4 (by omega)
  have HX4 : Hid (OwnB w4 w2a.heap.size 5 (.slice (some ⟨g3, 0, none⟩) xs.length xs.length) xs) := HX3.out.chg h4 (fun g hg => by have := (HX3.out.lt g hg); omega)
  have VG4 : Hid (EView w4 w3.heap.size w4.heap.size vg ts) := og.seen (by omega)
  obtain ⟨ga, gc, rfl⟩ := og.sl
  have HG4 : Hid (OwnE w4 w3.heap.size 34 (.slice ga ts.length gc) ts) := og
  have GB : Hid (∀ z, (Value.slice ga ts.length gc).ownBlock = some z → w3.heap.size ≤ z ∧ z < w4.heap.size) := fun z hz => og.lt z hz
  clear og
  clear h4 HA3 HW3 VS3 VY3 HX3
  have Ca : Chg 0 0 w4 (w4.alloc (.cells #[.bool g, .slice ga ts.length gc] 25)) := Chg.alloc (Chg.refl 0 0 w4) _
  have sw4a : (w4.alloc (.cells #[.bool g, .slice ga ts.length gc] 25)).heap.size = w4.heap.size + 1 := by simp
  have HA4a : Hid (Chg 0 0 w (w4.alloc (.cells #[.bool g, .slice ga ts.length gc] 25))) := HA4.out.trans Ca
  have HQ4a : Hid ((w4.alloc (.cells #[.bool g, .slice ga ts.length gc] 25)).heap[w4.heap.size]? = some (.cells #[.bool g, .slice ga ts.length gc] 25 (0, 0))) := heap_new w4 _
  have HW4a : Hid ((w4.alloc (.cells #[.bool g, .slice ga ts.length gc] 25)).heap[w2.heap.size]? = some (.cells #[.bool g, .slice sa ts.length sc] 25 (0, 0))) := (Ca.block _ (by omega) (by omega)).trans HW4.out
  have VS4a : Hid (EView (w4.alloc (.cells #[.bool g, .slice ga ts.length gc] 25)) w1.heap.size w2.heap.size (.slice sa ts.length sc) ts) := VS4.out.chg Ca (by omega)
  have VY4a : Hid (View (w4.alloc (.cells #[.bool g, .slice ga ts.length gc] 25)) w2a.heap.size w3.heap.size .u8 (.slice (some ⟨g3, 0, none⟩) xs.length xs.length) xs) := VY4.out.chg Ca (by omega)
  have VG4a : Hid (EView (w4.alloc (.cells #[.bool g, .slice ga ts.length gc] 25)) w3.heap.size w4.heap.size (.slice ga ts.length gc) ts) := VG4.out.chg Ca (by omega)
  have HX4a : Hid (OwnB (w4.alloc (.cells #[.bool g, .slice ga ts.length gc] 25)) w2a.heap.size 5 (.slice (some ⟨g3, 0, none⟩) xs.length xs.length) xs) := HX4.out.chg Ca (by intro g _; omega)
  have HG4a : Hid (OwnE (w4.alloc (.cells #[.bool g, .slice ga ts.length gc] 25)) w3.heap.size 34 (.slice ga ts.length gc) ts) := HG4.out.chg Ca (by intro g _; omega)
  clear Ca HA4 HW4 VS4 VY4 VG4 HX4 HG4
  obtain ⟨y0, y1, _⟩ := two_cells HQ4a.out
  obtain ⟨y2, y3, _⟩ := two_cells HW4a.out
  go_wp2_with fail
  generalize w4.alloc (.cells #[.bool g, .slice ga ts.length gc] 25) = w4a at *
  clear y0 y1 y2 y3
  refine (eqDirResult_calls _ g ga sa _ _ gc sc VG4a.out VS4a.out).mono ?_
  rintro e w5 ⟨rfl, h5⟩
  have HA5 : Hid (Chg 0 0 w w5) := HA4a.out.trans h5
  have s5 := h5.size
  have HW5 : Hid (w5.heap[w2.heap.size]? = some (.cells #[.bool g, .slice sa ts.length sc] 25 (0, 0))) := (h5.block _ (by omega) (by omega)).trans HW4a.out
  have HQ5 : Hid (w5.heap[w4.heap.size]? = some (.cells #[.bool g, .slice ga ts.length gc] 25 (0, 0))) := (h5.block _ (by omega) (by omega)).trans HQ4a.out
  have VS5 : Hid (EView w5 w1.heap.size w2.heap.size (.slice sa ts.length sc) ts) := VS4a.out.chg h5 (by omega)
  have VY5 : Hid (View w5 w2a.heap.size w3.heap.size .u8 (.slice (some ⟨g3, 0, none⟩) xs.length xs.length) xs) := VY4a.out.chg h5 (by omega)
  have VG5 : Hid (EView w5 w3.heap.size w4.heap.size (.slice ga ts.length gc) ts) := VG4a.out.chg h5 (by omega)
  have HX5 : Hid (OwnB w5 w2a.heap.size 5 (.slice (some ⟨g3, 0, none⟩) xs.length xs.length) xs) := HX4a.out.chg h5 (fun g hg => by have := (HX4a.out.lt g hg); omega)
  have HG5 : Hid (OwnE w5 w3.heap.size 34 (.slice ga ts.length gc) ts) := HG4a.out.chg h5 (fun g hg => by have := (HG4a.out.lt g hg); omega)
  clear h5 HA4a HW4a HQ4a VS4a VY4a VG4a HX4a HG4a
  go_wp2_with fail
  refine (toByteS_calls _ hl (V0.out.chg HA5.out (by omega))).mono ?_
  rintro e w6 ⟨g6, rfl, og6, h6⟩
  have HA6 : Hid (Chg 0 0 w w6) := HA5.out.trans h6
  have s6 := h6.size
  have HW6 : Hid (w6.heap[w2.heap.size]? = some (.cells #[.bool g, .slice sa ts.length sc] 25 (0, 0))) := (h6.block _ (by omega) (by omega)).trans HW5.out
  have HQ6 : Hid (w6.heap[w4.heap.size]? = some (.cells #[.bool g, .slice ga ts.length gc] 25 (0, 0))) := (h6.block _ (by omega) (by omega)).trans HQ5.out
  have VS6 : Hid (EView w6 w1.heap.size w2.heap.size (.slice sa ts.length sc) ts) := VS5.out.chg h6 (by omega)
  have VY6 : Hid (View w6 w2a.heap.size w3.heap.size .u8 (.slice (some ⟨g3, 0, none⟩) xs.length xs.length) xs) := VY5.out.chg h6 (by omega)
  have VG6 : Hid (EView w6 w3.heap.size w4.heap.size (.slice ga ts.length gc) ts) := VG5.out.chg h6 (by omega)
  have HX6 : Hid (OwnB w6 w2a.heap.size 5 (.slice (some ⟨g3, 0, none⟩) xs.length xs.length) xs) := HX5.out.chg h6 (fun g hg => by have := (HX5.out.lt g hg); omega)
  have HG6 : Hid (OwnE w6 w3.heap.size 34 (.slice ga ts.length gc) ts) := HG5.out.chg h6 (fun g hg => by have := (HG5.out.lt g hg); omega)
  have VZ6 : Hid (View w6 w5.heap.size w6.heap.size .u8 (.slice (some ⟨g6, 0, none⟩) xs.length xs.length) xs) := og6.seen (by omega)
  clear og6
  clear h6 HA5 HW5 HQ5 VS5 VY5 VG5 HX5 HG5
  go_wp2_with fail
  refine (eqByteS_calls _ VY6.out VZ6.out).mono ?_
  rintro e w7 ⟨rfl, h7⟩
  have h7 := h7.chg 0 0
  have HA7 : Hid (Chg 0 0 w w7) := HA6.out.trans h7
  have s7 := h7.size
  have HW7 : Hid (w7.heap[w2.heap.size]? = some (.cells #[.bool g, .slice sa ts.length sc] 25 (0, 0))) := (h7.block _ (by omega) (by omega)).trans HW6.out
  have HQ7 : Hid (w7.heap[w4.heap.size]? = some (.cells #[.bool g, .slice ga ts.length gc] 25 (0, 0))) := (h7.block _ (by omega) (by omega)).trans HQ6.out
  have VS7 : Hid (EView w7 w1.heap.size w2.heap.size (.slice sa ts.length sc) ts) := VS6.out.chg h7 (by omega)
  have VG7 : Hid (EView w7 w3.heap.size w4.heap.size (.slice ga ts.length gc) ts) := VG6.out.chg h7 (by omega)
  have HX7 : Hid (OwnB w7 w2a.heap.size 5 (.slice (some ⟨g3, 0, none⟩) xs.length xs.length) xs) := HX6.out.chg h7 (fun g hg => by have := (HX6.out.lt g hg); omega)
  have HG7 : Hid (OwnE w7 w3.heap.size 34 (.slice ga ts.length gc) ts) := HG6.out.chg h7 (fun g hg => by have := (HG6.out.lt g hg); omega)
  clear h7 HA6 HW6 HQ6 VS6 VY6 VG6 VZ6 HX6 HG6
  go_wp2_with fail
  refine (markByteS_calls _ _ _ _ _ 1 w2a.heap.size w3.heap.size (by omega) (by omega) HX7.out XB.out).mono ?_
  rintro e w8 ⟨rfl, _, h8, _, _⟩
  have HA8 : Hid (Chg 0 0 w w8) := HA7.out.step h8 (by have := HA7.out.size; omega)
  have s8 := h8.size
  have HW8 : Hid (w8.heap[w2.heap.size]? = some (.cells #[.bool g, .slice sa ts.length sc] 25 (0, 0))) := (h8.block _ (by omega) (by omega)).trans HW7.out
  have HQ8 : Hid (w8.heap[w4.heap.size]? = some (.cells #[.bool g, .slice ga ts.length gc] 25 (0, 0))) := (h8.block _ (by omega) (by omega)).trans HQ7.out
  have VS8 : Hid (EView w8 w1.heap.size w2.heap.size (.slice sa ts.length sc) ts) := VS7.out.chg h8 (by omega)
  have VG8 : Hid (EView w8 w3.heap.size w4.heap.size (.slice ga ts.length gc) ts) := VG7.out.chg h8 (by omega)
  have HG8 : Hid (OwnE w8 w3.heap.size 34 (.slice ga ts.length gc) ts) := HG7.out.chg h8 (fun g hg => by have := (HG7.out.lt g hg); omega)
  clear h8 HA7 HW7 HQ7 VS7 VG7 HX7 HG7
  have hk0 : ¬ (((1 + xs.length : Nat) : Int) < 0) := by omega
  obtain ⟨y0, y1, _⟩ := two_cells HQ8.out
  obtain ⟨y2, y3, _⟩ := two_cells HW8.out
  go_wp2_with fail
  clear y0 y1 y2 y3
  refine (eqDirResult_calls _ g ga sa _ _ gc sc VG8.out VS8.out).mono ?_
  rintro e w9 ⟨rfl, h9⟩
  have HA9 : Hid (Chg 0 0 w w9) := HA8.out.trans h9
  have s9 := h9.size
  have HW9 : Hid (w9.heap[w2.heap.size]? = some (.cells #[.bool g, .slice sa ts.length sc] 25 (0, 0))) := (h9.block _ (by omega) (by omega)).trans HW8.out
  have HQ9 : Hid (w9.heap[w4.heap.size]? = some (.cells #[.bool g, .slice ga ts.length gc] 25 (0, 0))) := (h9.block _ (by omega) (by omega)).trans HQ8.out
  have VS9 : Hid (EView w9 w1.heap.size w2.heap.size (.slice sa ts.length sc) ts) := VS8.out.chg h9 (by omega)
  have HG9 : Hid (OwnE w9 w3.heap.size 34 (.slice ga ts.length gc) ts) := HG8.out.chg h9 (fun g hg => by have := (HG8.out.lt g hg); omega)
  clear h9 HA8 HW8 HQ8 VS8 VG8 HG8
  clear hk0
  obtain ⟨y0, y1, _⟩ := two_cells HQ9.out
  go_wp2_with fail
  clear y0 y1
  refine (markDirResult_calls _ g w3.heap.size ga _ gc ts 1 w3.heap.size w4.heap.size (by omega) (by omega) (by omega) HG9.out GB.out).mono ?_
  rintro e w10 ⟨rfl, om, h10⟩
  have HA10 : Hid (Chg 0 0 w w10) := HA9.out.step h10 (by have := HA9.out.size; omega)
  have s10 := h10.size
  have HW10 : Hid (w10.heap[w2.heap.size]? = some (.cells #[.bool g, .slice sa ts.length sc] 25 (0, 0))) := (h10.block _ (by omega) (by omega)).trans HW9.out
  have HQ10 : Hid (w10.heap[w4.heap.size]? = some (.cells #[.bool g, .slice ga ts.length gc] 25 (0, 0))) := (h10.block _ (by omega) (by omega)).trans HQ9.out
  have VS10 : Hid (EView w10 w1.heap.size w2.heap.size (.slice sa ts.length sc) ts) := VS9.out.chg h10 (by omega)
  have VM10 : Hid (EView w10 w3.heap.size w10.heap.size (.slice ga ts.length gc) (mkE 1 ts.length)) := om.seen (by rw [mkE_len]; omega)
  clear om
  clear h10 HA9 HW9 HQ9 VS9 HG9
  obtain ⟨y0, y1, _⟩ := two_cells HQ10.out
  go_wp2_with fail
  clear y0 y1
  refine (heldDirResult_calls _ g ga _ gc 1 ts.length (by omega) (by omega) (by omega) VM10.out).mono ?_
  rintro e w11 ⟨rfl, h11⟩
  have HA11 : Hid (Chg 0 0 w w11) := HA10.out.trans h11
  have s11 := h11.size
  have HW11 : Hid (w11.heap[w2.heap.size]? = some (.cells #[.bool g, .slice sa ts.length sc] 25 (0, 0))) := (h11.block _ (by omega) (by omega)).trans HW10.out
  have HQ11 : Hid (w11.heap[w4.heap.size]? = some (.cells #[.bool g, .slice ga ts.length gc] 25 (0, 0))) := (h11.block _ (by omega) (by omega)).trans HQ10.out
  have VS11 : Hid (EView w11 w1.heap.size w2.heap.size (.slice sa ts.length sc) ts) := VS10.out.chg h11 (by omega)
  clear h11 HA10 HW10 HQ10 VS10 VM10
  have hk0 : ¬ (((1 + 2 * ts.length : Nat) : Int) < 0) := by omega
  have hne : (((1 + 2 * ts.length : Nat) : Int) != ((1 + 2 * ts.length : Nat) : Int)) = false := by simp
  go_wp2_with fail
  clear hk0 hne
  refine (toByteS_calls _ hl (V0.out.chg HA11.out (by omega))).mono ?_
  rintro e w12 ⟨g12, rfl, og12, h12⟩
  have HA12 : Hid (Chg 0 0 w w12) := HA11.out.trans h12
  have s12 := h12.size
  have HW12 : Hid (w12.heap[w2.heap.size]? = some (.cells #[.bool g, .slice sa ts.length sc] 25 (0, 0))) := (h12.block _ (by omega) (by omega)).trans HW11.out
  have HQ12 : Hid (w12.heap[w4.heap.size]? = some (.cells #[.bool g, .slice ga ts.length gc] 25 (0, 0))) := (h12.block _ (by omega) (by omega)).trans HQ11.out
  have VS12 : Hid (EView w12 w1.heap.size w2.heap.size (.slice sa ts.length sc) ts) := VS11.out.chg h12 (by omega)
  have VZ12 : Hid (View w12 w11.heap.size w12.heap.size .u8 (.slice (some ⟨g12, 0, none⟩) xs.length xs.length) xs) := og12.seen (by omega)
  clear og12
  clear h12 HA11 HW11 HQ11 VS11
  go_wp2_with fail
  refine (HI.out _ _ _ _ VZ12.out).mono ?_
  rintro e w13 ⟨vh, rfl, oh, h13⟩
  have HA13 : Hid (Chg 0 0 w w13) := HA12.out.trans h13
  have s13 := h13.size
  have HW13 : Hid (w13.heap[w2.heap.size]? = some (.cells #[.bool g, .slice sa ts.length sc] 25 (0, 0))) := (h13.block _ (by omega) (by omega)).trans HW12.out
  have HQ13 : Hid (w13.heap[w4.heap.size]? = some (.cells #[.bool g, .slice ga ts.length gc] 25 (0, 0))) := (h13.block _ (by omega) (by omega)).trans HQ12.out
  have VS13 : Hid (EView w13 w1.heap.size w2.heap.size (.slice sa ts.length sc) ts) := VS12.out.chg h13 (by omega)
  have VH13 : Hid (EView w13 w12.heap.size w13.heap.size vh ts) := oh.seen (by omega)
  obtain ⟨ha, hc, rfl⟩ := oh.sl
  clear oh
  clear h13 HA12 HW12 HQ12 VS12 VZ12
  have Ca : Chg 0 0 w13 (w13.alloc (.cells #[.bool g, .slice ha ts.length hc] 25)) := Chg.alloc (Chg.refl 0 0 w13) _
  have sw13a : (w13.alloc (.cells #[.bool g, .slice ha ts.length hc] 25)).heap.size = w13.heap.size + 1 := by simp
  have HA13a : Hid (Chg 0 0 w (w13.alloc (.cells #[.bool g, .slice ha ts.length hc] 25))) := HA13.out.trans Ca
  have HH13a : Hid ((w13.alloc (.cells #[.bool g, .slice ha ts.length hc] 25)).heap[w13.heap.size]? = some (.cells #[.bool g, .slice ha ts.length hc] 25 (0, 0))) := heap_new w13 _
  have HW13a : Hid ((w13.alloc (.cells #[.bool g, .slice ha ts.length hc] 25)).heap[w2.heap.size]? = some (.cells #[.bool g, .slice sa ts.length sc] 25 (0, 0))) := (Ca.block _ (by omega) (by omega)).trans HW13.out
  have HQ13a : Hid ((w13.alloc (.cells #[.bool g, .slice ha ts.length hc] 25)).heap[w4.heap.size]? = some (.cells #[.bool g, .slice ga ts.length gc] 25 (0, 0))) := (Ca.block _ (by omega) (by omega)).trans HQ13.out
  have VS13a : Hid (EView (w13.alloc (.cells #[.bool g, .slice ha ts.length hc] 25)) w1.heap.size w2.heap.size (.slice sa ts.length sc) ts) := VS13.out.chg Ca (by omega)
  have VH13a : Hid (EView (w13.alloc (.cells #[.bool g, .slice ha ts.length hc] 25)) w12.heap.size w13.heap.size (.slice ha ts.length hc) ts) := VH13.out.chg Ca (by omega)
  clear Ca HA13 HW13 HQ13 VS13 VH13
  obtain ⟨y0, y1, _⟩ := two_cells HH13a.out
  obtain ⟨y2, y3, _⟩ := two_cells HW13a.out
  go_wp2_with fail
  generalize w13.alloc (.cells #[.bool g, .slice ha ts.length hc] 25) = w13a at *
  clear y0 y1 y2 y3
  refine (eqDirResult_calls _ g ha sa _ _ hc sc VH13a.out VS13a.out).mono ?_
  rintro e w14 ⟨rfl, h14⟩
  have HA14 : Hid (Chg 0 0 w w14) := HA13a.out.trans h14
  have s14 := h14.size
  have HW14 : Hid (w14.heap[w2.heap.size]? = some (.cells #[.bool g, .slice sa ts.length sc] 25 (0, 0))) := (h14.block _ (by omega) (by omega)).trans HW13a.out
  have HQ14 : Hid (w14.heap[w4.heap.size]? = some (.cells #[.bool g, .slice ga ts.length gc] 25 (0, 0))) := (h14.block _ (by omega) (by omega)).trans HQ13a.out
  have HH14 : Hid (w14.heap[w13.heap.size]? = some (.cells #[.bool g, .slice ha ts.length hc] 25 (0, 0))) := (h14.block _ (by omega) (by omega)).trans HH13a.out
  have VS14 : Hid (EView w14 w1.heap.size w2.heap.size (.slice sa ts.length sc) ts) := VS13a.out.chg h14 (by omega)
  have VH14 : Hid (EView w14 w12.heap.size w13.heap.size (.slice ha ts.length hc) ts) := VH13a.out.chg h14 (by omega)
  clear h14 HA13a HW13a HQ13a HH13a VS13a VH13a
  go_wp2
  go_ret
  exact ⟨rfl, HA14.out.below (by omega)⟩

set_option maxRecDepth 100000 in
theorem lawDecodeDir_lifted (os : Os) (started : os.Started) (H : Type) (enc : TypeId × Value → H) :
    ReturnsInHanded {} Try.checked os 3 .any (Rows.fnExactDecodeDirSpec.pre6 enc Try.prog Try.f3 Rows.fnExactDecodeDirRow.domain false) (Rows.fnExactDecodeDirSpec.post enc Try.prog Try.f3 false true false false) := by
  refine returnsInHanded_of_change (C := Try.checked) own started (by kernel_rfl) Try.func3
    (ChangeSpec.witness6 (enc := enc) (C := Try.checked) false ⟨#[], #[.slice none 0 0], []⟩ 8 (by kernel_rfl) (by kernel_rfl) (by kernel_rfl) (by kernel_rfl)) ?_
  intro W base args ds gs before hval0 hW hcnd _
  have hval : ∀ (j : Nat) t v, Try.f3.params[j]? = some t → args[j]? = some v → Value.okWide Try.prog W .any base t v := hval0
  have hW' := hW
  obtain ⟨p, q, hA0, hV, rfl, hfz, hnd⟩ := hW
  have hA : DataW.TrodAll enc Try.prog W 0 (fun _ => true) true Try.f3.params.toList args.toList ds p := hA0
  rw [Try.params3] at hA hval
  obtain ⟨v0, vs0, d0, ds0, p0, q0, hargs, rfl, rfl, h0, r0⟩ := trodAll_cons hA
  obtain ⟨rfl, rfl, rfl⟩ := trodAll_nil r0
  obtain rfl : args = #[v0] := by cases args; simp_all
  obtain ⟨rfl, rfl⟩ := trodVars_none hV
  have k0 := h0
  have lt0 : ∀ x ∈ p0, x.block < W.heap.size := by obtain ⟨m, hm⟩ := k0; exact DataW.trod_lt m _ _ _ hm
  obtain ⟨ka, kl, kcp, rfl⟩ := okWide_slice Try.underlying22 (hval 0 22 v0 rfl rfl)
  obtain ⟨xs, hx, hwf⟩ : ∃ xs, View W 0 W.heap.size .u8 (.slice ka kl kcp) xs ∧ ∀ x ∈ xs, (Lit.int .u8 x).wf = true := by obtain ⟨m, hm⟩ := h0; exact view_wf_of_trod Try.underlying22 Try.underlying5 (by kernel_rfl) hm
  clear hA0 hval0
  refine (lawDecodeDir_walk W (byt_of_wf hwf) hx).mono fun e W' ⟨he, bel⟩ => ?_
  subst he
  exact ⟨_, rfl, _, _, _, [], _, [], hW', trodAll_mk1 (shut_bool Try.underlying4 _), (trodAll_cons_mk (Below.trod laidOut (by kernel_rfl) (of_decide_eq_true (by kernel_rfl)) k0 bel lt0) trodAll_mk0), rfl, bel.frame _, fun h => by cases h⟩

theorem fnExactDecodeDir_holds : Rows.FnExactDecodeDirSaid :=
  OpenClaim.holds_of_wide 3 Try.f3 rfl rfl rfl rfl rfl rfl rfl ⟨rfl, rfl, rfl, rfl, rfl⟩ rfl rfl rfl rfl rfl (by kernel_rfl) Try.func3 (by kernel_rfl)
    (of_decide_eq_true (by kernel_rfl)) (by unfold Func.isWrapper; first | (rw [if_pos (by decide +kernel)]; kernel_rfl) | (rw [if_neg (by decide +kernel)]; exact ⟨rfl, rfl⟩))
    (fun os started H enc _ => lawDecodeDir_lifted os started H enc)
#print axioms fnExactDecodeDir_holds
end Go.Proofs.Ytilnlphkkbflaaa
