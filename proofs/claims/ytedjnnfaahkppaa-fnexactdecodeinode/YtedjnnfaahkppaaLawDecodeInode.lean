/- The law on DecodeInode (made by tools/mklaw_inodec.py). -/
import Derived.Test.YtedjnnfaahkppaaEqB
import Derived.Test.YtedjnnfaahkppaaViewPart
import Derived.Test.YtedjnnfaahkppaaOwnAt
import Derived.Test.YtedjnnfaahkppaaToB
import Derived.Test.YtedjnnfaahkppaaOpenB
namespace Go.Proofs.Ytedjnnfaahkppaa
open Go.ChangeShapes Go.WideShapes Go.ChangeAt Go.RowKit

set_option maxRecDepth 20000 in
set_option maxHeartbeats 2000000 in
theorem eqInodeResult_calls (w : World) {lo hi lo' hi' : Nat} (g : Bool) (i : Ino) (a b : Option Addr) (c d : Nat) (h1 : View w lo hi .i64 (.slice a i.dir.length c) i.dir) (h2 : View w lo' hi' .i64 (.slice b i.dir.length d) i.dir) :
    Calls Try.prog 7 #[.agg #[.bool g, .int .i64 i.kind, .int .i64 i.links, .int .i64 i.size, .slice a i.dir.length c, .int .i64 i.ind], .agg #[.bool g, .int .i64 i.kind, .int .i64 i.links, .int .i64 i.size, .slice b i.dir.length d, .int .i64 i.ind]] w fun e w' => e = .returned (.bool true) ∧ Chg 0 0 w w' := by
  have hb : ((g != g) = false) := by simp
  have hA : Chg 0 0 w ((w.alloc (.cells #[.bool g, .int .i64 i.kind, .int .i64 i.links, .int .i64 i.size, .slice a i.dir.length c, .int .i64 i.ind] 27)).alloc (.cells #[.bool g, .int .i64 i.kind, .int .i64 i.links, .int .i64 i.size, .slice b i.dir.length d, .int .i64 i.ind] 27)) := (Chg.alloc (Chg.refl 0 0 w) _).alloc _
  have hE := eqInode_calls ((w.alloc (.cells #[.bool g, .int .i64 i.kind, .int .i64 i.links, .int .i64 i.size, .slice a i.dir.length c, .int .i64 i.ind] 27)).alloc (.cells #[.bool g, .int .i64 i.kind, .int .i64 i.links, .int .i64 i.size, .slice b i.dir.length d, .int .i64 i.ind] 27)) i a b c d (h1.chg hA (by omega)) (h2.chg hA (by omega))
  have HA : Hid (Chg 0 0 w ((w.alloc (.cells #[.bool g, .int .i64 i.kind, .int .i64 i.links, .int .i64 i.size, .slice a i.dir.length c, .int .i64 i.ind] 27)).alloc (.cells #[.bool g, .int .i64 i.kind, .int .i64 i.links, .int .i64 i.size, .slice b i.dir.length d, .int .i64 i.ind] 27))) := hA
  have cA : Chg 0 0 (w.alloc (.cells #[.bool g, .int .i64 i.kind, .int .i64 i.links, .int .i64 i.size, .slice a i.dir.length c, .int .i64 i.ind] 27)) ((w.alloc (.cells #[.bool g, .int .i64 i.kind, .int .i64 i.links, .int .i64 i.size, .slice a i.dir.length c, .int .i64 i.ind] 27)).alloc (.cells #[.bool g, .int .i64 i.kind, .int .i64 i.links, .int .i64 i.size, .slice b i.dir.length d, .int .i64 i.ind] 27)) := Chg.alloc (Chg.refl 0 0 _) _
  obtain ⟨⟨r0, r1, r2, r3, r4, r5⟩, _⟩ := six_all (heap_new (w.alloc (.cells #[.bool g, .int .i64 i.kind, .int .i64 i.links, .int .i64 i.size, .slice a i.dir.length c, .int .i64 i.ind] 27)) (.cells #[.bool g, .int .i64 i.kind, .int .i64 i.links, .int .i64 i.size, .slice b i.dir.length d, .int .i64 i.ind] 27))
  obtain ⟨⟨t0, t1, t2, t3, t4, t5⟩, _⟩ := six_all ((cA.block w.heap.size (by simp) (by omega)).trans (heap_new w (.cells #[.bool g, .int .i64 i.kind, .int .i64 i.links, .int .i64 i.size, .slice a i.dir.length c, .int .i64 i.ind] 27)))
  clear hA h1 h2 cA
  go_enter Try.func7, Try.ntmps7
  go_wp2_with fail
  generalize (w.alloc (.cells #[.bool g, .int .i64 i.kind, .int .i64 i.links, .int .i64 i.size, .slice a i.dir.length c, .int .i64 i.ind] 27)).alloc (.cells #[.bool g, .int .i64 i.kind, .int .i64 i.links, .int .i64 i.size, .slice b i.dir.length d, .int .i64 i.ind] 27) = w0 at *
  refine hE.mono ?_
  rintro e w1 ⟨rfl, h1⟩
  have HA1 : Hid (Chg 0 0 w w1) := HA.out.trans h1
  clear h1 HA hE hb r0 r1 r2 r3 r4 r5 t0 t1 t2 t3 t4 t5
  go_wp2
  go_ret
  exact ⟨rfl, HA1.out⟩

set_option maxRecDepth 20000 in
set_option maxHeartbeats 1000000 in
theorem markInodeW_calls (w : World) (i : Ino) (base : Nat) (ao : Option Addr) (cap k0 lo hi : Nat) (hl : i.dir.length ≤ 1048576) (hk0 : k0 ≤ 1048576) (h1 : OwnW w base (.slice ao i.dir.length cap) i.dir)
    (hb : ∀ g, (Value.slice ao i.dir.length cap).ownBlock = some g → lo ≤ g ∧ g < hi) :
    Calls Try.prog 18 #[inoV i ao cap, .int .i64 k0] w fun e w' => e = .returned (.int .i64 ((k0 + i.dir.length : Nat) : Int)) ∧ OwnW w' base (.slice ao i.dir.length cap) (marksI k0 i.dir.length) ∧ Chg lo hi w w' := by
  have C0 : Chg 0 0 w (w.alloc (inoO 25 i ao cap)) := Chg.alloc (Chg.refl 0 0 w) _
  have C1 : Chg lo hi w (w.alloc (inoO 25 i ao cap)) := Chg.alloc (Chg.refl lo hi w) _
  have hM := markInt64W_calls (w.alloc (inoO 25 i ao cap)) base (.slice ao i.dir.length cap) i.dir k0 lo hi (by omega) hk0 (h1.chg C0 (by intro g _; omega)) hb
  clear C0
  go_enter Try.func18, Try.ntmps18
  go_wp2_with fail
  generalize w.alloc (inoO 25 i ao cap) = w0 at *
  refine hM.mono ?_
  rintro e w1 ⟨rfl, o1, h1'⟩
  have HR : Hid (OwnW w1 base (.slice ao i.dir.length cap) (marksI k0 i.dir.length) ∧ Chg lo hi w w1) := ⟨o1, C1.trans h1'⟩
  clear hM o1 h1' C1 h1 hb
  go_wp2
  go_ret
  exact ⟨rfl, HR.out⟩

set_option maxRecDepth 20000 in
set_option maxHeartbeats 1000000 in
theorem markInodeResult_calls (w : World) (g : Bool) (i : Ino) (base : Nat) (a : Option Addr) (c k0 lo hi : Nat) (hl : i.dir.length ≤ 1048576) (hk0 : k0 ≤ 1048576) (h1 : OwnW w base (.slice a i.dir.length c) i.dir) (hb : ∀ g, (Value.slice a i.dir.length c).ownBlock = some g → lo ≤ g ∧ g < hi) :
    Calls Try.prog 10 #[.agg #[.bool g, .int .i64 i.kind, .int .i64 i.links, .int .i64 i.size, .slice a i.dir.length c, .int .i64 i.ind], .int .i64 k0] w fun e w' => e = .returned (.int .i64 ((k0 + i.dir.length : Nat) : Int)) ∧ OwnW w' base (.slice a i.dir.length c) (marksI k0 i.dir.length) ∧ Chg lo hi w w' := by
  have C0 : Chg 0 0 w (w.alloc (.cells #[.bool g, .int .i64 i.kind, .int .i64 i.links, .int .i64 i.size, .slice a i.dir.length c, .int .i64 i.ind] 27)) := Chg.alloc (Chg.refl 0 0 w) _
  have C1 : Chg lo hi w (w.alloc (.cells #[.bool g, .int .i64 i.kind, .int .i64 i.links, .int .i64 i.size, .slice a i.dir.length c, .int .i64 i.ind] 27)) := Chg.alloc (Chg.refl lo hi w) _
  have hM := markInodeW_calls (w.alloc (.cells #[.bool g, .int .i64 i.kind, .int .i64 i.links, .int .i64 i.size, .slice a i.dir.length c, .int .i64 i.ind] 27)) i base a c k0 lo hi hl (by omega) (h1.chg C0 (by intro g _; omega)) hb
  obtain ⟨⟨r0, r1, r2, r3, r4, r5⟩, _⟩ := six_all (heap_new w (.cells #[.bool g, .int .i64 i.kind, .int .i64 i.links, .int .i64 i.size, .slice a i.dir.length c, .int .i64 i.ind] 27))
  clear C0 h1 hb
  go_enter Try.func10, Try.ntmps10
  go_wp2_with fail
  generalize w.alloc (.cells #[.bool g, .int .i64 i.kind, .int .i64 i.links, .int .i64 i.size, .slice a i.dir.length c, .int .i64 i.ind] 27) = w0 at *
  refine hM.mono ?_
  rintro e w1 ⟨rfl, o1, h1'⟩
  have HR : Hid (OwnW w1 base (.slice a i.dir.length c) (marksI k0 i.dir.length) ∧ Chg lo hi w w1) := ⟨o1, C1.trans h1'⟩
  clear hM o1 h1' C1 r0 r1 r2 r3 r4 r5
  go_wp2
  go_ret
  exact ⟨rfl, HR.out⟩

set_option maxRecDepth 20000 in
set_option maxHeartbeats 1000000 in
theorem heldInode_calls (w : World) (i : Ino) (base : Nat) (a : Option Addr) (c k0 : Nat) (hl : i.dir.length ≤ 1048576) (hk1 : k0 ≤ 1048576) (h1 : OwnW w base (.slice a i.dir.length c) (marksI k0 i.dir.length)) :
    Calls Try.prog 19 #[inoV i a c, .int .i64 k0] w fun e w' => e = .returned (.int .i64 ((k0 + i.dir.length : Nat) : Int)) ∧ Chg 0 0 w w' := by
  have C0 : Chg 0 0 w (w.alloc (inoO 25 i a c)) := Chg.alloc (Chg.refl 0 0 w) _
  have hM := heldInt64W_calls (w.alloc (inoO 25 i a c)) base (.slice a i.dir.length c) k0 i.dir.length hl hk1 (h1.chg C0 (by intro g _; omega))
  have hnn : ¬ (((k0 + i.dir.length : Nat) : Int) < 0) := by omega
  clear h1
  go_enter Try.func19, Try.ntmps19
  go_wp2_with fail
  generalize w.alloc (inoO 25 i a c) = w0 at *
  refine hM.mono ?_
  rintro e w1 ⟨rfl, h1'⟩
  have HR : Hid (Chg 0 0 w w1) := C0.trans h1'
  clear hM h1' C0
  go_wp2
  go_ret
  exact ⟨rfl, HR.out⟩

set_option maxRecDepth 20000 in
set_option maxHeartbeats 1000000 in
theorem heldInodeResult_calls (w : World) (g : Bool) (i : Ino) (base : Nat) (a : Option Addr) (c k0 : Nat) (hl : i.dir.length ≤ 1048576) (hk1 : k0 ≤ 1048576) (h1 : OwnW w base (.slice a i.dir.length c) (marksI k0 i.dir.length)) :
    Calls Try.prog 11 #[.agg #[.bool g, .int .i64 i.kind, .int .i64 i.links, .int .i64 i.size, .slice a i.dir.length c, .int .i64 i.ind], .int .i64 k0] w fun e w' => e = .returned (.int .i64 ((k0 + i.dir.length : Nat) : Int)) ∧ Chg 0 0 w w' := by
  have C0 : Chg 0 0 w (w.alloc (.cells #[.bool g, .int .i64 i.kind, .int .i64 i.links, .int .i64 i.size, .slice a i.dir.length c, .int .i64 i.ind] 27)) := Chg.alloc (Chg.refl 0 0 w) _
  have hM := heldInode_calls (w.alloc (.cells #[.bool g, .int .i64 i.kind, .int .i64 i.links, .int .i64 i.size, .slice a i.dir.length c, .int .i64 i.ind] 27)) i base a c k0 hl hk1 (h1.chg C0 (by intro g _; omega))
  have hnn : ¬ (((k0 + i.dir.length : Nat) : Int) < 0) := by omega
  obtain ⟨⟨r0, r1, r2, r3, r4, r5⟩, _⟩ := six_all (heap_new w (.cells #[.bool g, .int .i64 i.kind, .int .i64 i.links, .int .i64 i.size, .slice a i.dir.length c, .int .i64 i.ind] 27))
  clear h1
  go_enter Try.func11, Try.ntmps11
  go_wp2_with fail
  generalize w.alloc (.cells #[.bool g, .int .i64 i.kind, .int .i64 i.links, .int .i64 i.size, .slice a i.dir.length c, .int .i64 i.ind] 27) = w0 at *
  refine hM.mono ?_
  rintro e w1 ⟨rfl, h1'⟩
  have HR : Hid (Chg 0 0 w w1) := C0.trans h1'
  clear hM h1' C0 r0 r1 r2 r3 r4 r5
  go_wp2
  go_ret
  exact ⟨rfl, HR.out⟩

set_option maxRecDepth 20000 in
set_option maxHeartbeats 4000000 in
theorem lawDecodeInode_walk (w : World) {hi : Nat} {a : Value} {xs : List Int} (hB : Byt xs) (h1 : View w 0 hi .u8 a xs) :
    Calls Try.prog 3 #[a] w fun e w' => e = .returned (.bool true) ∧ Below w.heap.size w w' := by
  have V0 : Hid (View w 0 hi .u8 a xs) := h1
  obtain ⟨ao, cap, rfl, hl0, _, _⟩ := h1
  by_cases hl : xs.length ≤ 1048576
  case neg =>
    go_enter Try.func3, Try.ntmps3
    go_wp2
    go_ret
    exact ⟨rfl, (Chg.refl 0 0 w).below (by omega)⟩
  have hle := decI_len xs
  have HS : Hid (∀ (w : World) (lo hi : Nat) (a : Value), View w lo hi .u8 a xs → Calls Try.prog 4 #[a] w fun e w' => ∃ v, e = .returned (irV (inoG xs) (decI xs) v) ∧ OwnI w' w.heap.size 2 v (decI xs).dir ∧ Chg 0 0 w w') := fun w lo hi a h => specDecInode_calls w h hB
  have HI : Hid (∀ (w : World) (lo hi : Nat) (a : Value), View w lo hi .u8 a xs → Calls Try.prog 6 #[a] w fun e w' => ∃ v, e = .returned (irV (inoG xs) (decI xs) v) ∧ OwnW w' w.heap.size v (decI xs).dir ∧ Chg 0 0 w w') := fun w lo hi a h => implDecodeInode_calls w h hB
  generalize inoG xs = g at *
  generalize decI xs = i at *
  have HSv : Hid (∀ v, irV g i v = .agg #[.bool g, .int .i64 i.kind, .int .i64 i.links, .int .i64 i.size, v, .int .i64 i.ind]) := fun v => rfl
  simp only [HSv.out] at HS HI
  clear hB
  have HA0 : Hid (Chg 0 0 w w) := Chg.refl 0 0 w
  go_enter Try.func3, Try.ntmps3
  go_wp2_with fail
  refine (toByteS_calls _ hl (V0.out.chg HA0.out (by omega))).mono ?_
  rintro e w1 ⟨g1, rfl, og1, h1⟩
  have HA1 : Hid (Chg 0 0 w w1) := HA0.out.trans h1
  have s1 := h1.size
  have VX1 : Hid (View w1 w.heap.size w1.heap.size .u8 (.slice (some ⟨g1, 0, none⟩) xs.length xs.length) xs) := og1.seen (by omega)
  clear og1
  clear h1 HA0
  go_wp2_with fail
  refine (HS.out _ _ _ _ VX1.out).mono ?_
  rintro e w2 ⟨vs, rfl, os, h2⟩
  have HA2 : Hid (Chg 0 0 w w2) := HA1.out.trans h2
  have s2 := h2.size
  have VS2 : Hid (View w2 w1.heap.size w2.heap.size .i64 vs i.dir) := os.seen (by omega)
  obtain ⟨sa, sc, rfl⟩ := os.sl
  clear os
  clear h2 HA1 VX1
  have Ca : Chg 0 0 w2 (w2.alloc (.cells #[.bool g, .int .i64 i.kind, .int .i64 i.links, .int .i64 i.size, .slice sa i.dir.length sc, .int .i64 i.ind] 27)) := Chg.alloc (Chg.refl 0 0 w2) _
  have sw2a : (w2.alloc (.cells #[.bool g, .int .i64 i.kind, .int .i64 i.links, .int .i64 i.size, .slice sa i.dir.length sc, .int .i64 i.ind] 27)).heap.size = w2.heap.size + 1 := by simp
  have HA2a : Hid (Chg 0 0 w (w2.alloc (.cells #[.bool g, .int .i64 i.kind, .int .i64 i.links, .int .i64 i.size, .slice sa i.dir.length sc, .int .i64 i.ind] 27))) := HA2.out.trans Ca
  have HW2a : Hid ((w2.alloc (.cells #[.bool g, .int .i64 i.kind, .int .i64 i.links, .int .i64 i.size, .slice sa i.dir.length sc, .int .i64 i.ind] 27)).heap[w2.heap.size]? = some (.cells #[.bool g, .int .i64 i.kind, .int .i64 i.links, .int .i64 i.size, .slice sa i.dir.length sc, .int .i64 i.ind] 27 (0, 0))) := heap_new w2 _
  have VS2a : Hid (View (w2.alloc (.cells #[.bool g, .int .i64 i.kind, .int .i64 i.links, .int .i64 i.size, .slice sa i.dir.length sc, .int .i64 i.ind] 27)) w1.heap.size w2.heap.size .i64 (.slice sa i.dir.length sc) i.dir) := VS2.out.chg Ca (by omega)
  clear Ca HA2 VS2
  go_wp2_with fail
  generalize w2.alloc (.cells #[.bool g, .int .i64 i.kind, .int .i64 i.links, .int .i64 i.size, .slice sa i.dir.length sc, .int .i64 i.ind] 27) = w2a at *
  refine (toByteS_calls _ hl (V0.out.chg HA2a.out (by omega))).mono ?_
  rintro e w3 ⟨g3, rfl, og3, h3⟩
  have HA3 : Hid (Chg 0 0 w w3) := HA2a.out.trans h3
  have s3 := h3.size
  have HW3 : Hid (w3.heap[w2.heap.size]? = some (.cells #[.bool g, .int .i64 i.kind, .int .i64 i.links, .int .i64 i.size, .slice sa i.dir.length sc, .int .i64 i.ind] 27 (0, 0))) := (h3.block _ (by omega) (by omega)).trans HW2a.out
  have VS3 : Hid (View w3 w1.heap.size w2.heap.size .i64 (.slice sa i.dir.length sc) i.dir) := VS2a.out.chg h3 (by omega)
  have HX3 : Hid (OwnB w3 w2a.heap.size 5 (.slice (some ⟨g3, 0, none⟩) xs.length xs.length) xs) := og3
  have XB : Hid (∀ z, (Value.slice (some ⟨g3, 0, none⟩) xs.length xs.length).ownBlock = some z → w2a.heap.size ≤ z ∧ z < w3.heap.size) := fun z hz => og3.lt z hz
  have VY3 : Hid (View w3 w2a.heap.size w3.heap.size .u8 (.slice (some ⟨g3, 0, none⟩) xs.length xs.length) xs) := og3.seen (by omega)
  clear og3
  clear h3 HA2a HW2a VS2a
  go_wp2_with fail
  refine (HI.out _ _ _ _ VY3.out).mono ?_
  rintro e w4 ⟨vg, rfl, og, h4⟩
  have HA4 : Hid (Chg 0 0 w w4) := HA3.out.trans h4
  have s4 := h4.size
  have HW4 : Hid (w4.heap[w2.heap.size]? = some (.cells #[.bool g, .int .i64 i.kind, .int .i64 i.links, .int .i64 i.size, .slice sa i.dir.length sc, .int .i64 i.ind] 27 (0, 0))) := (h4.block _ (by omega) (by omega)).trans HW3.out
  have VS4 : Hid (View w4 w1.heap.size w2.heap.size .i64 (.slice sa i.dir.length sc) i.dir) := VS3.out.chg h4 (by omega)
  have VY4 : Hid (View w4 w2a.heap.size w3.heap.size .u8 (.slice (some ⟨g3, 0, none⟩) xs.length xs.length) xs) := VY3.out.chg h4 (by omega)
  have HX4 : Hid (OwnB w4 w2a.heap.size 5 (.slice (some ⟨g3, 0, none⟩) xs.length xs.length) xs) := HX3.out.chg h4 (fun g hg => by have := (HX3.out.lt g hg); omega)
  have VG4 : Hid (View w4 w3.heap.size w4.heap.size .i64 vg i.dir) := og.seen (by omega)
  obtain ⟨ga, gc, rfl⟩ := og.slc
  have HG4 : Hid (OwnW w4 w3.heap.size (.slice ga i.dir.length gc) i.dir) := og
  have GB : Hid (∀ z, (Value.slice ga i.dir.length gc).ownBlock = some z → w3.heap.size ≤ z ∧ z < w4.heap.size) := fun z hz => og.lt z hz
  clear og
  clear h4 HA3 HW3 VS3 VY3 HX3
  have Ca : Chg 0 0 w4 (w4.alloc (.cells #[.bool g, .int .i64 i.kind, .int .i64 i.links, .int .i64 i.size, .slice ga i.dir.length gc, .int .i64 i.ind] 27)) := Chg.alloc (Chg.refl 0 0 w4) _
  have sw4a : (w4.alloc (.cells #[.bool g, .int .i64 i.kind, .int .i64 i.links, .int .i64 i.size, .slice ga i.dir.length gc, .int .i64 i.ind] 27)).heap.size = w4.heap.size + 1 := by simp
  have HA4a : Hid (Chg 0 0 w (w4.alloc (.cells #[.bool g, .int .i64 i.kind, .int .i64 i.links, .int .i64 i.size, .slice ga i.dir.length gc, .int .i64 i.ind] 27))) := HA4.out.trans Ca
  have HQ4a : Hid ((w4.alloc (.cells #[.bool g, .int .i64 i.kind, .int .i64 i.links, .int .i64 i.size, .slice ga i.dir.length gc, .int .i64 i.ind] 27)).heap[w4.heap.size]? = some (.cells #[.bool g, .int .i64 i.kind, .int .i64 i.links, .int .i64 i.size, .slice ga i.dir.length gc, .int .i64 i.ind] 27 (0, 0))) := heap_new w4 _
  have HW4a : Hid ((w4.alloc (.cells #[.bool g, .int .i64 i.kind, .int .i64 i.links, .int .i64 i.size, .slice ga i.dir.length gc, .int .i64 i.ind] 27)).heap[w2.heap.size]? = some (.cells #[.bool g, .int .i64 i.kind, .int .i64 i.links, .int .i64 i.size, .slice sa i.dir.length sc, .int .i64 i.ind] 27 (0, 0))) := (Ca.block _ (by omega) (by omega)).trans HW4.out
  have VS4a : Hid (View (w4.alloc (.cells #[.bool g, .int .i64 i.kind, .int .i64 i.links, .int .i64 i.size, .slice ga i.dir.length gc, .int .i64 i.ind] 27)) w1.heap.size w2.heap.size .i64 (.slice sa i.dir.length sc) i.dir) := VS4.out.chg Ca (by omega)
  have VY4a : Hid (View (w4.alloc (.cells #[.bool g, .int .i64 i.kind, .int .i64 i.links, .int .i64 i.size, .slice ga i.dir.length gc, .int .i64 i.ind] 27)) w2a.heap.size w3.heap.size .u8 (.slice (some ⟨g3, 0, none⟩) xs.length xs.length) xs) := VY4.out.chg Ca (by omega)
  have VG4a : Hid (View (w4.alloc (.cells #[.bool g, .int .i64 i.kind, .int .i64 i.links, .int .i64 i.size, .slice ga i.dir.length gc, .int .i64 i.ind] 27)) w3.heap.size w4.heap.size .i64 (.slice ga i.dir.length gc) i.dir) := VG4.out.chg Ca (by omega)
  have HX4a : Hid (OwnB (w4.alloc (.cells #[.bool g, .int .i64 i.kind, .int .i64 i.links, .int .i64 i.size, .slice ga i.dir.length gc, .int .i64 i.ind] 27)) w2a.heap.size 5 (.slice (some ⟨g3, 0, none⟩) xs.length xs.length) xs) := HX4.out.chg Ca (by intro g _; omega)
  have HG4a : Hid (OwnW (w4.alloc (.cells #[.bool g, .int .i64 i.kind, .int .i64 i.links, .int .i64 i.size, .slice ga i.dir.length gc, .int .i64 i.ind] 27)) w3.heap.size (.slice ga i.dir.length gc) i.dir) := HG4.out.chg Ca (by intro g _; omega)
  clear Ca HA4 HW4 VS4 VY4 VG4 HX4 HG4
  obtain ⟨⟨y0, y1, y2, y3, y4, y5⟩, _⟩ := six_all HQ4a.out
  obtain ⟨⟨y6, y7, y8, y9, y10, y11⟩, _⟩ := six_all HW4a.out
  go_wp2_with fail
  generalize w4.alloc (.cells #[.bool g, .int .i64 i.kind, .int .i64 i.links, .int .i64 i.size, .slice ga i.dir.length gc, .int .i64 i.ind] 27) = w4a at *
  clear y0 y1 y2 y3 y4 y5 y6 y7 y8 y9 y10 y11
  refine (eqInodeResult_calls _ g i ga sa gc sc VG4a.out VS4a.out).mono ?_
  rintro e w5 ⟨rfl, h5⟩
  have HA5 : Hid (Chg 0 0 w w5) := HA4a.out.trans h5
  have s5 := h5.size
  have HW5 : Hid (w5.heap[w2.heap.size]? = some (.cells #[.bool g, .int .i64 i.kind, .int .i64 i.links, .int .i64 i.size, .slice sa i.dir.length sc, .int .i64 i.ind] 27 (0, 0))) := (h5.block _ (by omega) (by omega)).trans HW4a.out
  have HQ5 : Hid (w5.heap[w4.heap.size]? = some (.cells #[.bool g, .int .i64 i.kind, .int .i64 i.links, .int .i64 i.size, .slice ga i.dir.length gc, .int .i64 i.ind] 27 (0, 0))) := (h5.block _ (by omega) (by omega)).trans HQ4a.out
  have VS5 : Hid (View w5 w1.heap.size w2.heap.size .i64 (.slice sa i.dir.length sc) i.dir) := VS4a.out.chg h5 (by omega)
  have VY5 : Hid (View w5 w2a.heap.size w3.heap.size .u8 (.slice (some ⟨g3, 0, none⟩) xs.length xs.length) xs) := VY4a.out.chg h5 (by omega)
  have VG5 : Hid (View w5 w3.heap.size w4.heap.size .i64 (.slice ga i.dir.length gc) i.dir) := VG4a.out.chg h5 (by omega)
  have HX5 : Hid (OwnB w5 w2a.heap.size 5 (.slice (some ⟨g3, 0, none⟩) xs.length xs.length) xs) := HX4a.out.chg h5 (fun g hg => by have := (HX4a.out.lt g hg); omega)
  have HG5 : Hid (OwnW w5 w3.heap.size (.slice ga i.dir.length gc) i.dir) := HG4a.out.chg h5 (fun g hg => by have := (HG4a.out.lt g hg); omega)
  clear h5 HA4a HW4a HQ4a VS4a VY4a VG4a HX4a HG4a
  go_wp2_with fail
  refine (toByteS_calls _ hl (V0.out.chg HA5.out (by omega))).mono ?_
  rintro e w6 ⟨g6, rfl, og6, h6⟩
  have HA6 : Hid (Chg 0 0 w w6) := HA5.out.trans h6
  have s6 := h6.size
  have HW6 : Hid (w6.heap[w2.heap.size]? = some (.cells #[.bool g, .int .i64 i.kind, .int .i64 i.links, .int .i64 i.size, .slice sa i.dir.length sc, .int .i64 i.ind] 27 (0, 0))) := (h6.block _ (by omega) (by omega)).trans HW5.out
  have HQ6 : Hid (w6.heap[w4.heap.size]? = some (.cells #[.bool g, .int .i64 i.kind, .int .i64 i.links, .int .i64 i.size, .slice ga i.dir.length gc, .int .i64 i.ind] 27 (0, 0))) := (h6.block _ (by omega) (by omega)).trans HQ5.out
  have VS6 : Hid (View w6 w1.heap.size w2.heap.size .i64 (.slice sa i.dir.length sc) i.dir) := VS5.out.chg h6 (by omega)
  have VY6 : Hid (View w6 w2a.heap.size w3.heap.size .u8 (.slice (some ⟨g3, 0, none⟩) xs.length xs.length) xs) := VY5.out.chg h6 (by omega)
  have VG6 : Hid (View w6 w3.heap.size w4.heap.size .i64 (.slice ga i.dir.length gc) i.dir) := VG5.out.chg h6 (by omega)
  have HX6 : Hid (OwnB w6 w2a.heap.size 5 (.slice (some ⟨g3, 0, none⟩) xs.length xs.length) xs) := HX5.out.chg h6 (fun g hg => by have := (HX5.out.lt g hg); omega)
  have HG6 : Hid (OwnW w6 w3.heap.size (.slice ga i.dir.length gc) i.dir) := HG5.out.chg h6 (fun g hg => by have := (HG5.out.lt g hg); omega)
  have VZ6 : Hid (View w6 w5.heap.size w6.heap.size .u8 (.slice (some ⟨g6, 0, none⟩) xs.length xs.length) xs) := og6.seen (by omega)
  clear og6
  clear h6 HA5 HW5 HQ5 VS5 VY5 VG5 HX5 HG5
  go_wp2_with fail
  refine (eqByteS_calls _ VY6.out VZ6.out).mono ?_
  rintro e w7 ⟨rfl, h7⟩
  have h7 := h7.chg 0 0
  have HA7 : Hid (Chg 0 0 w w7) := HA6.out.trans h7
  have s7 := h7.size
  have HW7 : Hid (w7.heap[w2.heap.size]? = some (.cells #[.bool g, .int .i64 i.kind, .int .i64 i.links, .int .i64 i.size, .slice sa i.dir.length sc, .int .i64 i.ind] 27 (0, 0))) := (h7.block _ (by omega) (by omega)).trans HW6.out
  have HQ7 : Hid (w7.heap[w4.heap.size]? = some (.cells #[.bool g, .int .i64 i.kind, .int .i64 i.links, .int .i64 i.size, .slice ga i.dir.length gc, .int .i64 i.ind] 27 (0, 0))) := (h7.block _ (by omega) (by omega)).trans HQ6.out
  have VS7 : Hid (View w7 w1.heap.size w2.heap.size .i64 (.slice sa i.dir.length sc) i.dir) := VS6.out.chg h7 (by omega)
  have VG7 : Hid (View w7 w3.heap.size w4.heap.size .i64 (.slice ga i.dir.length gc) i.dir) := VG6.out.chg h7 (by omega)
  have HX7 : Hid (OwnB w7 w2a.heap.size 5 (.slice (some ⟨g3, 0, none⟩) xs.length xs.length) xs) := HX6.out.chg h7 (fun g hg => by have := (HX6.out.lt g hg); omega)
  have HG7 : Hid (OwnW w7 w3.heap.size (.slice ga i.dir.length gc) i.dir) := HG6.out.chg h7 (fun g hg => by have := (HG6.out.lt g hg); omega)
  clear h7 HA6 HW6 HQ6 VS6 VY6 VG6 VZ6 HX6 HG6
  go_wp2_with fail
  refine (markByteS_calls _ _ _ _ _ 1 w2a.heap.size w3.heap.size (by omega) (by omega) HX7.out XB.out).mono ?_
  rintro e w8 ⟨rfl, _, h8, _, _⟩
  have HA8 : Hid (Chg 0 0 w w8) := HA7.out.step h8 (by have := HA7.out.size; omega)
  have s8 := h8.size
  have HW8 : Hid (w8.heap[w2.heap.size]? = some (.cells #[.bool g, .int .i64 i.kind, .int .i64 i.links, .int .i64 i.size, .slice sa i.dir.length sc, .int .i64 i.ind] 27 (0, 0))) := (h8.block _ (by omega) (by omega)).trans HW7.out
  have HQ8 : Hid (w8.heap[w4.heap.size]? = some (.cells #[.bool g, .int .i64 i.kind, .int .i64 i.links, .int .i64 i.size, .slice ga i.dir.length gc, .int .i64 i.ind] 27 (0, 0))) := (h8.block _ (by omega) (by omega)).trans HQ7.out
  have VS8 : Hid (View w8 w1.heap.size w2.heap.size .i64 (.slice sa i.dir.length sc) i.dir) := VS7.out.chg h8 (by omega)
  have VG8 : Hid (View w8 w3.heap.size w4.heap.size .i64 (.slice ga i.dir.length gc) i.dir) := VG7.out.chg h8 (by omega)
  have HG8 : Hid (OwnW w8 w3.heap.size (.slice ga i.dir.length gc) i.dir) := HG7.out.chg h8 (fun g hg => by have := (HG7.out.lt g hg); omega)
  clear h8 HA7 HW7 HQ7 VS7 VG7 HX7 HG7
  have hk0 : ¬ (((1 + xs.length : Nat) : Int) < 0) := by omega
  obtain ⟨⟨y0, y1, y2, y3, y4, y5⟩, _⟩ := six_all HQ8.out
  obtain ⟨⟨y6, y7, y8, y9, y10, y11⟩, _⟩ := six_all HW8.out
  go_wp2_with fail
  clear y0 y1 y2 y3 y4 y5 y6 y7 y8 y9 y10 y11
  refine (eqInodeResult_calls _ g i ga sa gc sc VG8.out VS8.out).mono ?_
  rintro e w9 ⟨rfl, h9⟩
  have HA9 : Hid (Chg 0 0 w w9) := HA8.out.trans h9
  have s9 := h9.size
  have HW9 : Hid (w9.heap[w2.heap.size]? = some (.cells #[.bool g, .int .i64 i.kind, .int .i64 i.links, .int .i64 i.size, .slice sa i.dir.length sc, .int .i64 i.ind] 27 (0, 0))) := (h9.block _ (by omega) (by omega)).trans HW8.out
  have HQ9 : Hid (w9.heap[w4.heap.size]? = some (.cells #[.bool g, .int .i64 i.kind, .int .i64 i.links, .int .i64 i.size, .slice ga i.dir.length gc, .int .i64 i.ind] 27 (0, 0))) := (h9.block _ (by omega) (by omega)).trans HQ8.out
  have VS9 : Hid (View w9 w1.heap.size w2.heap.size .i64 (.slice sa i.dir.length sc) i.dir) := VS8.out.chg h9 (by omega)
  have HG9 : Hid (OwnW w9 w3.heap.size (.slice ga i.dir.length gc) i.dir) := HG8.out.chg h9 (fun g hg => by have := (HG8.out.lt g hg); omega)
  clear h9 HA8 HW8 HQ8 VS8 VG8 HG8
  clear hk0
  obtain ⟨⟨y0, y1, y2, y3, y4, y5⟩, _⟩ := six_all HQ9.out
  go_wp2_with fail
  clear y0 y1 y2 y3 y4 y5
  refine (markInodeResult_calls _ g i w3.heap.size ga gc 1 w3.heap.size w4.heap.size (by omega) (by omega) HG9.out GB.out).mono ?_
  rintro e w10 ⟨rfl, om, h10⟩
  have HA10 : Hid (Chg 0 0 w w10) := HA9.out.step h10 (by have := HA9.out.size; omega)
  have s10 := h10.size
  have HW10 : Hid (w10.heap[w2.heap.size]? = some (.cells #[.bool g, .int .i64 i.kind, .int .i64 i.links, .int .i64 i.size, .slice sa i.dir.length sc, .int .i64 i.ind] 27 (0, 0))) := (h10.block _ (by omega) (by omega)).trans HW9.out
  have HQ10 : Hid (w10.heap[w4.heap.size]? = some (.cells #[.bool g, .int .i64 i.kind, .int .i64 i.links, .int .i64 i.size, .slice ga i.dir.length gc, .int .i64 i.ind] 27 (0, 0))) := (h10.block _ (by omega) (by omega)).trans HQ9.out
  have VS10 : Hid (View w10 w1.heap.size w2.heap.size .i64 (.slice sa i.dir.length sc) i.dir) := VS9.out.chg h10 (by omega)
  have VM10 : Hid (OwnW w10 w3.heap.size (.slice ga i.dir.length gc) (marksI 1 i.dir.length)) := om
  clear om
  clear h10 HA9 HW9 HQ9 VS9 HG9
  obtain ⟨⟨y0, y1, y2, y3, y4, y5⟩, _⟩ := six_all HQ10.out
  go_wp2_with fail
  clear y0 y1 y2 y3 y4 y5
  refine (heldInodeResult_calls _ g i w3.heap.size ga gc 1 (by omega) (by omega) VM10.out).mono ?_
  rintro e w11 ⟨rfl, h11⟩
  have HA11 : Hid (Chg 0 0 w w11) := HA10.out.trans h11
  have s11 := h11.size
  have HW11 : Hid (w11.heap[w2.heap.size]? = some (.cells #[.bool g, .int .i64 i.kind, .int .i64 i.links, .int .i64 i.size, .slice sa i.dir.length sc, .int .i64 i.ind] 27 (0, 0))) := (h11.block _ (by omega) (by omega)).trans HW10.out
  have HQ11 : Hid (w11.heap[w4.heap.size]? = some (.cells #[.bool g, .int .i64 i.kind, .int .i64 i.links, .int .i64 i.size, .slice ga i.dir.length gc, .int .i64 i.ind] 27 (0, 0))) := (h11.block _ (by omega) (by omega)).trans HQ10.out
  have VS11 : Hid (View w11 w1.heap.size w2.heap.size .i64 (.slice sa i.dir.length sc) i.dir) := VS10.out.chg h11 (by omega)
  clear h11 HA10 HW10 HQ10 VS10 VM10
  have hk0 : ¬ (((1 + i.dir.length : Nat) : Int) < 0) := by omega
  have hne : (((1 + i.dir.length : Nat) : Int) != ((1 + i.dir.length : Nat) : Int)) = false := by simp
  go_wp2_with fail
  clear hk0 hne
  refine (toByteS_calls _ hl (V0.out.chg HA11.out (by omega))).mono ?_
  rintro e w12 ⟨g12, rfl, og12, h12⟩
  have HA12 : Hid (Chg 0 0 w w12) := HA11.out.trans h12
  have s12 := h12.size
  have HW12 : Hid (w12.heap[w2.heap.size]? = some (.cells #[.bool g, .int .i64 i.kind, .int .i64 i.links, .int .i64 i.size, .slice sa i.dir.length sc, .int .i64 i.ind] 27 (0, 0))) := (h12.block _ (by omega) (by omega)).trans HW11.out
  have HQ12 : Hid (w12.heap[w4.heap.size]? = some (.cells #[.bool g, .int .i64 i.kind, .int .i64 i.links, .int .i64 i.size, .slice ga i.dir.length gc, .int .i64 i.ind] 27 (0, 0))) := (h12.block _ (by omega) (by omega)).trans HQ11.out
  have VS12 : Hid (View w12 w1.heap.size w2.heap.size .i64 (.slice sa i.dir.length sc) i.dir) := VS11.out.chg h12 (by omega)
  have VZ12 : Hid (View w12 w11.heap.size w12.heap.size .u8 (.slice (some ⟨g12, 0, none⟩) xs.length xs.length) xs) := og12.seen (by omega)
  clear og12
  clear h12 HA11 HW11 HQ11 VS11
  go_wp2_with fail
  refine (HI.out _ _ _ _ VZ12.out).mono ?_
  rintro e w13 ⟨vh, rfl, oh, h13⟩
  have HA13 : Hid (Chg 0 0 w w13) := HA12.out.trans h13
  have s13 := h13.size
  have HW13 : Hid (w13.heap[w2.heap.size]? = some (.cells #[.bool g, .int .i64 i.kind, .int .i64 i.links, .int .i64 i.size, .slice sa i.dir.length sc, .int .i64 i.ind] 27 (0, 0))) := (h13.block _ (by omega) (by omega)).trans HW12.out
  have HQ13 : Hid (w13.heap[w4.heap.size]? = some (.cells #[.bool g, .int .i64 i.kind, .int .i64 i.links, .int .i64 i.size, .slice ga i.dir.length gc, .int .i64 i.ind] 27 (0, 0))) := (h13.block _ (by omega) (by omega)).trans HQ12.out
  have VS13 : Hid (View w13 w1.heap.size w2.heap.size .i64 (.slice sa i.dir.length sc) i.dir) := VS12.out.chg h13 (by omega)
  have VH13 : Hid (View w13 w12.heap.size w13.heap.size .i64 vh i.dir) := oh.seen (by omega)
  obtain ⟨ha, hc, rfl⟩ := oh.slc
  clear oh
  clear h13 HA12 HW12 HQ12 VS12 VZ12
  have Ca : Chg 0 0 w13 (w13.alloc (.cells #[.bool g, .int .i64 i.kind, .int .i64 i.links, .int .i64 i.size, .slice ha i.dir.length hc, .int .i64 i.ind] 27)) := Chg.alloc (Chg.refl 0 0 w13) _
  have sw13a : (w13.alloc (.cells #[.bool g, .int .i64 i.kind, .int .i64 i.links, .int .i64 i.size, .slice ha i.dir.length hc, .int .i64 i.ind] 27)).heap.size = w13.heap.size + 1 := by simp
  have HA13a : Hid (Chg 0 0 w (w13.alloc (.cells #[.bool g, .int .i64 i.kind, .int .i64 i.links, .int .i64 i.size, .slice ha i.dir.length hc, .int .i64 i.ind] 27))) := HA13.out.trans Ca
  have HH13a : Hid ((w13.alloc (.cells #[.bool g, .int .i64 i.kind, .int .i64 i.links, .int .i64 i.size, .slice ha i.dir.length hc, .int .i64 i.ind] 27)).heap[w13.heap.size]? = some (.cells #[.bool g, .int .i64 i.kind, .int .i64 i.links, .int .i64 i.size, .slice ha i.dir.length hc, .int .i64 i.ind] 27 (0, 0))) := heap_new w13 _
  have HW13a : Hid ((w13.alloc (.cells #[.bool g, .int .i64 i.kind, .int .i64 i.links, .int .i64 i.size, .slice ha i.dir.length hc, .int .i64 i.ind] 27)).heap[w2.heap.size]? = some (.cells #[.bool g, .int .i64 i.kind, .int .i64 i.links, .int .i64 i.size, .slice sa i.dir.length sc, .int .i64 i.ind] 27 (0, 0))) := (Ca.block _ (by omega) (by omega)).trans HW13.out
  have HQ13a : Hid ((w13.alloc (.cells #[.bool g, .int .i64 i.kind, .int .i64 i.links, .int .i64 i.size, .slice ha i.dir.length hc, .int .i64 i.ind] 27)).heap[w4.heap.size]? = some (.cells #[.bool g, .int .i64 i.kind, .int .i64 i.links, .int .i64 i.size, .slice ga i.dir.length gc, .int .i64 i.ind] 27 (0, 0))) := (Ca.block _ (by omega) (by omega)).trans HQ13.out
  have VS13a : Hid (View (w13.alloc (.cells #[.bool g, .int .i64 i.kind, .int .i64 i.links, .int .i64 i.size, .slice ha i.dir.length hc, .int .i64 i.ind] 27)) w1.heap.size w2.heap.size .i64 (.slice sa i.dir.length sc) i.dir) := VS13.out.chg Ca (by omega)
  have VH13a : Hid (View (w13.alloc (.cells #[.bool g, .int .i64 i.kind, .int .i64 i.links, .int .i64 i.size, .slice ha i.dir.length hc, .int .i64 i.ind] 27)) w12.heap.size w13.heap.size .i64 (.slice ha i.dir.length hc) i.dir) := VH13.out.chg Ca (by omega)
  clear Ca HA13 HW13 HQ13 VS13 VH13
  obtain ⟨⟨y0, y1, y2, y3, y4, y5⟩, _⟩ := six_all HH13a.out
  obtain ⟨⟨y6, y7, y8, y9, y10, y11⟩, _⟩ := six_all HW13a.out
  go_wp2_with fail
  generalize w13.alloc (.cells #[.bool g, .int .i64 i.kind, .int .i64 i.links, .int .i64 i.size, .slice ha i.dir.length hc, .int .i64 i.ind] 27) = w13a at *
  clear y0 y1 y2 y3 y4 y5 y6 y7 y8 y9 y10 y11
  refine (eqInodeResult_calls _ g i ha sa hc sc VH13a.out VS13a.out).mono ?_
  rintro e w14 ⟨rfl, h14⟩
  have HA14 : Hid (Chg 0 0 w w14) := HA13a.out.trans h14
  have s14 := h14.size
  have HW14 : Hid (w14.heap[w2.heap.size]? = some (.cells #[.bool g, .int .i64 i.kind, .int .i64 i.links, .int .i64 i.size, .slice sa i.dir.length sc, .int .i64 i.ind] 27 (0, 0))) := (h14.block _ (by omega) (by omega)).trans HW13a.out
  have HQ14 : Hid (w14.heap[w4.heap.size]? = some (.cells #[.bool g, .int .i64 i.kind, .int .i64 i.links, .int .i64 i.size, .slice ga i.dir.length gc, .int .i64 i.ind] 27 (0, 0))) := (h14.block _ (by omega) (by omega)).trans HQ13a.out
  have HH14 : Hid (w14.heap[w13.heap.size]? = some (.cells #[.bool g, .int .i64 i.kind, .int .i64 i.links, .int .i64 i.size, .slice ha i.dir.length hc, .int .i64 i.ind] 27 (0, 0))) := (h14.block _ (by omega) (by omega)).trans HH13a.out
  have VS14 : Hid (View w14 w1.heap.size w2.heap.size .i64 (.slice sa i.dir.length sc) i.dir) := VS13a.out.chg h14 (by omega)
  have VH14 : Hid (View w14 w12.heap.size w13.heap.size .i64 (.slice ha i.dir.length hc) i.dir) := VH13a.out.chg h14 (by omega)
  clear h14 HA13a HW13a HQ13a HH13a VS13a VH13a
  go_wp2
  go_ret
  exact ⟨rfl, HA14.out.below (by omega)⟩

set_option maxRecDepth 100000 in
theorem lawDecodeInode_lifted (os : Os) (started : os.Started) (H : Type) (enc : TypeId × Value → H) :
    ReturnsInHanded {} Try.checked os 3 .any (Rows.fnExactDecodeInodeSpec.pre6 enc Try.prog Try.f3 Rows.fnExactDecodeInodeRow.domain false) (Rows.fnExactDecodeInodeSpec.post enc Try.prog Try.f3 false true false false) := by
  refine returnsInHanded_of_change (C := Try.checked) own started (by kernel_rfl) Try.func3
    (ChangeSpec.witness6 (enc := enc) (C := Try.checked) false ⟨#[], #[.slice none 0 0], []⟩ 8 (by kernel_rfl) (by kernel_rfl) (by kernel_rfl) (by kernel_rfl)) ?_
  intro W base args ds gs before hval0 hW hcnd _
  have hval : ∀ (j : Nat) t v, Try.f3.params[j]? = some t → args[j]? = some v → Value.okWide Try.prog W .any base t v := hval0
  have hW' := hW
  obtain ⟨p, q, hA0, hV, rfl, hfz, hnd⟩ := hW
  have hA : DataW.TrodAll enc Try.prog W 0 (fun _ => true) true Try.f3.params.toList args.toList ds p := hA0
  rw [Try.params3] at hA hval
  obtain ⟨v0, vs0, d0, ds0, p0, q0, hargs, rfl, rfl, h0, r0⟩ := trodAll_cons hA
  obtain ⟨rfl, rfl, rfl⟩ := trodAll_nil r0
  obtain rfl : args = #[v0] := by cases args; simp_all
  obtain ⟨rfl, rfl⟩ := trodVars_none hV
  have k0 := h0
  have lt0 : ∀ x ∈ p0, x.block < W.heap.size := by obtain ⟨m, hm⟩ := k0; exact DataW.trod_lt m _ _ _ hm
  obtain ⟨ka, kl, kcp, rfl⟩ := okWide_slice Try.underlying22 (hval 0 22 v0 rfl rfl)
  obtain ⟨xs, hx, hwf⟩ : ∃ xs, View W 0 W.heap.size .u8 (.slice ka kl kcp) xs ∧ ∀ x ∈ xs, (Lit.int .u8 x).wf = true := by obtain ⟨m, hm⟩ := h0; exact view_wf_of_trod Try.underlying22 Try.underlying5 (by kernel_rfl) hm
  clear hA0 hval0
  refine (lawDecodeInode_walk W (byt_of_wf hwf) hx).mono fun e W' ⟨he, bel⟩ => ?_
  subst he
  exact ⟨_, rfl, _, _, _, [], _, [], hW', trodAll_mk1 (shut_bool Try.underlying4 _), (trodAll_cons_mk (Below.trod laidOut (by kernel_rfl) (of_decide_eq_true (by kernel_rfl)) k0 bel lt0) trodAll_mk0), rfl, bel.frame _, fun h => by cases h⟩

theorem fnExactDecodeInode_holds : Rows.FnExactDecodeInodeSaid :=
  OpenClaim.holds_of_wide 3 Try.f3 rfl rfl rfl rfl rfl rfl rfl ⟨rfl, rfl, rfl, rfl, rfl⟩ rfl rfl rfl rfl rfl (by kernel_rfl) Try.func3 (by kernel_rfl)
    (of_decide_eq_true (by kernel_rfl)) (by unfold Func.isWrapper; first | (rw [if_pos (by decide +kernel)]; kernel_rfl) | (rw [if_neg (by decide +kernel)]; exact ⟨rfl, rfl⟩))
    (fun os started H enc _ => lawDecodeInode_lifted os started H enc)
#print axioms fnExactDecodeInode_holds
end Go.Proofs.Ytedjnnfaahkppaa
