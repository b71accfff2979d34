/- The law on EncodeInode (made by tools/mklaw_ino.py). -/
import Derived.Test.YtgadlmjljglpcaaImplIno2
import Derived.Test.YtgadlmjljglpcaaInoMark
import Derived.Test.YtgadlmjljglpcaaOpenIno
import Derived.Test.YtgadlmjljglpcaaEqB
import Derived.Test.YtgadlmjljglpcaaMarkB
import Derived.Test.YtgadlmjljglpcaaOwn
namespace Go.Proofs.Ytgadlmjljglpcaa
open Go.ChangeShapes Go.WideShapes Go.ChangeAt Go.RowKit

set_option maxRecDepth 20000 in
set_option maxHeartbeats 4000000 in
theorem lawEncodeInode_walk (w : World) (i : Ino) (ao : Option Addr) (cap : Nat) (hV : View w 0 w.heap.size .i64 (.slice ao i.dir.length cap) i.dir) :
    Calls Try.prog 3 #[inoV i ao cap] w fun e w' => e = .returned (.bool true) ∧ Below w.heap.size w w' := by
  have V0 : Hid (View w 0 w.heap.size .i64 (.slice ao i.dir.length cap) i.dir) := hV
  have hle : i.dir.length ≤ 9223372036854775807 := by obtain ⟨_, _, _, h, _⟩ := hV; exact h
  clear hV
  have hA : Chg 0 0 w (w.alloc (.cells #[.int .i64 i.kind, .int .i64 i.links, .int .i64 i.size, .slice ao i.dir.length cap, .int .i64 i.ind] 24)) := Chg.alloc (Chg.refl 0 0 w) _
  have B0 := heap_new w (.cells #[.int .i64 i.kind, .int .i64 i.links, .int .i64 i.size, .slice ao i.dir.length cap, .int .i64 i.ind] 24)
  have s0 : (w.alloc (.cells #[.int .i64 i.kind, .int .i64 i.links, .int .i64 i.size, .slice ao i.dir.length cap, .int .i64 i.ind] 24)).heap.size = w.heap.size + 1 := by simp
  have HB0 : Hid ((w.alloc (.cells #[.int .i64 i.kind, .int .i64 i.links, .int .i64 i.size, .slice ao i.dir.length cap, .int .i64 i.ind] 24)).heap[w.heap.size]? = some (.cells #[.int .i64 i.kind, .int .i64 i.links, .int .i64 i.size, .slice ao i.dir.length cap, .int .i64 i.ind] 24 (0, 0))) := B0
  have HA0 : Hid (Chg 0 0 w (w.alloc (.cells #[.int .i64 i.kind, .int .i64 i.links, .int .i64 i.size, .slice ao i.dir.length cap, .int .i64 i.ind] 24))) := hA
  clear hA B0
  obtain ⟨⟨q0, q1, q2, q3, q4⟩, _⟩ := ino_all HB0.out
  go_enter Try.func3, Try.ntmps3
  go_wp2_with fail
  clear q0 q1 q2 q3 q4
  generalize w.alloc (.cells #[.int .i64 i.kind, .int .i64 i.links, .int .i64 i.size, .slice ao i.dir.length cap, .int .i64 i.ind] 24) = w0 at *
  refine (szInode_calls _ i ao cap 1048576 hle (by omega)).mono ?_
  rintro e w1 ⟨rfl, h1⟩
  have HA1 : Hid (Chg 0 0 w w1) := HA0.out.trans h1
  have s1 := h1.size
  have HB1 : Hid (w1.heap[w.heap.size]? = some (.cells #[.int .i64 i.kind, .int .i64 i.links, .int .i64 i.size, .slice ao i.dir.length cap, .int .i64 i.ind] 24 (0, 0))) := (h1.block _ (by omega) (by omega)).trans HB0.out
  clear h1 HA0 HB0
  by_cases hl : i.dir.length ≤ 1048576
  case neg =>
    rw [lft_neg hl]
    go_wp2
    go_ret
    exact ⟨rfl, HA1.out.below (by omega)⟩
  rw [lft_pos hl]
  have hlx := encIno_len i
  have HS : Hid (∀ (w : World) (lo hi : Nat) (ao : Option Addr) (cap : Nat), View w lo hi .i64 (.slice ao i.dir.length cap) i.dir → Calls Try.prog 5 #[inoV i ao cap] w fun e w' => ∃ v, e = .returned v ∧ OwnB w' w.heap.size 5 v (encIno i) ∧ Chg 0 0 w w') := fun w lo hi ao cap h => specEncInode_calls w i ao cap hl h
  have HI : Hid (∀ (w : World) (lo hi : Nat) (ao : Option Addr) (cap : Nat), View w lo hi .i64 (.slice ao i.dir.length cap) i.dir → Calls Try.prog 7 #[inoV i ao cap] w fun e w' => ∃ v, e = .returned v ∧ OwnB w' w.heap.size 48 v (encIno i) ∧ Chg 0 0 w w') := fun w lo hi ao cap h => implEncodeInode_calls w i ao cap hl h
  generalize encIno i = X at *
  obtain ⟨⟨q0, q1, q2, q3, q4⟩, q5⟩ := ino_all HB1.out
  go_wp2_with fail
  clear q0 q1 q2 q3 q4 q5
  refine (toInode_own _ i ao cap hl (V0.out.chg HA1.out (by omega))).mono ?_
  rintro e w2 ⟨g2, rfl, o2, h2⟩
  have HA2 : Hid (Chg 0 0 w w2) := HA1.out.trans h2
  have s2 := h2.size
  have HB2 : Hid (w2.heap[w.heap.size]? = some (.cells #[.int .i64 i.kind, .int .i64 i.links, .int .i64 i.size, .slice ao i.dir.length cap, .int .i64 i.ind] 24 (0, 0))) := (h2.block _ (by omega) (by omega)).trans HB1.out
  have VX2 : Hid (View w2 w1.heap.size w2.heap.size .i64 (.slice (some ⟨g2, 0, none⟩) i.dir.length i.dir.length) i.dir) := o2.seen hl
  clear o2
  clear h2 HA1 HB1
  go_wp2_with fail
  refine (HS.out _ _ _ _ _ VX2.out).mono ?_
  rintro e w3 ⟨vs, rfl, os, h3⟩
  have HA3 : Hid (Chg 0 0 w w3) := HA2.out.trans h3
  have s3 := h3.size
  have HB3 : Hid (w3.heap[w.heap.size]? = some (.cells #[.int .i64 i.kind, .int .i64 i.links, .int .i64 i.size, .slice ao i.dir.length cap, .int .i64 i.ind] 24 (0, 0))) := (h3.block _ (by omega) (by omega)).trans HB2.out
  have VS3 : Hid (View w3 w2.heap.size w3.heap.size .u8 vs X) := os.seen (by omega)
  obtain ⟨sa, sl, sc, rfl⟩ := row_slice os
  clear os
  clear h3 HA2 HB2 VX2
  obtain ⟨⟨q0, q1, q2, q3, q4⟩, q5⟩ := ino_all HB3.out
  go_wp2_with fail
  clear q0 q1 q2 q3 q4 q5
  refine (toInode_own _ i ao cap hl (V0.out.chg HA3.out (by omega))).mono ?_
  rintro e w4 ⟨g4, rfl, o4, h4⟩
  have HA4 : Hid (Chg 0 0 w w4) := HA3.out.trans h4
  have s4 := h4.size
  have HB4 : Hid (w4.heap[w.heap.size]? = some (.cells #[.int .i64 i.kind, .int .i64 i.links, .int .i64 i.size, .slice ao i.dir.length cap, .int .i64 i.ind] 24 (0, 0))) := (h4.block _ (by omega) (by omega)).trans HB3.out
  have VS4 : Hid (View w4 w2.heap.size w3.heap.size .u8 (.slice sa sl sc) X) := VS3.out.chg h4 (by omega)
  have HX4 : Hid (OwnI w4 w3.heap.size 2 (.slice (some ⟨g4, 0, none⟩) i.dir.length i.dir.length) i.dir) := o4
  have XB : Hid (∀ g, (Value.slice (some ⟨g4, 0, none⟩) i.dir.length i.dir.length).ownBlock = some g → w3.heap.size ≤ g ∧ g < w4.heap.size) := fun g hg => o4.lt g hg
  have VY4 : Hid (View w4 w3.heap.size w4.heap.size .i64 (.slice (some ⟨g4, 0, none⟩) i.dir.length i.dir.length) i.dir) := o4.seen hl
  clear o4
  clear h4 HA3 HB3 VS3
  have Ca : Chg 0 0 w4 (w4.alloc (.cells #[.int .i64 i.kind, .int .i64 i.links, .int .i64 i.size, .slice (some ⟨g4, 0, none⟩) i.dir.length i.dir.length, .int .i64 i.ind] 28)) := Chg.alloc (Chg.refl 0 0 w4) _
  have s4a : (w4.alloc (.cells #[.int .i64 i.kind, .int .i64 i.links, .int .i64 i.size, .slice (some ⟨g4, 0, none⟩) i.dir.length i.dir.length, .int .i64 i.ind] 28)).heap.size = w4.heap.size + 1 := by simp
  have HA4a : Hid (Chg 0 0 w (w4.alloc (.cells #[.int .i64 i.kind, .int .i64 i.links, .int .i64 i.size, .slice (some ⟨g4, 0, none⟩) i.dir.length i.dir.length, .int .i64 i.ind] 28))) := HA4.out.trans Ca
  have HB4a : Hid ((w4.alloc (.cells #[.int .i64 i.kind, .int .i64 i.links, .int .i64 i.size, .slice (some ⟨g4, 0, none⟩) i.dir.length i.dir.length, .int .i64 i.ind] 28)).heap[w.heap.size]? = some (.cells #[.int .i64 i.kind, .int .i64 i.links, .int .i64 i.size, .slice ao i.dir.length cap, .int .i64 i.ind] 24 (0, 0))) := (Ca.block _ (by omega) (by omega)).trans HB4.out
  have HY4a : Hid ((w4.alloc (.cells #[.int .i64 i.kind, .int .i64 i.links, .int .i64 i.size, .slice (some ⟨g4, 0, none⟩) i.dir.length i.dir.length, .int .i64 i.ind] 28)).heap[w4.heap.size]? = some (.cells #[.int .i64 i.kind, .int .i64 i.links, .int .i64 i.size, .slice (some ⟨g4, 0, none⟩) i.dir.length i.dir.length, .int .i64 i.ind] 28 (0, 0))) := heap_new w4 _
  have VS4a : Hid (View (w4.alloc (.cells #[.int .i64 i.kind, .int .i64 i.links, .int .i64 i.size, .slice (some ⟨g4, 0, none⟩) i.dir.length i.dir.length, .int .i64 i.ind] 28)) w2.heap.size w3.heap.size .u8 (.slice sa sl sc) X) := VS4.out.chg Ca (by omega)
  have VY4a : Hid (View (w4.alloc (.cells #[.int .i64 i.kind, .int .i64 i.links, .int .i64 i.size, .slice (some ⟨g4, 0, none⟩) i.dir.length i.dir.length, .int .i64 i.ind] 28)) w3.heap.size w4.heap.size .i64 (.slice (some ⟨g4, 0, none⟩) i.dir.length i.dir.length) i.dir) := VY4.out.chg Ca (by omega)
  have HX4a : Hid (OwnI (w4.alloc (.cells #[.int .i64 i.kind, .int .i64 i.links, .int .i64 i.size, .slice (some ⟨g4, 0, none⟩) i.dir.length i.dir.length, .int .i64 i.ind] 28)) w3.heap.size 2 (.slice (some ⟨g4, 0, none⟩) i.dir.length i.dir.length) i.dir) := HX4.out.chg Ca (by intro g _; omega)
  obtain ⟨⟨q0, q1, q2, q3, q4⟩, _⟩ := ino_all HY4a.out
  clear Ca HA4 HB4 VS4 VY4 HX4
  go_wp2_with fail
  clear q0 q1 q2 q3 q4
  generalize w4.alloc (.cells #[.int .i64 i.kind, .int .i64 i.links, .int .i64 i.size, .slice (some ⟨g4, 0, none⟩) i.dir.length i.dir.length, .int .i64 i.ind] 28) = w4a at *
  refine (HI.out _ _ _ _ _ VY4a.out).mono ?_
  rintro e w5 ⟨vg, rfl, og, h5⟩
  have HA5 : Hid (Chg 0 0 w w5) := HA4a.out.trans h5
  have s5 := h5.size
  have HB5 : Hid (w5.heap[w.heap.size]? = some (.cells #[.int .i64 i.kind, .int .i64 i.links, .int .i64 i.size, .slice ao i.dir.length cap, .int .i64 i.ind] 24 (0, 0))) := (h5.block _ (by omega) (by omega)).trans HB4a.out
  have HY5 : Hid (w5.heap[w4.heap.size]? = some (.cells #[.int .i64 i.kind, .int .i64 i.links, .int .i64 i.size, .slice (some ⟨g4, 0, none⟩) i.dir.length i.dir.length, .int .i64 i.ind] 28 (0, 0))) := (h5.block _ (by omega) (by omega)).trans HY4a.out
  have VS5 : Hid (View w5 w2.heap.size w3.heap.size .u8 (.slice sa sl sc) X) := VS4a.out.chg h5 (by omega)
  have VY5 : Hid (View w5 w3.heap.size w4.heap.size .i64 (.slice (some ⟨g4, 0, none⟩) i.dir.length i.dir.length) i.dir) := VY4a.out.chg h5 (by omega)
  have HX5 : Hid (OwnI w5 w3.heap.size 2 (.slice (some ⟨g4, 0, none⟩) i.dir.length i.dir.length) i.dir) := HX4a.out.chg h5 (fun g hg => by have := (HX4a.out.lt g hg); omega)
  have VG5 : Hid (View w5 w4a.heap.size w5.heap.size .u8 vg X) := og.seen (by omega)
  obtain ⟨ga, gl, gc, rfl⟩ := row_slice og
  have HG5 : Hid (OwnB w5 w4a.heap.size 48 (.slice ga gl gc) X) := og
  have GB : Hid (∀ g, (Value.slice ga gl gc).ownBlock = some g → w4a.heap.size ≤ g ∧ g < w5.heap.size) := fun g hg => og.lt g hg
  clear og
  clear h5 HA4a HB4a HY4a VS4a VY4a HX4a
  go_wp2_with fail
  refine (eqByteS_calls _ VG5.out VS5.out).mono ?_
  rintro e w6 ⟨rfl, h6⟩
  have h6 := h6.chg 0 0
  have HA6 : Hid (Chg 0 0 w w6) := HA5.out.trans h6
  have s6 := h6.size
  have HB6 : Hid (w6.heap[w.heap.size]? = some (.cells #[.int .i64 i.kind, .int .i64 i.links, .int .i64 i.size, .slice ao i.dir.length cap, .int .i64 i.ind] 24 (0, 0))) := (h6.block _ (by omega) (by omega)).trans HB5.out
  have HY6 : Hid (w6.heap[w4.heap.size]? = some (.cells #[.int .i64 i.kind, .int .i64 i.links, .int .i64 i.size, .slice (some ⟨g4, 0, none⟩) i.dir.length i.dir.length, .int .i64 i.ind] 28 (0, 0))) := (h6.block _ (by omega) (by omega)).trans HY5.out
  have VS6 : Hid (View w6 w2.heap.size w3.heap.size .u8 (.slice sa sl sc) X) := VS5.out.chg h6 (by omega)
  have VY6 : Hid (View w6 w3.heap.size w4.heap.size .i64 (.slice (some ⟨g4, 0, none⟩) i.dir.length i.dir.length) i.dir) := VY5.out.chg h6 (by omega)
  have VG6 : Hid (View w6 w4a.heap.size w5.heap.size .u8 (.slice ga gl gc) X) := VG5.out.chg h6 (by omega)
  have HX6 : Hid (OwnI w6 w3.heap.size 2 (.slice (some ⟨g4, 0, none⟩) i.dir.length i.dir.length) i.dir) := HX5.out.chg h6 (fun g hg => by have := (HX5.out.lt g hg); omega)
  have HG6 : Hid (OwnB w6 w4a.heap.size 48 (.slice ga gl gc) X) := HG5.out.chg h6 (fun g hg => by have := (HG5.out.lt g hg); omega)
  clear h6 HA5 HB5 HY5 VS5 VY5 VG5 HX5 HG5
  go_upto_region 10 with fail
  go_cut [31] (fun s31 wx => s31 = .bool false ∧ Chg 0 0 w wx ∧ w6.heap.size ≤ wx.heap.size ∧ (wx.heap[w.heap.size]? = some (.cells #[.int .i64 i.kind, .int .i64 i.links, .int .i64 i.size, .slice ao i.dir.length cap, .int .i64 i.ind] 24 (0, 0))) ∧ (wx.heap[w4.heap.size]? = some (.cells #[.int .i64 i.kind, .int .i64 i.links, .int .i64 i.size, .slice (some ⟨g4, 0, none⟩) i.dir.length i.dir.length, .int .i64 i.ind] 28 (0, 0))) ∧ (View wx w2.heap.size w3.heap.size .u8 (.slice sa sl sc) X) ∧ (View wx w3.heap.size w4.heap.size .i64 (.slice (some ⟨g4, 0, none⟩) i.dir.length i.dir.length) i.dir) ∧ (View wx w4a.heap.size w5.heap.size .u8 (.slice ga gl gc) X) ∧ (OwnI wx w3.heap.size 2 (.slice (some ⟨g4, 0, none⟩) i.dir.length i.dir.length) i.dir) ∧ (OwnB wx w4a.heap.size 48 (.slice ga gl gc) X))
  case first =>
    have HS6 : Hid ((fun w' : World => w'.heap[w.heap.size]? = some (.cells #[.int .i64 i.kind, .int .i64 i.links, .int .i64 i.size, .slice ao i.dir.length cap, .int .i64 i.ind] 24 (0, 0)) ∧ w'.heap[w4.heap.size]? = some (.cells #[.int .i64 i.kind, .int .i64 i.links, .int .i64 i.size, .slice (some ⟨g4, 0, none⟩) i.dir.length i.dir.length, .int .i64 i.ind] 28 (0, 0))) w6.drew) := ⟨HB6.out, HY6.out⟩
    have Cd : Chg 0 0 w6 w6.drew := Chg.drew (Chg.refl 0 0 w6)
    have HAd : Hid (Chg 0 0 w w6.drew) := HA6.out.trans Cd
    have sd : w6.drew.heap.size = w6.heap.size := rfl
    have VYd : Hid (View w6.drew w3.heap.size w4.heap.size .i64 (.slice (some ⟨g4, 0, none⟩) i.dir.length i.dir.length) i.dir) := VY6.out.chg Cd (by omega)
    refine held_region (fun w' : World => w'.heap[w.heap.size]? = some (.cells #[.int .i64 i.kind, .int .i64 i.links, .int .i64 i.size, .slice ao i.dir.length cap, .int .i64 i.ind] 24 (0, 0)) ∧ w'.heap[w4.heap.size]? = some (.cells #[.int .i64 i.kind, .int .i64 i.links, .int .i64 i.size, .slice (some ⟨g4, 0, none⟩) i.dir.length i.dir.length, .int .i64 i.ind] 28 (0, 0))) (by kernel_rfl) ?_
    have HCd : Hid (Chg 0 0 w6 w6.drew) := Cd
    clear Cd
    generalize w6.drew = wd at *
    refine held_take 0 (inoV i (some ⟨g4, 0, none⟩) i.dir.length) rfl (by kernel_rfl) (by kernel_rfl) (by kernel_rfl) (fun _ _ _ h => h) (.inl ⟨by kernel_rfl, fun w' hw' => by obtain ⟨⟨r0, r1, r2, r3, r4⟩, _⟩ := ino_all hw'.1; obtain ⟨⟨t0, t1, t2, t3, t4⟩, _⟩ := ino_all hw'.2; go_simp⟩) HS6.out ?_
    go_simp
    refine held_take 1 (inoV i ao cap) rfl (by kernel_rfl) (by kernel_rfl) (by kernel_rfl) (fun _ _ _ h => h) (.inl ⟨by kernel_rfl, fun w' hw' => by obtain ⟨⟨r0, r1, r2, r3, r4⟩, _⟩ := ino_all hw'.1; obtain ⟨⟨t0, t1, t2, t3, t4⟩, _⟩ := ino_all hw'.2; go_simp⟩) HS6.out ?_
    go_simp
    refine held_one 2 rfl rfl (by kernel_rfl) ?_
    refine wp_enter 6 #[inoV i ao cap] (by first | kernel_rfl | go_simp) (toInode_own wd i ao cap hl (V0.out.chg HAd.out (by omega))) ?_
    rintro e wy ⟨gy, rfl, oy, hy⟩
    have sy := hy.size
    have HSy : Hid ((fun w' : World => w'.heap[w.heap.size]? = some (.cells #[.int .i64 i.kind, .int .i64 i.links, .int .i64 i.size, .slice ao i.dir.length cap, .int .i64 i.ind] 24 (0, 0)) ∧ w'.heap[w4.heap.size]? = some (.cells #[.int .i64 i.kind, .int .i64 i.links, .int .i64 i.size, .slice (some ⟨g4, 0, none⟩) i.dir.length i.dir.length, .int .i64 i.ind] 28 (0, 0))) wy) := ⟨(hy.block _ (by omega) (by omega)).trans HS6.out.1, (hy.block _ (by omega) (by omega)).trans HS6.out.2⟩
    have hE := eqInode_calls wy i (some ⟨g4, 0, none⟩) (some ⟨gy, 0, none⟩) i.dir.length i.dir.length (VYd.out.chg hy (by omega)) (oy.seen hl)
    have HCy : Hid (Chg 0 0 w6 wy) := HCd.out.trans hy
    clear oy hy
    refine ⟨_, rfl, HSy.out, ?_⟩
    go_simp
    refine held_one 3 rfl rfl (by kernel_rfl) ?_
    refine wp_enter 9 #[inoV i (some ⟨g4, 0, none⟩) i.dir.length, inoV i (some ⟨gy, 0, none⟩) i.dir.length] (by first | kernel_rfl | go_simp) hE ?_
    rintro e wz ⟨rfl, hz⟩
    have sz := hz.size
    have HSz : Hid ((fun w' : World => w'.heap[w.heap.size]? = some (.cells #[.int .i64 i.kind, .int .i64 i.links, .int .i64 i.size, .slice ao i.dir.length cap, .int .i64 i.ind] 24 (0, 0)) ∧ w'.heap[w4.heap.size]? = some (.cells #[.int .i64 i.kind, .int .i64 i.links, .int .i64 i.size, .slice (some ⟨g4, 0, none⟩) i.dir.length i.dir.length, .int .i64 i.ind] 28 (0, 0))) wz) := ⟨(hz.block _ (by omega) (by omega)).trans HSy.out.1, (hz.block _ (by omega) (by omega)).trans HSy.out.2⟩
    have cz := HCy.out.trans hz
    have HR : Hid (Chg 0 0 w wz ∧ w6.heap.size ≤ wz.heap.size ∧ (wz.heap[w.heap.size]? = some (.cells #[.int .i64 i.kind, .int .i64 i.links, .int .i64 i.size, .slice ao i.dir.length cap, .int .i64 i.ind] 24 (0, 0))) ∧ (wz.heap[w4.heap.size]? = some (.cells #[.int .i64 i.kind, .int .i64 i.links, .int .i64 i.size, .slice (some ⟨g4, 0, none⟩) i.dir.length i.dir.length, .int .i64 i.ind] 28 (0, 0))) ∧ (View wz w2.heap.size w3.heap.size .u8 (.slice sa sl sc) X) ∧ (View wz w3.heap.size w4.heap.size .i64 (.slice (some ⟨g4, 0, none⟩) i.dir.length i.dir.length) i.dir) ∧ (View wz w4a.heap.size w5.heap.size .u8 (.slice ga gl gc) X) ∧ (OwnI wz w3.heap.size 2 (.slice (some ⟨g4, 0, none⟩) i.dir.length i.dir.length) i.dir) ∧ (OwnB wz w4a.heap.size 48 (.slice ga gl gc) X)) := ⟨HA6.out.trans cz, cz.size, HSz.out.1, HSz.out.2, VS6.out.chg cz (by omega), VY6.out.chg cz (by omega), VG6.out.chg cz (by omega), HX6.out.chg cz (fun g hg => by have := HX6.out.lt g hg; omega), HG6.out.chg cz (fun g hg => by have := HG6.out.lt g hg; omega)⟩
    clear hE hz cz
    refine ⟨_, rfl, HSz.out, ?_⟩
    go_simp
    refine held_take 4 (.bool false) rfl (by kernel_rfl) (by kernel_rfl) (by kernel_rfl) (fun _ _ _ h => h) (.inl ⟨by kernel_rfl, fun w' hw' => by go_simp⟩) HSz.out ?_
    go_simp
    refine held_done (by kernel_rfl) (NoPanic.normal ?_)
    go_wp2
    go_meet
    exact ⟨rfl, HR.out⟩
  obtain ⟨rfl, hca, s7, hcb, hcy, hvs, hvy, hvg, hhx, hhg⟩ := hcut
  have HA7 : Hid (Chg 0 0 w wc) := hca
  have HB7 : Hid (wc.heap[w.heap.size]? = some (.cells #[.int .i64 i.kind, .int .i64 i.links, .int .i64 i.size, .slice ao i.dir.length cap, .int .i64 i.ind] 24 (0, 0))) := hcb
  have HY7 : Hid (wc.heap[w4.heap.size]? = some (.cells #[.int .i64 i.kind, .int .i64 i.links, .int .i64 i.size, .slice (some ⟨g4, 0, none⟩) i.dir.length i.dir.length, .int .i64 i.ind] 28 (0, 0))) := hcy
  have VS7 : Hid (View wc w2.heap.size w3.heap.size .u8 (.slice sa sl sc) X) := hvs
  have VG7 : Hid (View wc w4a.heap.size w5.heap.size .u8 (.slice ga gl gc) X) := hvg
  have HX7 : Hid (OwnI wc w3.heap.size 2 (.slice (some ⟨g4, 0, none⟩) i.dir.length i.dir.length) i.dir) := hhx
  have HG7 : Hid (OwnB wc w4a.heap.size 48 (.slice ga gl gc) X) := hhg
  clear hca hcb hcy hvs hvy hvg hhx hhg HA6 HB6 HY6 VS6 VY6 VG6 HX6 HG6
  generalize wc = w7 at *
  obtain ⟨⟨q0, q1, q2, q3, q4⟩, _⟩ := ino_all HY7.out
  go_wp2_with fail
  clear q0 q1 q2 q3 q4
  refine (markInode_calls _ i w3.heap.size (some ⟨g4, 0, none⟩) i.dir.length 1 w3.heap.size w4.heap.size hl (by omega) HX7.out XB.out).mono ?_
  rintro e w8 ⟨rfl, _, h8⟩
  have HA8 : Hid (Chg 0 0 w w8) := HA7.out.step h8 (by have := HA7.out.size; omega)
  have s8 := h8.size
  have HB8 : Hid (w8.heap[w.heap.size]? = some (.cells #[.int .i64 i.kind, .int .i64 i.links, .int .i64 i.size, .slice ao i.dir.length cap, .int .i64 i.ind] 24 (0, 0))) := (h8.block _ (by omega) (by omega)).trans HB7.out
  have HY8 : Hid (w8.heap[w4.heap.size]? = some (.cells #[.int .i64 i.kind, .int .i64 i.links, .int .i64 i.size, .slice (some ⟨g4, 0, none⟩) i.dir.length i.dir.length, .int .i64 i.ind] 28 (0, 0))) := (h8.block _ (by omega) (by omega)).trans HY7.out
  have VS8 : Hid (View w8 w2.heap.size w3.heap.size .u8 (.slice sa sl sc) X) := VS7.out.chg h8 (by omega)
  have VG8 : Hid (View w8 w4a.heap.size w5.heap.size .u8 (.slice ga gl gc) X) := VG7.out.chg h8 (by omega)
  have HG8 : Hid (OwnB w8 w4a.heap.size 48 (.slice ga gl gc) X) := HG7.out.chg h8 (fun g hg => by have := (HG7.out.lt g hg); omega)
  clear h8 HA7 HB7 HY7 VS7 VG7 HX7 HG7
  have hk0 : ¬ (((1 + i.dir.length : Nat) : Int) < 0) := by omega
  go_wp2_with fail
  refine (eqByteS_calls _ VG8.out VS8.out).mono ?_
  rintro e w9 ⟨rfl, h9⟩
  have h9 := h9.chg 0 0
  have HA9 : Hid (Chg 0 0 w w9) := HA8.out.trans h9
  have s9 := h9.size
  have HB9 : Hid (w9.heap[w.heap.size]? = some (.cells #[.int .i64 i.kind, .int .i64 i.links, .int .i64 i.size, .slice ao i.dir.length cap, .int .i64 i.ind] 24 (0, 0))) := (h9.block _ (by omega) (by omega)).trans HB8.out
  have VS9 : Hid (View w9 w2.heap.size w3.heap.size .u8 (.slice sa sl sc) X) := VS8.out.chg h9 (by omega)
  have HG9 : Hid (OwnB w9 w4a.heap.size 48 (.slice ga gl gc) X) := HG8.out.chg h9 (fun g hg => by have := (HG8.out.lt g hg); omega)
  clear h9 HA8 HB8 VS8 VG8 HG8
  clear hk0
  go_wp2_with fail
  refine (markByteS_calls _ _ _ _ _ 1 w4a.heap.size w5.heap.size (by omega) (by omega) HG9.out GB.out).mono ?_
  rintro e w10 ⟨rfl, om, h10, _, _⟩
  have HA10 : Hid (Chg 0 0 w w10) := HA9.out.step h10 (by have := HA9.out.size; omega)
  have s10 := h10.size
  have HB10 : Hid (w10.heap[w.heap.size]? = some (.cells #[.int .i64 i.kind, .int .i64 i.links, .int .i64 i.size, .slice ao i.dir.length cap, .int .i64 i.ind] 24 (0, 0))) := (h10.block _ (by omega) (by omega)).trans HB9.out
  have VS10 : Hid (View w10 w2.heap.size w3.heap.size .u8 (.slice sa sl sc) X) := VS9.out.chg h10 (by omega)
  have VM10 : Hid (View w10 w4a.heap.size w10.heap.size .u8 (.slice ga gl gc) (marks 1 X.length)) := om.seen (by rw [marks_length]; omega)
  clear om
  clear h10 HA9 HB9 VS9 HG9
  go_wp2_with fail
  refine (heldByteS_calls _ 1 _ (by omega) VM10.out).mono ?_
  rintro e w11 ⟨rfl, h11⟩
  have h11 := h11.chg 0 0
  have HA11 : Hid (Chg 0 0 w w11) := HA10.out.trans h11
  have s11 := h11.size
  have HB11 : Hid (w11.heap[w.heap.size]? = some (.cells #[.int .i64 i.kind, .int .i64 i.links, .int .i64 i.size, .slice ao i.dir.length cap, .int .i64 i.ind] 24 (0, 0))) := (h11.block _ (by omega) (by omega)).trans HB10.out
  have VS11 : Hid (View w11 w2.heap.size w3.heap.size .u8 (.slice sa sl sc) X) := VS10.out.chg h11 (by omega)
  clear h11 HA10 HB10 VS10 VM10
  have hk0 : ¬ (((1 + X.length : Nat) : Int) < 0) := by omega
  have hne : (((1 + X.length : Nat) : Int) != ((1 + X.length : Nat) : Int)) = false := by simp
  obtain ⟨⟨q0, q1, q2, q3, q4⟩, q5⟩ := ino_all HB11.out
  go_wp2_with fail
  clear q0 q1 q2 q3 q4 q5
  clear hk0 hne
  refine (toInode_own _ i ao cap hl (V0.out.chg HA11.out (by omega))).mono ?_
  rintro e w12 ⟨g12, rfl, o12, h12⟩
  have HA12 : Hid (Chg 0 0 w w12) := HA11.out.trans h12
  have s12 := h12.size
  have HB12 : Hid (w12.heap[w.heap.size]? = some (.cells #[.int .i64 i.kind, .int .i64 i.links, .int .i64 i.size, .slice ao i.dir.length cap, .int .i64 i.ind] 24 (0, 0))) := (h12.block _ (by omega) (by omega)).trans HB11.out
  have VS12 : Hid (View w12 w2.heap.size w3.heap.size .u8 (.slice sa sl sc) X) := VS11.out.chg h12 (by omega)
  have VZ12 : Hid (View w12 w11.heap.size w12.heap.size .i64 (.slice (some ⟨g12, 0, none⟩) i.dir.length i.dir.length) i.dir) := o12.seen hl
  clear o12
  clear h12 HA11 HB11 VS11
  go_wp2_with fail
  refine (HI.out _ _ _ _ _ VZ12.out).mono ?_
  rintro e w13 ⟨vh, rfl, oh, h13⟩
  have HA13 : Hid (Chg 0 0 w w13) := HA12.out.trans h13
  have s13 := h13.size
  have HB13 : Hid (w13.heap[w.heap.size]? = some (.cells #[.int .i64 i.kind, .int .i64 i.links, .int .i64 i.size, .slice ao i.dir.length cap, .int .i64 i.ind] 24 (0, 0))) := (h13.block _ (by omega) (by omega)).trans HB12.out
  have VS13 : Hid (View w13 w2.heap.size w3.heap.size .u8 (.slice sa sl sc) X) := VS12.out.chg h13 (by omega)
  have VH13 : Hid (View w13 w12.heap.size w13.heap.size .u8 vh X) := oh.seen (by omega)
  obtain ⟨ha, hl2, hc2, rfl⟩ := row_slice oh
  clear oh
  clear h13 HA12 HB12 VS12 VZ12
  go_wp2_with fail
  refine (eqByteS_calls _ VH13.out VS13.out).mono ?_
  rintro e w14 ⟨rfl, h14⟩
  have h14 := h14.chg 0 0
  have HA14 : Hid (Chg 0 0 w w14) := HA13.out.trans h14
  have s14 := h14.size
  have HB14 : Hid (w14.heap[w.heap.size]? = some (.cells #[.int .i64 i.kind, .int .i64 i.links, .int .i64 i.size, .slice ao i.dir.length cap, .int .i64 i.ind] 24 (0, 0))) := (h14.block _ (by omega) (by omega)).trans HB13.out
  have VS14 : Hid (View w14 w2.heap.size w3.heap.size .u8 (.slice sa sl sc) X) := VS13.out.chg h14 (by omega)
  have VH14 : Hid (View w14 w12.heap.size w13.heap.size .u8 (.slice ha hl2 hc2) X) := VH13.out.chg h14 (by omega)
  clear h14 HA13 HB13 VS13 VH13
  go_wp2
  go_ret
  exact ⟨rfl, HA14.out.below (by omega)⟩

set_option maxRecDepth 100000 in
theorem lawEncodeInode_lifted (os : Os) (started : os.Started) (H : Type) (enc : TypeId × Value → H) :
    ReturnsInHanded {} Try.checked os 3 .any (Rows.fnExactEncodeInodeSpec.pre6 enc Try.prog Try.f3 Rows.fnExactEncodeInodeRow.domain false) (Rows.fnExactEncodeInodeSpec.post enc Try.prog Try.f3 false true false false) := by
  refine returnsInHanded_of_change (C := Try.checked) own started (by kernel_rfl) Try.func3
    (ChangeSpec.witness6 (enc := enc) (C := Try.checked) false ⟨#[], #[.agg #[.int .i64 0, .int .i64 0, .int .i64 0, .slice none 0 0, .int .i64 0]], []⟩ 8 (by kernel_rfl) (by kernel_rfl) (by kernel_rfl) (by kernel_rfl)) ?_
  intro W base args ds gs before hval0 hW hcnd _
  have hval : ∀ (j : Nat) t v, Try.f3.params[j]? = some t → args[j]? = some v → Value.okWide Try.prog W .any base t v := hval0
  have hW' := hW
  obtain ⟨p, q, hA0, hV, rfl, hfz, hnd⟩ := hW
  have hA : DataW.TrodAll enc Try.prog W 0 (fun _ => true) true Try.f3.params.toList args.toList ds p := hA0
  rw [Try.params3] at hA hval
  obtain ⟨v0, vs0, d0, ds0, p0, q0, hargs, rfl, rfl, h0, r0⟩ := trodAll_cons hA
  obtain ⟨rfl, rfl, rfl⟩ := trodAll_nil r0
  obtain rfl : args = #[v0] := by cases args; simp_all
  obtain ⟨rfl, rfl⟩ := trodVars_none hV
  have k0 := h0
  have lt0 : ∀ x ∈ p0, x.block < W.heap.size := by obtain ⟨m, hm⟩ := k0; exact DataW.trod_lt m _ _ _ hm
  obtain ⟨i, ao, cap, rfl, hV2⟩ := ino_of_trod (hval 0 24 v0 rfl rfl) h0
  clear hA0 hval0
  refine (lawEncodeInode_walk W i ao cap hV2).mono fun e W' ⟨he, bel⟩ => ?_
  subst he
  exact ⟨_, rfl, _, _, _, [], _, [], hW', trodAll_mk1 (shut_bool Try.underlying4 _), (trodAll_cons_mk (Below.trod laidOut (by kernel_rfl) (of_decide_eq_true (by kernel_rfl)) k0 bel lt0) trodAll_mk0), rfl, bel.frame _, fun h => by cases h⟩

theorem fnExactEncodeInode_holds : Rows.FnExactEncodeInodeSaid :=
  OpenClaim.holds_of_wide 3 Try.f3 rfl rfl rfl rfl rfl rfl rfl ⟨rfl, rfl, rfl, rfl, rfl⟩ rfl rfl rfl rfl rfl (by kernel_rfl) Try.func3 (by kernel_rfl)
    (of_decide_eq_true (by kernel_rfl)) (by unfold Func.isWrapper; first | (rw [if_pos (by decide +kernel)]; kernel_rfl) | (rw [if_neg (by decide +kernel)]; exact ⟨rfl, rfl⟩))
    (fun os started H enc _ => lawEncodeInode_lifted os started H enc)
#print axioms fnExactEncodeInode_holds
end Go.Proofs.Ytgadlmjljglpcaa
