/- Several short texts in one: SpecSuper, SuperWrong, ImplNew. -/
import Derived.Test.YtkegadjdlkfabaaGreatDoorSpecHead2
import Derived.Test.YtkegadjdlkfabaaGreatDoorCells2
import Derived.Test.YtkegadjdlkfabaaGreatDoorOkSup
import Derived.Test.YtkegadjdlkfabaaGreatDoorSmall
import Derived.Deep.RegionWith
import Derived.Deep.DeepCutAuto
import Derived.Test.YtkegadjdlkfabaaGreatDoorRows
namespace Go.Proofs.YtkegadjdlkfabaaGreatDoor
open Go.RowKit

theorem supA_head (c q s : Int) : headL 1 c q ++ putN s 2 ++ List.replicate 46 0 = supA 106 108 111 103 1 c q s := by
  unfold headL supA mg
  simp

set_option maxRecDepth 20000 in
set_option maxHeartbeats 4000000 in
theorem specJSuper_ok (w : World) (c s q : Int) (h : OkS c q s) (hB : Byt (supA 106 108 111 103 1 c q s)) :
    Calls Tryz.prog 19 #[.agg #[.int .i64 c, .int .i64 s, .int .i64 q]] w fun e w' => ∃ v, e = .returned v ∧ OwnB w' w.heap.size 5 v (supL 106 108 111 103 1 c q s) ∧ Chg 0 0 w w' := by
  obtain ⟨a1, a2, a3, a4, a5, a6⟩ := h
  have Hc2 : Hid ((putN c 2).length = 2) := pn2 (by omega) (by omega)
  have Hq4 : Hid ((putN q 4).length = 4) := pn4 (by omega) (by omega)
  have Hs2 : Hid _ := pn2 (by omega) (by omega)
  have HBy : Hid _ := hB
  have hg : goodSeq q = true := by unfold goodSeq; rw [decide_eq_true a1, decide_eq_true a2]; rfl
  have C0 : Chg 0 0 w (w.alloc (.cells #[.int .i64 c, .int .i64 s, .int .i64 q] 42)) := Chg.alloc (Chg.refl 0 0 w) _
  have B0 := heap_new w (.cells #[.int .i64 c, .int .i64 s, .int .i64 q] 42)
  have s0 : (w.alloc (.cells #[.int .i64 c, .int .i64 s, .int .i64 q] 42)).heap.size = w.heap.size + 1 := by simp
  have hN := l3GoodSeq_calls (w.alloc (.cells #[.int .i64 c, .int .i64 s, .int .i64 q] 42)) q
  rw [hg] at hN
  have HB : Hid _ := B0
  have HC : Hid _ := C0
  have b1 : ¬ c < 16 := by omega
  have b2 : ¬ 512 < c := by omega
  have b3 : ¬ s < 0 := by omega
  have b4 : ¬ c < s := by omega
  clear C0 B0 hB hg
  go_enter Tryz.func19, Tryz.ntmps19
  go_wp2_with fail
  generalize w.alloc (.cells #[.int .i64 c, .int .i64 s, .int .i64 q] 42) = w1 at *
  refine hN.mono ?_
  rintro e w2 ⟨rfl, rfl⟩
  have hlt : w.heap.size < w2.heap.size := by omega
  clear hN s0
  obtain ⟨k0, k1, k2⟩ := trio HB.out
  go_upto_region 4 with fail
  go_cut [4] (fun s4 wx => OwnB wx w.heap.size 5 s4 (headL 1 c q ++ putN s 2) ∧ Chg 0 0 w2 wx)
  case first =>
    have HS0 : Hid (w2.drew.cell? ⟨w.heap.size, 0, none⟩ = some (.int .i64 c) ∧ w2.drew.cell? ⟨w.heap.size, 1, none⟩ = some (.int .i64 s) ∧ w2.drew.cell? ⟨w.heap.size, 2, none⟩ = some (.int .i64 q)) := ⟨k0, k1, k2⟩
    have HC0 : Hid _ := Chg.drew (Chg.refl 0 0 w2)
    have hq2 : q ≤ 9223372036854775807 := by omega
    clear k0 k1 k2
    refine held_region (fun w' : World => w'.cell? ⟨w.heap.size, 0, none⟩ = some (.int .i64 c) ∧ w'.cell? ⟨w.heap.size, 1, none⟩ = some (.int .i64 s) ∧ w'.cell? ⟨w.heap.size, 2, none⟩ = some (.int .i64 q)) (by kernel_rfl) ?_
    refine held_take 0 (.pointer (some ⟨w.heap.size, 0, none⟩)) rfl (by kernel_rfl) (by kernel_rfl) (by kernel_rfl) (fun _ _ _ h => h) (.inl ⟨by kernel_rfl, fun w' hw' => by have h4 := hw'.1; have h5 := hw'.2.1; have h6 := hw'.2.2; go_simp⟩) HS0.out ?_
    go_simp
    refine held_take 1 (.int .i64 c) rfl (by kernel_rfl) (by kernel_rfl) (by kernel_rfl) (fun _ _ _ h => h) (.inl ⟨by kernel_rfl, fun w' hw' => by have h4 := hw'.1; have h5 := hw'.2.1; have h6 := hw'.2.2; go_simp⟩) HS0.out ?_
    go_simp
    refine held_take 2 (.pointer (some ⟨w.heap.size, 2, none⟩)) rfl (by kernel_rfl) (by kernel_rfl) (by kernel_rfl) (fun _ _ _ h => h) (.inl ⟨by kernel_rfl, fun w' hw' => by have h4 := hw'.1; have h5 := hw'.2.1; have h6 := hw'.2.2; go_simp⟩) HS0.out ?_
    go_simp
    refine held_take 3 (.int .i64 q) rfl (by kernel_rfl) (by kernel_rfl) (by kernel_rfl) (fun _ _ _ h => h) (.inl ⟨by kernel_rfl, fun w' hw' => by have h4 := hw'.1; have h5 := hw'.2.1; have h6 := hw'.2.2; go_simp⟩) HS0.out ?_
    go_simp
    refine held_take 5 (.pointer (some ⟨w.heap.size, 1, none⟩)) rfl (by kernel_rfl) (by kernel_rfl) (by kernel_rfl) (fun _ _ _ h => h) (.inl ⟨by kernel_rfl, fun w' hw' => by have h4 := hw'.1; have h5 := hw'.2.1; have h6 := hw'.2.2; go_simp⟩) HS0.out ?_
    go_simp
    refine held_take 6 (.int .i64 s) rfl (by kernel_rfl) (by kernel_rfl) (by kernel_rfl) (fun _ _ _ h => h) (.inl ⟨by kernel_rfl, fun w' hw' => by have h4 := hw'.1; have h5 := hw'.2.1; have h6 := hw'.2.2; go_simp⟩) HS0.out ?_
    go_simp
    have hds : w.heap.size < w2.drew.heap.size := by show w.heap.size < w2.heap.size; omega
    generalize w2.drew = w3 at *
    have hN := l3Head_calls w3 1 c q (by omega) (by omega) (by omega) Hc2.out Hq4.out
    refine held_one 4 rfl rfl (by kernel_rfl) ?_
    refine wp_enter 25 #[.int .i64 1, .int .i64 c, .int .i64 q] (by first | kernel_rfl | go_simp) hN ?_
    rintro e w4 ⟨v4, rfl, o4, h4⟩
    obtain ⟨e4, l4, c4, rfl⟩ := row_slice o4
    have HS4 : Hid (w4.cell? ⟨w.heap.size, 0, none⟩ = some (.int .i64 c) ∧ w4.cell? ⟨w.heap.size, 1, none⟩ = some (.int .i64 s) ∧ w4.cell? ⟨w.heap.size, 2, none⟩ = some (.int .i64 q)) := ⟨h4.cell HS0.out.1 (by omega), h4.cell HS0.out.2.1 (by omega), h4.cell HS0.out.2.2 (by omega)⟩
    have s4 := h4.size
    have HO4 : Hid (OwnB w4 w3.heap.size 5 (.slice e4 l4 c4) (headL 1 c q)) := o4
    have HC4 : Hid _ := HC0.out.trans h4
    refine ⟨_, rfl, HS4.out, ?_⟩
    clear hN o4 h4
    go_simp
    have hN := specPut_calls w4 s 2 (by omega)
    refine held_one 7 rfl rfl (by kernel_rfl) ?_
    refine wp_enter 26 #[.int .i64 s, .int .i64 2] (by first | kernel_rfl | go_simp) hN ?_
    rintro e w5 ⟨v5, rfl, o5, h5⟩
    have HS5 : Hid (_ ∧ _ ∧ _) := ⟨h5.cell HS4.out.1 (by omega), h5.cell HS4.out.2.1 (by omega), h5.cell HS4.out.2.2 (by omega)⟩
    have s5 := h5.size
    have HV4 : Hid (View w5 w3.heap.size w4.heap.size .u8 (.slice e4 l4 c4) (headL 1 c q)) := (HO4.out.view (by have h1 := Hc2.out; have h2 := Hq4.out; simp [headL, mg, h1, h2]) (fun g hg => (HO4.out.lt g hg).2)).chg h5 (by omega)
    have HV5 : Hid (View w5 w4.heap.size w5.heap.size .u8 v5 (putN s 2)) := o5.view (by rw [Hs2.out]; omega) (fun g hg => (o5.lt g hg).2)
    obtain ⟨e5, l5, c5, rfl⟩ := row_slice o5
    have HC5 : Hid _ := HC4.out.trans h5
    refine ⟨_, rfl, HS5.out, ?_⟩
    clear hN o5 h5
    go_simp
    obtain ⟨b5, f5, rfl⟩ : ∃ b f, e5 = some ⟨b, f, none⟩ := by
      obtain ⟨ao, cap, e, _, _, h⟩ := HV5.out
      rcases h with h | ⟨b, off, hb, _⟩
      · have := Hs2.out; rw [h] at this; simp at this
      · simp only [Value.slice.injEq] at e
        exact ⟨b, off, by rw [e.1, hb]⟩
    have hN := l2Join_calls (xs := headL 1 c q) (ys := putN s 2) w5 (by have h1 := Hc2.out; have h2 := Hq4.out; simp [headL, mg, h1, h2]) (by rw [Hs2.out]; omega) HV4.out HV5.out (by rw [Hs2.out]; omega)
    refine held_one 8 rfl rfl (by kernel_rfl) ?_
    refine wp_enter 24 #[.slice e4 l4 c4, .slice (some ⟨b5, f5, none⟩) l5 c5] (by first | kernel_rfl | go_simp) hN ?_
    rintro e w6 ⟨v6, rfl, o6, h6⟩
    have HS6 : Hid (_ ∧ _ ∧ _) := ⟨h6.cell HS5.out.1 (by omega), h6.cell HS5.out.2.1 (by omega), h6.cell HS5.out.2.2 (by omega)⟩
    have s6 := h6.size
    have Hl14 : Hid ((headL 1 c q ++ putN s 2).length = 14) := by
      show _ = _
      have h1 := Hc2.out; have h2 := Hq4.out; have h3 := Hs2.out
      simp [headL, mg, h1, h2, h3]
    have HO6 : Hid (OwnB w6 w.heap.size 5 v6 (headL 1 c q ++ putN s 2)) := o6.base (fun g hg => by have := (o6.lt g hg).1; omega)
    obtain ⟨e6, l6, c6, rfl⟩ := row_slice o6
    have HC6 : Hid _ := HC5.out.trans h6
    refine ⟨_, rfl, HS6.out, ?_⟩
    clear hN o6 h6
    go_simp
    refine held_one 9 rfl rfl (by kernel_rfl) ?_
    go_simp
    refine ⟨HS6.out, ?_⟩
    refine held_done (by kernel_rfl) (NoPanic.normal ?_)
    go_wp2
    go_meet
    exact ⟨HO6.out, HC6.out⟩
  case rest =>
    obtain ⟨ho, hc⟩ := hcut
    have hl14 : (headL 1 c q ++ putN s 2).length = 14 := by
      have h1 := Hc2.out; have h2 := Hq4.out; have h3 := Hs2.out
      simp [headL, mg, h1, h2, h3]
    have Hl14 : Hid _ := hl14
    obtain ⟨hd, Hhd⟩ : ∃ hd, Hid (hd = headL 1 c q ++ putN s 2) := ⟨_, rfl⟩
    rw [← Hhd.out] at ho hl14
    have Hl : Hid _ := hl14
    have sW := hc.size
    have HCw : Hid _ := HC.out.trans hc
    have vh := ho.view (hi := wc.heap.size) (by omega) (fun g hg => (ho.lt g hg).2)
    obtain ⟨e4, l4, c4, rfl⟩ := row_slice ho
    generalize wc = w3 at *
    clear ho hc Hl14 hl14 k0 k1 k2
    have hN := l2Zero_calls w3 46 (by omega)
    go_wp2_with fail
    refine hN.mono ?_
    rintro e w4 ⟨g, rfl, oz, h4⟩
    have s4 := h4.size
    have vz := oz.view (hi := w4.heap.size) (by simp) (fun g hg => (oz.lt g hg).2)
    have vh4 := vh.chg h4 (by omega)
    have HC4 : Hid _ := HCw.out.trans h4
    have hN2 := l2Join_calls (xs := hd) (ys := List.replicate 46 0) w4 (by have := Hl.out; omega) (by simp) vh4 vz (by simp)
    rw [show hd ++ List.replicate 46 0 = supA 106 108 111 103 1 c q s from by rw [Hhd.out]; exact supA_head c q s] at hN2
    clear hN oz h4 vz vh vh4
    go_wp2_with fail
    refine hN2.mono ?_
    rintro e w5 ⟨v5, rfl, o5, h5⟩
    have s5 := h5.size
    have Hal : Hid ((supA 106 108 111 103 1 c q s).length = 60) := supA_length Hc2.out Hq4.out Hs2.out
    have va := o5.view (hi := w5.heap.size) (by rw [Hal.out]; omega) (fun g hg => (o5.lt g hg).2)
    obtain ⟨e5, l5, c5, rfl⟩ := row_slice o5
    have HC5 : Hid _ := HC4.out.trans h5
    obtain ⟨hc0, hc1⟩ := crcV_range (supA 106 108 111 103 1 c q s)
    have hc4 := pn4 hc0 hc1
    have HSL : Hid (supA 106 108 111 103 1 c q s ++ putN (crcV (supA 106 108 111 103 1 c q s)) 4 = supL 106 108 111 103 1 c q s) := rfl
    have hN := specCrc_calls w5 HBy.out va
    have va' := va
    generalize supA 106 108 111 103 1 c q s = xa at *
    generalize crcV xa = cv at *
    have Hc4 : Hid _ := hc4
    clear hN2 o5 h5 hc4
    go_wp2_with fail
    refine hN.mono ?_
    rintro e w6 ⟨rfl, rfl⟩
    have hN3 := specPut_calls w6 cv 4 (by omega)
    clear hN
    go_wp2_with fail
    refine hN3.mono ?_
    rintro e w7 ⟨v7, rfl, o7, h7⟩
    have s7 := h7.size
    have HC7 : Hid _ := HC5.out.trans h7
    have va7 := va.chg h7 (by omega)
    have v7' := o7.view (hi := w7.heap.size) (by rw [Hc4.out]; omega) (fun g hg => (o7.lt g hg).2)
    obtain ⟨g7, c7, rfl⟩ : ∃ g c, v7 = .slice (some ⟨g, 0, none⟩) 4 c := by
      rcases o7.2 with ⟨_, h0⟩ | ⟨g, gc, cur, rfl, _⟩
      · rw [Hc4.out] at h0; omega
      · exact ⟨g, gc, by rw [Hc4.out]⟩
    have hN4 := l2Join_calls (xs := xa) (ys := putN cv 4) w7 (by rw [Hal.out]; omega) (by rw [Hc4.out]; omega) va7 v7' (by rw [Hc4.out]; omega)
    rw [HSL.out] at hN4
    clear hN3 o7 h7 va va' va7 v7'
    go_wp2_with fail
    refine hN4.mono ?_
    rintro e w8 ⟨v8, rfl, o8, h8⟩
    have HO8 : Hid (OwnB w8 w.heap.size 5 v8 (supL 106 108 111 103 1 c q s)) := o8.base (fun g hg => by have := (o8.lt g hg).1; have := HC7.out.size; omega)
    have HC8 : Hid _ := HC7.out.trans h8
    clear hN4 o8 h8
    go_wp2
    go_ret
    exact ⟨_, rfl, HO8.out, HC8.out⟩

end Go.Proofs.YtkegadjdlkfabaaGreatDoor

namespace Go.Proofs.YtkegadjdlkfabaaGreatDoor
open Go.RowKit

abbrev hd7V (h0 h1 h2 h3 kd it sq : Int) : Value := .agg #[.int .u8 h0, .int .u8 h1, .int .u8 h2, .int .u8 h3, .int .i64 kd, .int .i64 it, .int .i64 sq]

set_option maxRecDepth 20000 in
set_option maxHeartbeats 1000000 in
theorem count_calls (w : World) (h0 h1 h2 h3 kd it sq : Int) :
    Calls Tryz.prog 63 #[hd7V h0 h1 h2 h3 kd it sq] w fun e w' => e = .returned (.int .i64 it) ∧ Chg 0 0 w w' := by
  have HC : Hid (Chg 0 0 w (w.alloc (.cells #[.int .u8 h0, .int .u8 h1, .int .u8 h2, .int .u8 h3, .int .i64 kd, .int .i64 it, .int .i64 sq] 53))) := Chg.alloc (Chg.refl 0 0 w) _
  go_enter Tryz.func63, Tryz.ntmps63
  go_wp2
  go_ret
  exact ⟨rfl, HC.out⟩

set_option maxRecDepth 20000 in
set_option maxHeartbeats 1000000 in
theorem outside_ok (w : World) (h0 h1 h2 h3 kd it sq l m : Int) (a1 : 1 ≤ sq) (a2 : sq ≤ 4294967295) (a3 : l ≤ it) (a4 : it ≤ m) :
    Calls Tryz.prog 70 #[hd7V h0 h1 h2 h3 kd it sq, .int .i64 l, .int .i64 m] w fun e w' => e = .returned .nilIface ∧ Chg 0 0 w w' := by
  have HC : Hid (Chg 0 0 w (w.alloc (.cells #[.int .u8 h0, .int .u8 h1, .int .u8 h2, .int .u8 h3, .int .i64 kd, .int .i64 it, .int .i64 sq] 53))) := Chg.alloc (Chg.refl 0 0 w) _
  have c1 : ¬ sq < 1 := by omega
  have c2 : ¬ 4294967295 < sq := by omega
  have c3 : ¬ it < l := by omega
  have c4 : ¬ m < it := by omega
  go_enter Tryz.func70, Tryz.ntmps70
  go_wp2
  go_ret
  exact ⟨rfl, HC.out⟩

theorem eight {w : World} {s : Nat} {a0 a1 a2 a3 a4 a5 a6 a7 : Value} {t : TypeId} (h : w.heap[s]? = some (.cells #[a0, a1, a2, a3, a4, a5, a6, a7] t (0, 0))) :
    w.cell? ⟨s, 0, none⟩ = some a0 ∧ w.cell? ⟨s, 1, none⟩ = some a1 ∧ w.cell? ⟨s, 2, none⟩ = some a2 ∧ w.cell? ⟨s, 3, none⟩ = some a3 ∧ w.cell? ⟨s, 4, none⟩ = some a4 ∧ w.cell? ⟨s, 5, none⟩ = some a5 ∧ w.cell? ⟨s, 6, none⟩ = some a6 ∧ w.cell? ⟨s, 7, none⟩ = some a7 := by
  simp [World.cell?, h]

set_option maxRecDepth 20000 in
set_option maxHeartbeats 4000000 in
theorem superWrong_ok (w : World) (h0 h1 h2 h3 kd it sq st : Int) (a1 : 1 ≤ sq) (a2 : sq ≤ 4294967295) (a3 : 16 ≤ it) (a4 : it ≤ 512) (a5 : 0 ≤ st) (a6 : st ≤ it) :
    Calls Tryz.prog 65 #[.agg #[.int .u8 h0, .int .u8 h1, .int .u8 h2, .int .u8 h3, .int .i64 kd, .int .i64 it, .int .i64 sq, .int .i64 st]] w fun e w' => e = .returned .nilIface ∧ Chg 0 0 w w' := by
  have HC : Hid (Chg 0 0 w (w.alloc (.cells #[.int .u8 h0, .int .u8 h1, .int .u8 h2, .int .u8 h3, .int .i64 kd, .int .i64 it, .int .i64 sq, .int .i64 st] 55))) := Chg.alloc (Chg.refl 0 0 w) _
  have HB : Hid ((w.alloc (.cells #[.int .u8 h0, .int .u8 h1, .int .u8 h2, .int .u8 h3, .int .i64 kd, .int .i64 it, .int .i64 sq, .int .i64 st] 55)).heap[w.heap.size]? = some (.cells #[.int .u8 h0, .int .u8 h1, .int .u8 h2, .int .u8 h3, .int .i64 kd, .int .i64 it, .int .i64 sq, .int .i64 st] 55 (0, 0))) := heap_new _ _
  obtain ⟨k0, k1, k2, k3, k4, k5, k6, k7⟩ := eight HB.out
  have c1 : decide (st < 0) = false := decide_eq_false (by omega)
  have c2 : ¬ it < st := by omega
  go_enter Tryz.func65, Tryz.ntmps65
  go_wp2
  generalize w.alloc (.cells #[.int .u8 h0, .int .u8 h1, .int .u8 h2, .int .u8 h3, .int .i64 kd, .int .i64 it, .int .i64 sq, .int .i64 st] 55) = w0 at *
  have hN := count_calls w0.drew h0 h1 h2 h3 kd it sq
  go_region_with (go_at_call 63; refine hN.mono ?_; rintro e w1 ⟨rfl, h1'⟩; have y7 := h1'.cell (show w0.drew.cell? ⟨w.heap.size, 7, none⟩ = _ from k7) (by omega))
  all_goals
    have HB1 : Hid (w1.heap[w.heap.size]? = some (.cells #[.int .u8 h0, .int .u8 h1, .int .u8 h2, .int .u8 h3, .int .i64 kd, .int .i64 it, .int .i64 sq, .int .i64 st] 55 (0, 0))) := (h1'.block w.heap.size (lt_of_cell k0) (by omega)).trans HB.out
    have HC1 : Hid (Chg 0 0 w w1) := HC.out.drew.trans h1'
    obtain ⟨y0, y1, y2, y3, y4, y5, y6, y7⟩ := eight HB1.out
    clear h1'
    go_wp2_with fail
    refine (outside_ok _ h0 h1 h2 h3 kd it sq 16 512 a1 a2 a3 a4).mono ?_
    rintro e w2 ⟨rfl, h2'⟩
    have HC2 : Hid (Chg 0 0 w w2) := HC1.out.trans h2'
    clear h2'
    go_wp2
    go_ret
    exact ⟨rfl, HC2.out⟩

end Go.Proofs.YtkegadjdlkfabaaGreatDoor

namespace Go.Proofs.YtkegadjdlkfabaaGreatDoor
open Go.RowKit

set_option maxRecDepth 20000 in
set_option maxHeartbeats 1000000 in
theorem newHeader_calls (w : World) (kd it sq : Int) (m0 : w.cell? ⟨0, 0, none⟩ = some (.int .u8 106)) (m1 : w.cell? ⟨0, 1, none⟩ = some (.int .u8 108)) (m2 : w.cell? ⟨0, 2, none⟩ = some (.int .u8 111)) (m3 : w.cell? ⟨0, 3, none⟩ = some (.int .u8 103)) :
    Calls Tryz.prog 36 #[.int .i64 kd, .int .i64 it, .int .i64 sq] w fun e w' => e = .returned (.agg #[.int .u8 106, .int .u8 108, .int .u8 111, .int .u8 103, .int .i64 kd, .int .i64 it, .int .i64 sq]) ∧ Chg 0 0 w w' := by
  have C0 : Chg 0 0 w (w.alloc (.cells #[.int .u8 0, .int .u8 0, .int .u8 0, .int .u8 0, .int .i64 0, .int .i64 0, .int .i64 0] 53)) := Chg.alloc (Chg.refl 0 0 w) _
  have n0 := C0.cell m0 (by omega)
  have n1 := C0.cell m1 (by omega)
  have n2 := C0.cell m2 (by omega)
  have n3 := C0.cell m3 (by omega)
  have HC : Hid (Chg 0 0 w (w.alloc (.cells #[.int .u8 106, .int .u8 108, .int .u8 111, .int .u8 103, .int .i64 kd, .int .i64 it, .int .i64 sq] 53))) := Chg.alloc (Chg.refl 0 0 w) _
  clear C0
  go_enter Tryz.func36, Tryz.ntmps36
  go_wp2
  exact bodyPost_ret (v := .agg #[.int .u8 106, .int .u8 108, .int .u8 111, .int .u8 103, .int .i64 kd, .int .i64 it, .int .i64 sq]) (by simp [results, Tryz.results36, go_sem]) rfl ⟨rfl, HC.out⟩

end Go.Proofs.YtkegadjdlkfabaaGreatDoor
