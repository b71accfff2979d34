/- Several short texts in one: SpecSuper, BitSpec. -/
import Derived.Test.YtmfkgnifkkkkiaaDoorWeak
import Derived.Test.YtmfkgnifkkkkiaaDoorBytSeen
import Derived.Test.YtmfkgnifkkkkiaaDoorOkSup
import Derived.Test.YtmfkgnifkkkkiaaDoorEncRow
import Derived.Deep.RegionWith
import Derived.Deep.DeepCutAuto
import Derived.Test.YtmfkgnifkkkkiaaDoorSteps
namespace Go.Proofs.YtmfkgnifkkkkiaaDoor
open Go.RowKit

theorem supA_head (c q s : Int) : headL 1 c q ++ putN s 2 ++ List.replicate 46 0 = supA 106 108 111 103 1 c q s := by
  unfold headL supA mg
  simp

set_option maxRecDepth 20000 in
set_option maxHeartbeats 4000000 in
theorem specJSuper_ok (w : World) (c s q : Int) (h : OkS c q s) (hB : Byt (supA 106 108 111 103 1 c q s)) :
    Calls Tryd.prog 15 #[.agg #[.int .i64 c, .int .i64 s, .int .i64 q]] w fun e w' => ∃ v, e = .returned v ∧ OwnB w' w.heap.size 5 v (supL 106 108 111 103 1 c q s) ∧ Chg 0 0 w w' := by
  obtain ⟨a1, a2, a3, a4, a5, a6⟩ := h
  have Hc2 : Hid ((putN c 2).length = 2) := pn2 (by omega) (by omega)
  have Hq4 : Hid ((putN q 4).length = 4) := pn4 (by omega) (by omega)
  have Hs2 : Hid _ := pn2 (by omega) (by omega)
  have HBy : Hid _ := hB
  have hg : goodSeq q = true := by unfold goodSeq; rw [decide_eq_true a1, decide_eq_true a2]; rfl
  have C0 : Chg 0 0 w (w.alloc (.cells #[.int .i64 c, .int .i64 s, .int .i64 q] 43)) := Chg.alloc (Chg.refl 0 0 w) _
  have B0 := heap_new w (.cells #[.int .i64 c, .int .i64 s, .int .i64 q] 43)
  have s0 : (w.alloc (.cells #[.int .i64 c, .int .i64 s, .int .i64 q] 43)).heap.size = w.heap.size + 1 := by simp
  have hN := l3GoodSeq_calls (w.alloc (.cells #[.int .i64 c, .int .i64 s, .int .i64 q] 43)) q
  rw [hg] at hN
  have HB : Hid _ := B0
  have HC : Hid _ := C0
  have b1 : ¬ c < 16 := by omega
  have b2 : ¬ 512 < c := by omega
  have b3 : ¬ s < 0 := by omega
  have b4 : ¬ c < s := by omega
  clear C0 B0 hB hg
  go_enter Tryd.func15, Tryd.ntmps15
  go_wp2_with fail
  generalize w.alloc (.cells #[.int .i64 c, .int .i64 s, .int .i64 q] 43) = w1 at *
  refine hN.mono ?_
  rintro e w2 ⟨rfl, rfl⟩
  have hlt : w.heap.size < w2.heap.size := by omega
  clear hN s0
  obtain ⟨k0, k1, k2⟩ := trio HB.out
  go_upto_region 4 with fail
  go_cut [4] (fun s4 wx => OwnB wx w.heap.size 5 s4 (headL 1 c q ++ putN s 2) ∧ Chg 0 0 w2 wx)
  case first =>
    have HS0 : Hid (w2.drew.cell? ⟨w.heap.size, 0, none⟩ = some (.int .i64 c) ∧ w2.drew.cell? ⟨w.heap.size, 1, none⟩ = some (.int .i64 s) ∧ w2.drew.cell? ⟨w.heap.size, 2, none⟩ = some (.int .i64 q)) := ⟨k0, k1, k2⟩
    have HC0 : Hid _ := Chg.drew (Chg.refl 0 0 w2)
    have hq2 : q ≤ 9223372036854775807 := by omega
    clear k0 k1 k2
    refine held_region (fun w' : World => w'.cell? ⟨w.heap.size, 0, none⟩ = some (.int .i64 c) ∧ w'.cell? ⟨w.heap.size, 1, none⟩ = some (.int .i64 s) ∧ w'.cell? ⟨w.heap.size, 2, none⟩ = some (.int .i64 q)) (by kernel_rfl) ?_
    refine held_take 0 (.pointer (some ⟨w.heap.size, 0, none⟩)) rfl (by kernel_rfl) (by kernel_rfl) (by kernel_rfl) (fun _ _ _ h => h) (.inl ⟨by kernel_rfl, fun w' hw' => by have h4 := hw'.1; have h5 := hw'.2.1; have h6 := hw'.2.2; go_simp⟩) HS0.out ?_
    go_simp
    refine held_take 1 (.int .i64 c) rfl (by kernel_rfl) (by kernel_rfl) (by kernel_rfl) (fun _ _ _ h => h) (.inl ⟨by kernel_rfl, fun w' hw' => by have h4 := hw'.1; have h5 := hw'.2.1; have h6 := hw'.2.2; go_simp⟩) HS0.out ?_
    go_simp
    refine held_take 2 (.pointer (some ⟨w.heap.size, 2, none⟩)) rfl (by kernel_rfl) (by kernel_rfl) (by kernel_rfl) (fun _ _ _ h => h) (.inl ⟨by kernel_rfl, fun w' hw' => by have h4 := hw'.1; have h5 := hw'.2.1; have h6 := hw'.2.2; go_simp⟩) HS0.out ?_
    go_simp
    refine held_take 3 (.int .i64 q) rfl (by kernel_rfl) (by kernel_rfl) (by kernel_rfl) (fun _ _ _ h => h) (.inl ⟨by kernel_rfl, fun w' hw' => by have h4 := hw'.1; have h5 := hw'.2.1; have h6 := hw'.2.2; go_simp⟩) HS0.out ?_
    go_simp
    refine held_take 5 (.pointer (some ⟨w.heap.size, 1, none⟩)) rfl (by kernel_rfl) (by kernel_rfl) (by kernel_rfl) (fun _ _ _ h => h) (.inl ⟨by kernel_rfl, fun w' hw' => by have h4 := hw'.1; have h5 := hw'.2.1; have h6 := hw'.2.2; go_simp⟩) HS0.out ?_
    go_simp
    refine held_take 6 (.int .i64 s) rfl (by kernel_rfl) (by kernel_rfl) (by kernel_rfl) (fun _ _ _ h => h) (.inl ⟨by kernel_rfl, fun w' hw' => by have h4 := hw'.1; have h5 := hw'.2.1; have h6 := hw'.2.2; go_simp⟩) HS0.out ?_
    go_simp
    have hds : w.heap.size < w2.drew.heap.size := by show w.heap.size < w2.heap.size; omega
    generalize w2.drew = w3 at *
    have hN := l3Head_calls w3 1 c q (by omega) (by omega) (by omega) Hc2.out Hq4.out
    refine held_one 4 rfl rfl (by kernel_rfl) ?_
    refine wp_enter 41 #[.int .i64 1, .int .i64 c, .int .i64 q] (by first | kernel_rfl | go_simp) hN ?_
    rintro e w4 ⟨v4, rfl, o4, h4⟩
    obtain ⟨e4, l4, c4, rfl⟩ := row_slice o4
    have HS4 : Hid (w4.cell? ⟨w.heap.size, 0, none⟩ = some (.int .i64 c) ∧ w4.cell? ⟨w.heap.size, 1, none⟩ = some (.int .i64 s) ∧ w4.cell? ⟨w.heap.size, 2, none⟩ = some (.int .i64 q)) := ⟨h4.cell HS0.out.1 (by omega), h4.cell HS0.out.2.1 (by omega), h4.cell HS0.out.2.2 (by omega)⟩
    have s4 := h4.size
    have HO4 : Hid (OwnB w4 w3.heap.size 5 (.slice e4 l4 c4) (headL 1 c q)) := o4
    have HC4 : Hid _ := HC0.out.trans h4
    refine ⟨_, rfl, HS4.out, ?_⟩
    clear hN o4 h4
    go_simp
    have hN := specPut_calls w4 s 2 (by omega)
    refine held_one 7 rfl rfl (by kernel_rfl) ?_
    refine wp_enter 38 #[.int .i64 s, .int .i64 2] (by first | kernel_rfl | go_simp) hN ?_
    rintro e w5 ⟨v5, rfl, o5, h5⟩
    have HS5 : Hid (_ ∧ _ ∧ _) := ⟨h5.cell HS4.out.1 (by omega), h5.cell HS4.out.2.1 (by omega), h5.cell HS4.out.2.2 (by omega)⟩
    have s5 := h5.size
    have HV4 : Hid (View w5 w3.heap.size w4.heap.size .u8 (.slice e4 l4 c4) (headL 1 c q)) := (HO4.out.view (by have h1 := Hc2.out; have h2 := Hq4.out; simp [headL, mg, h1, h2]) (fun g hg => (HO4.out.lt g hg).2)).chg h5 (by omega)
    have HV5 : Hid (View w5 w4.heap.size w5.heap.size .u8 v5 (putN s 2)) := o5.view (by rw [Hs2.out]; omega) (fun g hg => (o5.lt g hg).2)
    obtain ⟨e5, l5, c5, rfl⟩ := row_slice o5
    have HC5 : Hid _ := HC4.out.trans h5
    refine ⟨_, rfl, HS5.out, ?_⟩
    clear hN o5 h5
    go_simp
    obtain ⟨b5, f5, rfl⟩ : ∃ b f, e5 = some ⟨b, f, none⟩ := by
      obtain ⟨ao, cap, e, _, _, h⟩ := HV5.out
      rcases h with h | ⟨b, off, hb, _⟩
      · have := Hs2.out; rw [h] at this; simp at this
      · simp only [Value.slice.injEq] at e
        exact ⟨b, off, by rw [e.1, hb]⟩
    have hN := l2Join_calls (xs := headL 1 c q) (ys := putN s 2) w5 (by have h1 := Hc2.out; have h2 := Hq4.out; simp [headL, mg, h1, h2]) (by rw [Hs2.out]; omega) HV4.out HV5.out (by rw [Hs2.out]; omega)
    refine held_one 8 rfl rfl (by kernel_rfl) ?_
    refine wp_enter 19 #[.slice e4 l4 c4, .slice (some ⟨b5, f5, none⟩) l5 c5] (by first | kernel_rfl | go_simp) hN ?_
    rintro e w6 ⟨v6, rfl, o6, h6⟩
    have HS6 : Hid (_ ∧ _ ∧ _) := ⟨h6.cell HS5.out.1 (by omega), h6.cell HS5.out.2.1 (by omega), h6.cell HS5.out.2.2 (by omega)⟩
    have s6 := h6.size
    have Hl14 : Hid ((headL 1 c q ++ putN s 2).length = 14) := by
      show _ = _
      have h1 := Hc2.out; have h2 := Hq4.out; have h3 := Hs2.out
      simp [headL, mg, h1, h2, h3]
    have HO6 : Hid (OwnB w6 w.heap.size 5 v6 (headL 1 c q ++ putN s 2)) := o6.base (fun g hg => by have := (o6.lt g hg).1; omega)
    obtain ⟨e6, l6, c6, rfl⟩ := row_slice o6
    have HC6 : Hid _ := HC5.out.trans h6
    refine ⟨_, rfl, HS6.out, ?_⟩
    clear hN o6 h6
    go_simp
    refine held_one 9 rfl rfl (by kernel_rfl) ?_
    go_simp
    refine ⟨HS6.out, ?_⟩
    refine held_done (by kernel_rfl) (NoPanic.normal ?_)
    go_wp2
    go_meet
    exact ⟨HO6.out, HC6.out⟩
  case rest =>
    obtain ⟨ho, hc⟩ := hcut
    have hl14 : (headL 1 c q ++ putN s 2).length = 14 := by
      have h1 := Hc2.out; have h2 := Hq4.out; have h3 := Hs2.out
      simp [headL, mg, h1, h2, h3]
    have Hl14 : Hid _ := hl14
    obtain ⟨hd, Hhd⟩ : ∃ hd, Hid (hd = headL 1 c q ++ putN s 2) := ⟨_, rfl⟩
    rw [← Hhd.out] at ho hl14
    have Hl : Hid _ := hl14
    have sW := hc.size
    have HCw : Hid _ := HC.out.trans hc
    have vh := ho.view (hi := wc.heap.size) (by omega) (fun g hg => (ho.lt g hg).2)
    obtain ⟨e4, l4, c4, rfl⟩ := row_slice ho
    generalize wc = w3 at *
    clear ho hc Hl14 hl14 k0 k1 k2
    have hN := l2Zero_calls w3 46 (by omega)
    go_wp2_with fail
    refine hN.mono ?_
    rintro e w4 ⟨g, rfl, oz, h4⟩
    have s4 := h4.size
    have vz := oz.view (hi := w4.heap.size) (by simp) (fun g hg => (oz.lt g hg).2)
    have vh4 := vh.chg h4 (by omega)
    have HC4 : Hid _ := HCw.out.trans h4
    have hN2 := l2Join_calls (xs := hd) (ys := List.replicate 46 0) w4 (by have := Hl.out; omega) (by simp) vh4 vz (by simp)
    rw [show hd ++ List.replicate 46 0 = supA 106 108 111 103 1 c q s from by rw [Hhd.out]; exact supA_head c q s] at hN2
    clear hN oz h4 vz vh vh4
    go_wp2_with fail
    refine hN2.mono ?_
    rintro e w5 ⟨v5, rfl, o5, h5⟩
    have s5 := h5.size
    have Hal : Hid ((supA 106 108 111 103 1 c q s).length = 60) := supA_length Hc2.out Hq4.out Hs2.out
    have va := o5.view (hi := w5.heap.size) (by rw [Hal.out]; omega) (fun g hg => (o5.lt g hg).2)
    obtain ⟨e5, l5, c5, rfl⟩ := row_slice o5
    have HC5 : Hid _ := HC4.out.trans h5
    obtain ⟨hc0, hc1⟩ := crcV_range (supA 106 108 111 103 1 c q s)
    have hc4 := pn4 hc0 hc1
    have HSL : Hid (supA 106 108 111 103 1 c q s ++ putN (crcV (supA 106 108 111 103 1 c q s)) 4 = supL 106 108 111 103 1 c q s) := rfl
    have hN := specCrc_calls w5 HBy.out va
    have va' := va
    generalize supA 106 108 111 103 1 c q s = xa at *
    generalize crcV xa = cv at *
    have Hc4 : Hid _ := hc4
    clear hN2 o5 h5 hc4
    go_wp2_with fail
    refine hN.mono ?_
    rintro e w6 ⟨rfl, rfl⟩
    have hN3 := specPut_calls w6 cv 4 (by omega)
    clear hN
    go_wp2_with fail
    refine hN3.mono ?_
    rintro e w7 ⟨v7, rfl, o7, h7⟩
    have s7 := h7.size
    have HC7 : Hid _ := HC5.out.trans h7
    have va7 := va.chg h7 (by omega)
    have v7' := o7.view (hi := w7.heap.size) (by rw [Hc4.out]; omega) (fun g hg => (o7.lt g hg).2)
    obtain ⟨g7, c7, rfl⟩ : ∃ g c, v7 = .slice (some ⟨g, 0, none⟩) 4 c := by
      rcases o7.2 with ⟨_, h0⟩ | ⟨g, gc, cur, rfl, _⟩
      · rw [Hc4.out] at h0; omega
      · exact ⟨g, gc, by rw [Hc4.out]⟩
    have hN4 := l2Join_calls (xs := xa) (ys := putN cv 4) w7 (by rw [Hal.out]; omega) (by rw [Hc4.out]; omega) va7 v7' (by rw [Hc4.out]; omega)
    rw [HSL.out] at hN4
    clear hN3 o7 h7 va va' va7 v7'
    go_wp2_with fail
    refine hN4.mono ?_
    rintro e w8 ⟨v8, rfl, o8, h8⟩
    have HO8 : Hid (OwnB w8 w.heap.size 5 v8 (supL 106 108 111 103 1 c q s)) := o8.base (fun g hg => by have := (o8.lt g hg).1; have := HC7.out.size; omega)
    have HC8 : Hid _ := HC7.out.trans h8
    clear hN4 o8 h8
    go_wp2
    go_ret
    exact ⟨_, rfl, HO8.out, HC8.out⟩

end Go.Proofs.YtmfkgnifkkkkiaaDoor

namespace Go.Proofs.YtmfkgnifkkkkiaaDoor
open Go.RowKit

/-- Bit m of a map. -/
def bitN (xs : List Int) (m : Nat) : Bool := decide ((xs.getD (m / 8) 0).toNat / 2 ^ (m % 8) % 2 = 1)
/-- i is a place in a map. -/
abbrev InMap (xs : List Int) (i : Int) : Prop := xs.length ≤ 2048 ∧ 0 ≤ i ∧ i < 8 * (xs.length : Int)
def bitG (xs : List Int) (i : Int) : Bool := decide (InMap xs i) && bitN xs i.toNat

theorem bitG_in {xs : List Int} {m : Nat} (h : InMap xs m) : bitG xs m = bitN xs m := by unfold bitG; rw [decide_eq_true h]; simp
theorem bitG_out {xs : List Int} {i : Int} (h : ¬ InMap xs i) : bitG xs i = false := by unfold bitG; rw [decide_eq_false h]; simp

set_option maxRecDepth 20000 in
set_option maxHeartbeats 400000 in
theorem specBitGet_some (w : World) (xs : List Int) (m : Nat) (b off cap : Nat) (hB : Byt xs) (hl : xs.length ≤ 2048) (hm : m < 8 * xs.length)
    (h1 : ∀ i, i < xs.length → w.cell? ⟨b, off + i, none⟩ = some (.int .u8 (xs.getD i 0))) :
    Calls Tryd.prog 43 #[.slice (some ⟨b, off, none⟩) xs.length cap, .int .i64 m] w fun e w' => e = .returned (.bool (bitN xs m)) ∧ w' = w := by
  have c1 := h1 (m / 8) (by omega)
  have hb := hB.getD (m / 8)
  have Hfin : Hid (∀ y : Nat, xs.getD (m / 8) 0 = y → bitN xs m = decide (y / 2 ^ (m % 8) % 2 = 1)) := by intro y hy; unfold bitN; rw [hy]; rfl
  obtain ⟨y, hy⟩ : ∃ y : Nat, xs.getD (m / 8) 0 = y := ⟨(xs.getD (m / 8) 0).toNat, by omega⟩
  have HF : Hid (bitN xs m = decide (y / 2 ^ (m % 8) % 2 = 1)) := Hfin.out y hy
  rw [hy] at c1 hb
  have hq : ((m / 8 : Nat) : Int) < (xs.length : Int) := by omega
  have e1 : ¬ (2048 : Int) < (xs.length : Int) := by omega
  have e2 : ¬ ((m : Int)) < 0 := by omega
  have e3 : ¬ 8 * (xs.length : Int) ≤ (m : Int) := by omega
  have hr : m % 8 < 8 := by omega
  clear h1 hy Hfin hB
  go_enter Tryd.func43, Tryd.ntmps43
  go_wp2
  obtain ⟨r, Hr⟩ : ∃ r : Nat, Hid (m % 8 = r) := ⟨_, rfl⟩
  have hmr : ((m : Int) % 8) = (r : Int) := by have := Hr.out; omega
  rw [hmr]
  rw [Hr.out] at HF hr
  clear hmr
  go_loopw [5, 6] (fun v k wr => wr = w ∧ ∃ j : Nat, j ≤ r ∧ k = .int .i64 ((r - j : Nat) : Int) ∧ v = .int .u8 ((y / 2 ^ j : Nat) : Int)) (fun _ k _ => (intOf k).toNat)
  case atStart => exact ⟨rfl, 0, Nat.zero_le _, by simp, by simp⟩
  case round =>
    obtain ⟨rfl, j, hj, rfl, rfl⟩ := hrel
    have hy2 : y / 2 ^ j < 256 := Nat.lt_of_le_of_lt (Nat.div_le_self _ _) (by omega)
    have hs : y / 2 ^ j / 2 = y / 2 ^ (j + 1) := by rw [Nat.div_div_eq_div_mul, Nat.pow_succ]
    by_cases hlt : j < r
    · have hp : (0 : Int) < ((r - j : Nat) : Int) := by omega
      have Hs : Hid (y / 2 ^ j / 2 = y / 2 ^ (j + 1)) := hs
      clear hs
      generalize y / 2 ^ j = z at *
      generalize hrj : r - j = d at *
      have Hd : Hid (r - j = d) := hrj
      have hdb : d ≤ 8 := by omega
      clear hrj
      go_wp2
      go_roundw
      case rel => exact ⟨trivial, j + 1, by omega, by have := Hd.out; congr 1; omega, by rw [← Hs.out]; go_num⟩
      case measure => simp [intOf]; omega
    · obtain rfl : j = r := by omega
      rw [Nat.sub_self] at *
      clear hs
      generalize y / 2 ^ j = z at *
      by_cases hz : z % 2 = 1
      · have hz1 : ((z : Int) % 2 == 1) = true := by simp; omega
        rw [decide_eq_true hz] at HF
        clear hz
        go_wp2
        go_ret
        exact ⟨by rw [HF.out]; rfl, rfl⟩
      · have hz1 : ((z : Int) % 2 == 1) = false := by simp; omega
        rw [decide_eq_false hz] at HF
        clear hz
        go_wp2
        go_ret
        exact ⟨by rw [HF.out]; rfl, rfl⟩

set_option maxRecDepth 20000 in
set_option maxHeartbeats 400000 in
theorem specBitGet_out (w : World) (n : Nat) (ao : Option Addr) (cap : Nat) (i : Int) (hl : n ≤ 1048576) (ho : ¬ (n ≤ 2048 ∧ 0 ≤ i ∧ i < 8 * (n : Int))) :
    Calls Tryd.prog 43 #[.slice ao n cap, .int .i64 i] w fun e w' => e = .returned (.bool false) ∧ w' = w := by
  by_cases h0 : n ≤ 2048
  · by_cases h1 : i < 0
    · go_enter Tryd.func43, Tryd.ntmps43
      go_wp2
      go_ret
      exact ⟨rfl, rfl⟩
    · have h2 : 8 * (n : Int) ≤ i := by omega
      clear ho
      go_enter Tryd.func43, Tryd.ntmps43
      go_wp2
      go_ret
      exact ⟨rfl, rfl⟩
  · have h1 : (2048 : Int) < (n : Int) := by omega
    clear ho
    go_enter Tryd.func43, Tryd.ntmps43
    go_wp2
    go_ret
    exact ⟨rfl, rfl⟩

theorem specBitGet_calls (w : World) {lo hi : Nat} {a : Value} {xs : List Int} (i : Int) (hB : Byt xs) (hl : xs.length ≤ 1048576) (h1 : View w lo hi .u8 a xs) :
    Calls Tryd.prog 43 #[a, .int .i64 i] w fun e w' => e = .returned (.bool (bitG xs i)) ∧ w' = w := by
  obtain ⟨ao, cap, rfl, _, _, h1⟩ := h1
  by_cases ho : InMap xs i
  · obtain ⟨m, rfl⟩ : ∃ m : Nat, i = m := ⟨i.toNat, by have := ho.2.1; omega⟩
    rw [bitG_in ho]
    have h3 := ho.2.2
    rcases h1 with rfl | ⟨x, off, rfl, _, _, h1⟩
    · simp at h3; omega
    · exact specBitGet_some w xs m x off cap hB ho.1 (by omega) h1
  · rw [bitG_out ho]
    exact specBitGet_out w xs.length ao cap i hl ho

end Go.Proofs.YtmfkgnifkkkkiaaDoor
