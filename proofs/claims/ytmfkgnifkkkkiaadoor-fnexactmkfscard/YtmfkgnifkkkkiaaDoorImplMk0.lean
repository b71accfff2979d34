/- Several short texts in one: ImplGeo, Join, FlushE, ImplMk0. -/
import Derived.Test.YtmfkgnifkkkkiaaDoorGeoSpec
import Derived.Test.YtmfkgnifkkkkiaaDoorBlkImpl
import Derived.Test.YtmfkgnifkkkkiaaDoorSettle
import Derived.Test.YtmfkgnifkkkkiaaDoorImplLay
import Derived.Test.YtmfkgnifkkkkiaaDoorMkMath
import Derived.Test.YtmfkgnifkkkkiaaDoorImplSuper
import Derived.Test.YtmfkgnifkkkkiaaDoorOkSup
import Derived.Test.YtmfkgnifkkkkiaaDoorImplSys
namespace Go.Proofs.YtmfkgnifkkkkiaaDoor
open Go.RowKit

set_option maxRecDepth 20000 in
set_option maxHeartbeats 400000 in
theorem roundedUp_512 (w : World) (a : Nat) (ha : a ≤ 2048) : Calls Tryd.prog 46 #[.int .i64 a, .int .i64 512] w fun e w' => e = .returned (.int .i64 (upN a 512)) ∧ w' = w := by
  have HU : Hid (((upN a 512 : Nat) : Int) = ((a : Int) + 511) / 512) := by show _ = _; unfold upN; omega
  go_enter Tryd.func46, Tryd.ntmps46
  go_wp2
  go_ret
  refine ⟨?_, rfl⟩
  rw [HU.out]
  go_num

set_option maxRecDepth 20000 in
set_option maxHeartbeats 400000 in
theorem roundedUp_2 (w : World) (n : Nat) (hn : n ≤ 256) : Calls Tryd.prog 46 #[.int .i64 n, .int .i64 2] w fun e w' => e = .returned (.int .i64 (upN (n * 32) 64)) ∧ w' = w := by
  have HU : Hid (((upN (n * 32) 64 : Nat) : Int) = ((n : Int) + 1) / 2) := by show _ = _; unfold upN; omega
  go_enter Tryd.func46, Tryd.ntmps46
  go_wp2
  go_ret
  refine ⟨?_, rfl⟩
  rw [HU.out]
  go_num

set_option maxRecDepth 20000 in
set_option maxHeartbeats 2000000 in
theorem placesOf_calls (w : World) (b l n : Nat) (hb : b ≤ 2048) (hl : l ≤ 512) (hn : n ≤ 256) : Calls Tryd.prog 22 #[geoV b l n] w fun e w' => e = .returned (placesV b l n) ∧ Chg 0 0 w w' := by
  have k1 := up512_le (a := b) (by omega)
  have k2 := up64_le (a := n * 32) (by omega)
  obtain ⟨mb, Hmb⟩ : ∃ m, Hid (upN b 512 = m) := ⟨_, rfl⟩
  obtain ⟨tb, Htb⟩ : ∃ m, Hid (upN (n * 32) 64 = m) := ⟨_, rfl⟩
  rw [Hmb.out] at k1
  rw [Htb.out] at k2
  go_enter Tryd.func22, Tryd.ntmps22
  go_wp2_with fail
  refine (roundedUp_512 _ b (by omega)).mono ?_
  rintro e w1 ⟨rfl, rfl⟩
  rw [Hmb.out]
  go_wp2_with fail
  refine (roundedUp_2 _ n (by omega)).mono ?_
  rintro e w1 ⟨rfl, rfl⟩
  rw [Htb.out]
  go_wp2
  refine bodyPost_ret (v := placesV b l n) (by simp [results, Tryd.results22, go_sem]; unfold placesV dataAt; rw [Hmb.out, Htb.out]; exact plV_ext (by omega) (by omega) rfl (by omega) rfl (by omega) (by omega)) rfl ⟨rfl, ?_⟩
  exact ((Chg.alloc (Chg.refl 0 0 w) _).alloc _).alloc _

set_option maxRecDepth 20000 in
set_option maxHeartbeats 1000000 in
theorem implValid_in (w : World) (b l n : Nat) (h1 : 16 ≤ l) (h2 : l ≤ 512) (h3 : 1 ≤ n) (h4 : n ≤ 256) (h5 : 1 ≤ b) (h6 : b ≤ 2048) :
    Calls Tryd.prog 21 #[geoV b l n] w fun e w' => e = .returned (.bool (decide (dataAt b l n < b))) ∧ Chg 0 0 w w' := by
  have q1 : ∀ W : World, Calls Tryd.prog 45 #[.int .i64 l, .int .i64 16, .int .i64 512] W fun e w' => e = .returned (.bool true) ∧ w' = W := by
    intro W; have := isWithin_calls W l 16 512; rw [decide_eq_true (show (16 : Int) ≤ l by omega), decide_eq_true (show (l : Int) ≤ 512 by omega)] at this; exact this
  have q2 : ∀ W : World, Calls Tryd.prog 45 #[.int .i64 n, .int .i64 1, .int .i64 256] W fun e w' => e = .returned (.bool true) ∧ w' = W := by
    intro W; have := isWithin_calls W n 1 256; rw [decide_eq_true (show (1 : Int) ≤ n by omega), decide_eq_true (show (n : Int) ≤ 256 by omega)] at this; exact this
  have q3 : ∀ W : World, Calls Tryd.prog 45 #[.int .i64 b, .int .i64 1, .int .i64 2048] W fun e w' => e = .returned (.bool true) ∧ w' = W := by
    intro W; have := isWithin_calls W b 1 2048; rw [decide_eq_true (show (1 : Int) ≤ b by omega), decide_eq_true (show (b : Int) ≤ 2048 by omega)] at this; exact this
  have HA : Hid (Chg 0 0 w (w.alloc (.cells #[.int .i64 b, .int .i64 l, .int .i64 n] 29))) := Chg.alloc (Chg.refl 0 0 w) _
  have hN := placesOf_calls (w.alloc (.cells #[.int .i64 b, .int .i64 l, .int .i64 n] 29)) b l n h6 h2 h4
  obtain ⟨c0, c1, c2, c3, c4, c5, HP⟩ : ∃ c0 c1 c2 c3 c4 c5, Hid (placesV b l n = .agg #[.int .i64 c0, .int .i64 c1, .int .i64 c2, .int .i64 c3, .int .i64 c4, .int .i64 c5, .int .i64 ((b : Int) - dataAt b l n)]) := ⟨_, _, _, _, _, _, rfl⟩
  rw [HP.out] at hN
  have hfd := fun W => field_pl W c0 c1 c2 c3 c4 c5 ((b : Int) - dataAt b l n)
  clear HP
  obtain ⟨D, HD⟩ : ∃ D, Hid (dataAt b l n = D) := ⟨_, rfl⟩
  rw [HD.out] at hN hfd
  go_enter Tryd.func21, Tryd.ntmps21
  go_wp2_with fail
  refine (q1 _).mono ?_
  rintro e w1 ⟨rfl, rfl⟩
  go_wp2_with fail
  refine (q2 _).mono ?_
  rintro e w1 ⟨rfl, rfl⟩
  go_wp2_with fail
  refine (q3 _).mono ?_
  rintro e w1 ⟨rfl, rfl⟩
  go_wp2_with fail
  refine hN.mono ?_
  rintro e w1 ⟨rfl, hc⟩
  clear hN q1 q2 q3
  have HC : Hid (Chg 0 0 w w1) := HA.out.trans hc
  clear hc
  by_cases hD : D < b
  · have hd : (1 : Int) ≤ (b : Int) - (D : Int) := by omega
    go_wp2
    go_ret
    exact ⟨by rw [HD.out, decide_eq_true hD]; rfl, HC.out⟩
  · have hd : ¬ (1 : Int) ≤ (b : Int) - (D : Int) := by omega
    go_wp2
    go_ret
    exact ⟨by rw [HD.out, decide_eq_false hD, ← decide_eq_false (show ¬ (1 : Int) ≤ (b : Int) - (D : Int) by omega)]; rfl, HC.out⟩

set_option maxRecDepth 20000 in
set_option maxHeartbeats 1000000 in
theorem implValid_out (w : World) (b l n : Int) (hx : ¬ (16 ≤ l ∧ l ≤ 512 ∧ 1 ≤ n ∧ n ≤ 256 ∧ 1 ≤ b ∧ b ≤ 2048)) :
    Calls Tryd.prog 21 #[geoV b l n] w fun e w' => e = .returned (.bool false) ∧ Chg 0 0 w w' := by
  have HA : Hid (Chg 0 0 w (w.alloc (.cells #[.int .i64 b, .int .i64 l, .int .i64 n] 29))) := Chg.alloc (Chg.refl 0 0 w) _
  have q1 := fun W => isWithin_calls W l 16 512
  have q2 := fun W => isWithin_calls W n 1 256
  have q3 := fun W => isWithin_calls W b 1 2048
  rw [← Bool.decide_and] at q1 q2 q3
  by_cases e1 : (16 : Int) ≤ l ∧ l ≤ 512
  · rw [decide_eq_true e1] at q1
    by_cases e2 : (1 : Int) ≤ n ∧ n ≤ 256
    · rw [decide_eq_true e2] at q2
      have e3 : ¬ ((1 : Int) ≤ b ∧ b ≤ 2048) := by omega
      rw [decide_eq_false e3] at q3
      clear hx e1 e2 e3
      go_enter Tryd.func21, Tryd.ntmps21
      go_wp2_with fail
      refine (q1 _).mono ?_
      rintro e w1 ⟨rfl, rfl⟩
      go_wp2_with fail
      refine (q2 _).mono ?_
      rintro e w1 ⟨rfl, rfl⟩
      go_wp2_with fail
      refine (q3 _).mono ?_
      rintro e w1 ⟨rfl, rfl⟩
      clear q1 q2 q3
      go_wp2
      go_ret
      exact ⟨rfl, HA.out⟩
    · rw [decide_eq_false e2] at q2
      clear hx e1 e2
      go_enter Tryd.func21, Tryd.ntmps21
      go_wp2_with fail
      refine (q1 _).mono ?_
      rintro e w1 ⟨rfl, rfl⟩
      go_wp2_with fail
      refine (q2 _).mono ?_
      rintro e w1 ⟨rfl, rfl⟩
      clear q1 q2 q3
      go_wp2
      go_ret
      exact ⟨rfl, HA.out⟩
  · rw [decide_eq_false e1] at q1
    clear hx e1
    go_enter Tryd.func21, Tryd.ntmps21
    go_wp2_with fail
    refine (q1 _).mono ?_
    rintro e w1 ⟨rfl, rfl⟩
    clear q1 q2 q3
    go_wp2
    go_ret
    exact ⟨rfl, HA.out⟩

theorem implValidGeometry_calls (w : World) (b l n : Int) :
    Calls Tryd.prog 21 #[geoV b l n] w fun e w' => e = .returned (.bool (geoB b l n)) ∧ Chg 0 0 w w' := by
  by_cases h : GeoIn b l n
  · obtain ⟨h1, h2, h3, h4, h5, h6⟩ := id h
    obtain ⟨p, rfl⟩ : ∃ p : Nat, b = p := ⟨b.toNat, by omega⟩
    obtain ⟨q, rfl⟩ : ∃ q : Nat, l = q := ⟨l.toNat, by omega⟩
    obtain ⟨r, rfl⟩ : ∃ r : Nat, n = r := ⟨n.toNat, by omega⟩
    rw [geoB_in h]
    exact implValid_in w p q r (by omega) (by omega) (by omega) (by omega) (by omega) (by omega)
  · rw [geoB_out h]
    exact implValid_out w b l n h

end Go.Proofs.YtmfkgnifkkkkiaaDoor

namespace Go.Proofs.YtmfkgnifkkkkiaaDoor
open Go.RowKit

set_option maxRecDepth 20000 in
set_option maxHeartbeats 2000000 in
theorem joined_calls (w : World) (gD n : Nat) (xs : List Int) (hrow : w.heap[gD]? = some (.cells (xs.map (Value.int .u8)).toArray 58 (0, 0))) (hl : xs.length = n * 64) (hn1 : 1 ≤ n) (hn : n ≤ 2048) :
    Calls Tryd.prog 56 #[.slice (some ⟨gD, 0, none⟩) n n] w fun e w' => ∃ g, e = .returned (.slice (some ⟨g, 0, none⟩) (n * 64) (n * 64)) ∧ OwnB w' w.heap.size 5 (.slice (some ⟨g, 0, none⟩) (n * 64) (n * 64)) xs ∧ Chg 0 0 w w' := by
  obtain ⟨i, hi, hz0, hz1, hz2⟩ := info_parts Tryd.infoU
  have hgz : gD < w.heap.size := (Array.getElem?_eq_some_iff.1 hrow).1
  have Hrow : Hid (w.heap[gD]? = some (.cells (xs.map (Value.int .u8)).toArray 58 (0, 0))) := hrow
  have Hl : Hid (xs.length = n * 64) := hl
  clear hrow hl
  go_enter Tryd.func56, Tryd.ntmps56
  go_wp2_with (at_make; refine wpList_make_full _ rfl _ _ 24 rfl w.heap.size 5 i (.int .u8 0) 1 Tryd.underlying24 hi hz0 hz1 _ _ _ _ (n * 64) rfl rfl (by omega) (by omega) (by rw [hz2]; omega) (by unfold maxLen; omega) (Nat.le_refl _) ?_)
  intro w1 hown hgrow
  have C1 : Chg 0 0 w w1 := Chg.ofGrown hgrow (by simp)
  have G1 : Hid (w1.heap[w.heap.size]? = some (.cells (drow xs n 0).toArray 5 (0, 0))) := by
    rcases hown.2 with ⟨h', _⟩ | ⟨g', cap', cur, h', hb, hg, _, _, hs, ht⟩
    · cases h'
    · simp only [Value.slice.injEq, Option.some.injEq, Addr.mk.injEq, and_true, true_and] at h'
      obtain ⟨rfl, rfl⟩ := h'
      show _ = _
      have hc : cur.toList = (drow xs n 0) := by
        rw [List.take_of_length_le (by rw [Array.length_toList, hs]; exact Nat.le_refl _)] at ht
        rw [ht]
        unfold drow
        simp [toList_madeCells_one]
      rw [hg, ← hc]
  have s1 : w.heap.size < w1.heap.size := by have := (Array.getElem?_eq_some_iff.1 G1.out).1; omega
  clear hown hgrow
  go_wp2
  go_loopw [12] (fun i wr => ∃ k : Nat, k ≤ n ∧ i = .int .i64 k ∧ Chg 0 0 w wr ∧ w1.heap.size ≤ wr.heap.size ∧ wr.heap[w.heap.size]? = some (.cells (drow xs n k).toArray 5 (0, 0))) (fun i _ => n - (intOf i).toNat)
  case atStart => exact ⟨0, Nat.zero_le _, rfl, C1, Nat.le_refl _, G1.out⟩
  case round =>
    obtain ⟨k, hk, rfl, hcw, hsz, hrow⟩ := hrel
    have HR : Hid (wr.heap[w.heap.size]? = some (.cells (drow xs n k).toArray 5 (0, 0))) := hrow
    clear hrow
    by_cases hlt : k < n
    · obtain ⟨cs, hcs⟩ : ∃ cs, cs = ((xs.drop (k * 64)).take 64).map (Value.int .u8) := ⟨_, rfl⟩
      have hle : (k + 1) * 64 ≤ n * 64 := Nat.mul_le_mul_right _ hlt
      have hll := Hl.out
      have L1 : cs.length = 64 := by rw [hcs]; simp; omega
      have L2 : ∀ v ∈ cs, v.oneCell' = true := by rw [hcs]; exact ints_oneCell _ _
      have hgw : wr.heap[gD]? = some (.cells (xs.map (Value.int .u8)).toArray 58 (0, 0)) := (hcw.block gD hgz (by omega)).trans Hrow.out
      have R0 : wr.rangeAt gD (k * 64) cs := by
        intro j v hj
        have hj64 : j < 64 := by have := (List.getElem?_eq_some_iff.1 hj).1; omega
        rw [cell_of_row wr gD (k * 64 + j) _ _ _ hgw, ← hj, hcs, List.getElem?_map, List.getElem?_take, if_pos hj64, List.getElem?_drop]
        simp
      have L4 := drow_length xs n k hll hk
      have L5 := drow_splice xs n k hll hlt
      rw [← hcs] at L5
      have HR0 : Hid (wr.rangeAt gD (k * 64) cs) := R0
      have HL1 : Hid (cs.length = 64) := L1
      have HL2 : Hid (∀ v ∈ cs, v.oneCell' = true) := L2
      have HL4 : Hid ((drow xs n k).length = n * 64) := L4
      have HL5 : Hid (splice (drow xs n k) (k * 64) cs = drow xs n (k + 1)) := L5
      have Hsz : Hid (cs.toArray.size = 64) := by show _ = _; simpa using L1
      have u85 := Tryd.underlying58
      have i85 : Hid ((Tryd.prog.info? 58).map (·.size) = some cs.toArray.size) := by show _ = _; rw [Hsz.out]; kernel_rfl
      have i85l : Hid ((Tryd.prog.info? 58).map (·.size) = some cs.length) := by show _ = _; rw [L1]; kernel_rfl
      clear R0 L1 L2 L4 L5 hcs hgw hll
      have hik : (k : Int) < (n : Int) := by omega
      go_wp2_with (first
        | (refine wpList_load_mid rfl 58 (.tmp 15) rfl gD (k * 64) rfl cs _ HR0.out u85 rfl i85l.out ?_)
        | (refine wpList_store_mid rfl 58 (.tmp 5) (.tmp 16) rfl wr.heap.size 0 cs.toArray rfl rfl (by rw [Hsz.out]; exact there_new wr _ _ 64 rfl) i85.out (all_oneCell_toArray HL2.out) ?_))
      generalize hW : World.setCells (World.alloc wr _) _ _ _ = W7
      have F1 : W7.heap[wr.heap.size]? = some (.cells cs.toArray 58 (0, 0)) := by rw [← hW]; exact (filled (by rw [HL1.out]; rfl)).1
      have F2 : Chg 0 0 wr W7 := by rw [← hW]; exact (filled (by rw [HL1.out]; rfl)).2
      clear hW
      have hrow7 : W7.heap[w.heap.size]? = some (.cells (drow xs n k).toArray 5 (0, 0)) := (F2.block w.heap.size (by omega) (by omega)).trans HR.out
      have Hrow7 : Hid (W7.heap[w.heap.size]? = some (.cells (drow xs n k).toArray 5 (0, 0))) := hrow7
      have hsrc : ∀ j v, cs[j]? = some v → W7.cell? ((⟨wr.heap.size, 0, none⟩ : Addr).add j) = some v := by
        intro j v hj
        rw [Addr.add_mid, Nat.zero_add, cell_of_row W7 wr.heap.size j _ _ _ F1]
        simpa using hj
      have Hsrc : Hid (∀ j v, cs[j]? = some v → W7.cell? ((⟨wr.heap.size, 0, none⟩ : Addr).add j) = some v) := hsrc
      have C7 := hcw.trans F2
      have s7 := F2.size
      have e2 : (0 : Int) ≤ (k : Int) * 64 := by omega
      have e3 : (k : Int) * 64 ≤ (n : Int) * 64 := by omega
      have e3' : (k : Int) * 64 ≤ ((n * 64 : Nat) : Int) := by omega
      have e5 : ¬ n * 64 = k * 64 := by omega
      have e5' : ¬ n = k := by omega
      have e6 : IntKind.i64.wrap ((k : Int) * 64) = (k : Int) * 64 := by rw [IntKind.wrap_i64]; omega
      have e7 : ((k : Int) * 64).toNat = k * 64 := by omega
      clear F1 F2 hrow7 hsrc HR hcw HR0 u85 i85 i85l Hsz
      go_region_held3 (fun _ => True) (trivial)
        ((refine step_copy_mid rfl (.tmp 20) (.tmp 21) 24 24 rfl 5 Tryd.underlying24 (by kernel_rfl) w.heap.size (k * 64) (n * 64 - k * 64) (n * 64 - k * 64) ⟨wr.heap.size, 0, none⟩ 64 64 rfl rfl _ _ Hrow7.out cs (by rw [HL1.out]; show 64 = min 64 _; omega) Hsrc.out (by rw [HL1.out, HL4.out]; omega) HL2.out ?_; intro w2 H2 C2))
      have R1 : Chg 0 0 w w2 := (C7.drew).step C2 (Or.inr (Or.inl (Nat.le_refl _)))
      have R2 : Hid (w2.heap[w.heap.size]? = some (.cells (drow xs n (k + 1)).toArray 5 (0, 0))) := by
        have := H2.out; rw [HL5.out] at this; exact this
      have R3 : w1.heap.size ≤ w2.heap.size := by have h1 : W7.drew.heap.size ≤ w2.heap.size := C2.size; have h2 : W7.drew.heap.size = W7.heap.size := rfl; omega
      clear C2 H2 C7 Hrow7 Hsrc HL1 HL2 HL4 HL5
      go_wp2
      go_roundw
      case rel => exact ⟨k + 1, by omega, by go_num, R1, R3, R2.out⟩
      case measure => simp [intOf]; omega
    · obtain rfl : k = n := by omega
      have HO : Hid (OwnB wr w.heap.size 5 (.slice (some ⟨w.heap.size, 0, none⟩) (k * 64) (k * 64)) xs) := by
        have h1 := HR.out
        rw [drow_end xs k Hl.out] at h1
        show OwnB _ _ _ _ _
        unfold OwnB
        rw [Hl.out]
        refine ⟨by simp [Hl.out], Or.inr ⟨w.heap.size, _, _, rfl, Nat.le_refl _, h1, Nat.le_refl _, by unfold maxLen; omega, by simp [Hl.out], ?_⟩⟩
        exact List.take_of_length_le (by simp [Hl.out])
      clear HR Hrow Hl G1
      go_wp2
      go_ret
      exact ⟨_, rfl, HO.out, hcw⟩
end Go.Proofs.YtmfkgnifkkkkiaaDoor

namespace Go.Proofs.YtmfkgnifkkkkiaaDoor
open Go.RowKit

set_option maxRecDepth 20000 in
set_option maxHeartbeats 1000000 in
theorem disk_empty (w : World) {base p : Nat} {d : Dsk} (h : Dev w base p d) (hp0 : d.pend = []) :
    Calls Tryd.prog 30 #[.pointer (some ⟨p, 0, none⟩)] w fun e w' => ∃ v, e = .returned v ∧ OwnD w' w.heap.size w'.heap.size 105 5 v d ∧ Chg 0 0 w w' := by
  obtain ⟨gD, po, cap, hv, hp, hgD, hbox, hdur, _⟩ := h.pend_ne
  rw [hp0] at hbox
  have hbox : w.heap[p]? = some (.cells #[.slice (some ⟨gD, 0, none⟩) (d.dur.length / 64) (d.dur.length / 64), .slice po 0 cap] 56 (0, 0)) := hbox
  have hpz : p < w.heap.size := (Array.getElem?_eq_some_iff.1 hbox).1
  have hgz : gD < w.heap.size := (Array.getElem?_eq_some_iff.1 hdur).1
  have h64 := hv.1
  have hn1 := hv.2.1
  have hn := hv.2.2.1
  have C0 : Chg 0 0 w (w.alloc (.cells #[.slice none 0 0, .slice none 0 0] 27)) := Chg.alloc (Chg.refl 0 0 w) _
  have B0 := heap_new w (.cells #[.slice none 0 0, .slice none 0 0] 27)
  have s0 : (w.alloc (.cells #[.slice none 0 0, .slice none 0 0] 27)).heap.size = w.heap.size + 1 := by simp
  have hdur0 := (C0.block gD hgz (by omega)).trans hdur
  have hbox0 := (C0.block p hpz (by omega)).trans hbox
  obtain ⟨b0, b1, _, _⟩ := two_cells hbox0
  have HP0 : Hid (d.pend = []) := hp0
  clear hdur hbox h hv hp0
  go_enter Tryd.func30, Tryd.ntmps30
  go_wp2_with fail
  generalize w.alloc (.cells #[.slice none 0 0, .slice none 0 0] 27) = wa at *
  refine (joined_calls _ gD _ d.dur hdur0 (by omega) hn1 hn).mono ?_
  rintro e wb ⟨g, rfl, ho, hb⟩
  rw [show d.dur.length / 64 * 64 = d.dur.length from by omega] at *
  have sb := hb.size
  have gb := ho.lt g rfl
  have B0 := (hb.block w.heap.size (by omega) (by omega)).trans B0
  have hbox1 := (hb.block p (by omega) (by omega)).trans hbox0
  have hB := C0.trans hb
  clear hb C0 hdur0 hbox0 b0 b1
  have C1 : Chg 0 0 wb (wb.alloc (.cells #[.slice (some ⟨g, 0, none⟩) d.dur.length d.dur.length, .slice none 0 0] 27)) := Chg.alloc (Chg.refl 0 0 wb) _
  have B2 := heap_new wb (.cells #[.slice (some ⟨g, 0, none⟩) d.dur.length d.dur.length, .slice none 0 0] 27)
  have B0 := (C1.block w.heap.size (by omega) (by omega)).trans B0
  have hbox2 := (C1.block p (by omega) (by omega)).trans hbox1
  have s2 : (wb.alloc (.cells #[.slice (some ⟨g, 0, none⟩) d.dur.length d.dur.length, .slice none 0 0] 27)).heap.size = wb.heap.size + 1 := by simp
  obtain ⟨b0, b1, _, _⟩ := two_cells hbox2
  obtain ⟨y0, y1, yf0, yf1⟩ := two_cells B0
  obtain ⟨u0, u1, _, _⟩ := two_cells B2
  have ho2 := (ho.chg C1 (by intro g' _; omega)).base (base' := w.heap.size) (fun g' hg' => by cases hg'; show w.heap.size ≤ g; omega)
  have hC := hB.trans C1
  clear hB C1 ho hbox1 hbox2 B2
  go_wp2
  generalize wb.alloc (.cells #[.slice (some ⟨g, 0, none⟩) d.dur.length d.dur.length, .slice none 0 0] 27) = wd at *
  have hgs : g < wd.heap.size := by omega
  have HO : Hid (OwnD ((wd.setCell ⟨w.heap.size, 0, none⟩ (.slice (some ⟨g, 0, none⟩) d.dur.length d.dur.length)).setCell ⟨w.heap.size, 1, none⟩ (.slice none 0 0)) w.heap.size wd.heap.size 105 5 (.agg #[.slice (some ⟨g, 0, none⟩) d.dur.length d.dur.length, .slice none 0 0]) d) := by
    have n1 : (Value.slice (some ⟨g, 0, none⟩) d.dur.length d.dur.length).ownBlock ≠ some w.heap.size := by simp [Value.ownBlock]; omega
    refine ⟨_, _, [], fun _ => .slice none 0 0, rfl, (ho2.set (p := ⟨w.heap.size, 0, none⟩) n1 _).set (p := ⟨w.heap.size, 1, none⟩) n1 _, by rw [HP0.out]; exact OwnPx.nil _ _ _ _, by rw [HP0.out]; simp, ?_, by simp [Value.ownBlock], by rw [HP0.out]; simp⟩
    intro g' hg'
    cases hg'
    exact hgs
  have HC : Hid (Chg 0 0 w ((wd.setCell ⟨w.heap.size, 0, none⟩ (.slice (some ⟨g, 0, none⟩) d.dur.length d.dur.length)).setCell ⟨w.heap.size, 1, none⟩ (.slice none 0 0))) := hC.step (Chg.set2 _ _ _ _) (by omega)
  have HS : Hid (((wd.setCell ⟨w.heap.size, 0, none⟩ (.slice (some ⟨g, 0, none⟩) d.dur.length d.dur.length)).setCell ⟨w.heap.size, 1, none⟩ (.slice none 0 0)).heap.size = wd.heap.size) := by show _ = _; simp [World.setCell]
  clear ho2 hC B0 HP0
  refine wp_loop_rounds 1 ?_; rw [rounds_succ]
  go_wp2
  refine bodyPost_ret (v := .agg #[.slice (some ⟨g, 0, none⟩) d.dur.length d.dur.length, .slice none 0 0]) (by simp [results, Tryd.results30, go_sem, y0, y1]) rfl ⟨_, rfl, ?_, HC.out⟩
  rw [HS.out]; exact HO.out

end Go.Proofs.YtmfkgnifkkkkiaaDoor

namespace Go.Proofs.YtmfkgnifkkkkiaaDoor
open Go.RowKit

/-- What lies in memory while a disk is made. -/
structure Mk (w x : World) (PB gD p b l n im bm mb tb tn D : Nat) (dn : Int) (cur : List Value) : Prop where
  g0 : x.heap[w.heap.size]? = some (.cells #[.int .i64 (b : Int), .int .i64 (l : Int), .int .i64 (n : Int)] 29 (0, 0))
  r0 : x.heap[w.heap.size + 1]? = some (.cells #[.slice none 0 0, .slice none 0 0] 27 (0, 0))
  pb : x.heap[PB]? = some (.cells #[.int .i64 (im : Int), .int .i64 (bm : Int), .int .i64 (mb : Int), .int .i64 (tb : Int), .int .i64 (tn : Int), .int .i64 (D : Int), .int .i64 dn] 36 (0, 0))
  dv : x.heap[p]? = some (.cells #[.slice (some ⟨gD, 0, none⟩) b b, .slice none 0 0] 56 (0, 0))
  dr : x.heap[gD]? = some (.cells cur.toArray 58 (0, 0))
  lo : w.heap.size + 1 < PB ∧ PB < gD ∧ gD < p
  ch : Chg 0 0 w x
theorem Mk.lt {w x : World} {PB gD p b l n im bm mb tb tn D : Nat} {dn : Int} {cur : List Value} (h : Mk w x PB gD p b l n im bm mb tb tn D dn cur) : p < x.heap.size := (Array.getElem?_eq_some_iff.1 h.dv).1
theorem Mk.chg {w x y : World} {PB gD p b l n im bm mb tb tn D : Nat} {dn : Int} {cur : List Value} (h : Mk w x PB gD p b l n im bm mb tb tn D dn cur) (c : Chg 0 0 x y) : Mk w y PB gD p b l n im bm mb tb tn D dn cur :=
  have h1 := h.lt
  have h2 := h.lo
  ⟨(c.block _ (by omega) (by omega)).trans h.g0, (c.block _ (by omega) (by omega)).trans h.r0, (c.block _ (by omega) (by omega)).trans h.pb, (c.block _ (by omega) (by omega)).trans h.dv, (c.block _ (by omega) (by omega)).trans h.dr, h.lo, h.ch.trans c⟩
theorem Mk.put {w x y : World} {PB gD p b l n im bm mb tb tn D : Nat} {dn : Int} {cur cur' : List Value} (h : Mk w x PB gD p b l n im bm mb tb tn D dn cur) (c : Chg gD (gD + 1) x y) (hb : y.heap[gD]? = some (.cells cur'.toArray 58 (0, 0))) : Mk w y PB gD p b l n im bm mb tb tn D dn cur' :=
  have h1 := h.lt
  have h2 := h.lo
  ⟨(c.block _ (by omega) (by omega)).trans h.g0, (c.block _ (by omega) (by omega)).trans h.r0, (c.block _ (by omega) (by omega)).trans h.pb, (c.block _ (by omega) (by omega)).trans h.dv, hb, h.lo, h.ch.step c (by omega)⟩

end Go.Proofs.YtmfkgnifkkkkiaaDoor
