/- on, CrcOn, Crc of the program. -/
import Derived.Test.YtfkkfifjgkoicaaOnce
namespace Go.Proofs.Ytfkkfifjgkoicaa
open Go.RowKit

theorem xor_low (r d : Nat) (hd : d < 256) : bits .xor .u8 ((r : Int) % 256) (d : Int) = ((r % 256 ^^^ d : Nat) : Int) := by
  have := u8_xor_nat (r % 256) d (by omega) hd
  rw [← this]; congr 1

theorem xor_high (r t : Nat) (hr : r < 4294967296) (ht : t < 4294967296) : bits .xor .u32 ((r : Int) / 256) (t : Int) = ((r / 256 ^^^ t : Nat) : Int) := by
  have := u32_xor_nat (r / 256) t (by omega) ht
  rw [← this]; congr 1

theorem not32' (a : Nat) (ha : a < 4294967296) : bits .xor .u32 IntKind.u32.max (a : Int) = ((4294967295 - a : Nat) : Int) := by
  have h : IntKind.u32.max = 4294967295 := by decide
  rw [h]; exact not32 a ha

set_option maxHeartbeats 1000000 in
theorem on_some (w : World) (b c : Nat) (hc : c ≤ 4294967295) (h : Sm w b 0 0 0) (xs : List Int) (g off cap : Nat) (hB : Byt xs) (hl : xs.length ≤ 9223372036854775807) (hg : g ≠ b)
    (h1 : ∀ i, i < xs.length → w.cell? ⟨g, off + i, none⟩ = some (.int .u8 (xs.getD i 0))) :
    Calls Try.prog 17 #[.pointer (some ⟨b, 0, none⟩), .int .u32 c, .slice (some ⟨g, off, none⟩) xs.length cap] w fun e w' => e = .returned (.int .u32 (4294967295 - reg (4294967295 - c) (nb xs) : Nat)) ∧ Chg b (b + 1) w w' := by
  have HS : Hid _ := h
  have HB : Hid (Byt xs) := hB
  have HG : Hid _ := h1
  have HN : Hid (bits .xor .u32 IntKind.u32.max (c : Int) = ((4294967295 - c : Nat) : Int)) := not32' c (by omega)
  go_enter Try.func17, Try.ntmps17
  go_wp2_with (go_at_call 18; refine (onceDo_calls _ b HS.out).mono ?_; rintro e w1 ⟨rfl, hs, hch⟩)
  go_wp2
  go_loop [7, 20] (fun y i => ∃ k : Nat, k ≤ xs.length ∧ i = .int .i64 k ∧ y = .int .u32 (reg (4294967295 - c) (nb (xs.take k)) : Nat)) (fun _ i => xs.length - (intOf i).toNat)
  case atStart => exact ⟨0, Nat.zero_le _, rfl, by rw [HN.out]; rfl⟩
  case round =>
    obtain ⟨k, hk, rfl, rfl⟩ := hrel
    clear HS HN
    have b1 := reg_lt (nb (xs.take k)) (4294967295 - c) (by omega)
    by_cases hlt : k < xs.length
    · have c1 := hch.cell (HG.out k hlt) (by omega)
      have b3 := HB.out.getD k
      have hi : (k : Int) < (xs.length : Int) := by omega
      have HE : Hid (reg (4294967295 - c) (nb (xs.take (k + 1))) = regK 8 (reg (4294967295 - c) (nb (xs.take k))) (xs.getD k 0).toNat) := reg_take_succ _ xs k hlt
      generalize reg (4294967295 - c) (nb (xs.take k)) = r at *
      obtain ⟨d, hd⟩ : ∃ d : Nat, xs.getD k 0 = (d : Int) := ⟨(xs.getD k 0).toNat, by omega⟩
      rw [hd] at c1 b3
      have hx := xor_low r d (by omega)
      have ht : r % 256 ^^^ d < 256 := Nat.xor_lt_two_pow (n := 8) (by omega) (by omega)
      have HE' : Hid (reg (4294967295 - c) (nb (xs.take (k + 1))) = r / 256 ^^^ regK 8 (r % 256 ^^^ d) 0) := by
        show _ = _
        rw [HE.out, hd]; exact regK_table r d (by omega)
      clear HE hd
      generalize r % 256 ^^^ d = t at *
      have ct := hs.tab t ht
      have bt := regK_lt 8 t 0 (by omega)
      generalize regK 8 t 0 = z at *
      have hz := xor_high r z b1 bt
      clear hs hch
      go_wp2
      go_round
      case rel => exact ⟨k + 1, by omega, by go_num, by rw [HE'.out]⟩
      case measure => simp [intOf]; omega
    · obtain rfl : k = xs.length := by omega
      rw [List.take_length] at *
      generalize hr : reg (4294967295 - c) (nb xs) = r at *
      have HR : Hid (reg (4294967295 - c) (nb xs) = r) := hr
      have HN : Hid (bits .xor .u32 IntKind.u32.max (r : Int) = ((4294967295 - r : Nat) : Int)) := not32' r (by omega)
      clear hs hr
      go_wp2
      go_ret
      exact ⟨by rw [HR.out, ← HN.out]; rfl, hch⟩

set_option maxHeartbeats 1000000 in
theorem on_none (w : World) (b c : Nat) (hc : c ≤ 4294967295) (h : Sm w b 0 0 0) (ao : Option Addr) (cap : Nat) :
    Calls Try.prog 17 #[.pointer (some ⟨b, 0, none⟩), .int .u32 c, .slice ao 0 cap] w fun e w' => e = .returned (.int .u32 (4294967295 - (4294967295 - c) : Nat)) ∧ Chg b (b + 1) w w' := by
  have HS : Hid _ := h
  have hn := not32' c (by omega)
  have hn2 := not32' (4294967295 - c) (by omega)
  generalize 4294967295 - c = r at *
  generalize 4294967295 - r = q at *
  go_enter Try.func17, Try.ntmps17
  go_wp2_with (go_at_call 18; refine (onceDo_calls _ b HS.out).mono ?_; rintro e w1 ⟨rfl, hs, hch⟩)
  go_wp2
  refine wp_loop_rounds 1 ?_; rw [rounds_succ]
  go_wp2
  go_ret
  exact ⟨rfl, hch⟩

theorem on_calls (w : World) (b c : Nat) (hc : c ≤ 4294967295) (h : Sm w b 0 0 0) {lo hi : Nat} {a : Value} {xs : List Int} (hB : Byt xs) (h1 : View w lo hi .u8 a xs) (hb : b < lo ∨ hi ≤ b) :
    Calls Try.prog 17 #[.pointer (some ⟨b, 0, none⟩), .int .u32 c, a] w fun e w' => e = .returned (.int .u32 (4294967295 - reg (4294967295 - c) (nb xs) : Nat)) ∧ Chg b (b + 1) w w' := by
  obtain ⟨ao, cap, rfl, hl, _, h1⟩ := h1
  rcases h1 with rfl | ⟨x, off, rfl, hx1, hx2, h1⟩
  · exact on_none w b c hc h ao cap
  · exact on_some w b c hc h xs x off cap hB hl (by omega) h1

/-- The cells of a sums that was never written. -/
def ZS : Array Value := (.int .u32 0 :: .int .i32 0 :: .int .u32 0 :: List.replicate 256 (Value.int .u32 0)).toArray
theorem Try.infoSm : (Try.prog.info? 53).map (fun i => (i.zero, i.size, i.bytes)) = some (some (.agg ZS), 259, 1036) := by kernel_rfl
theorem zero_sums (w : World) : (zeroValue 53).run Try.prog w = .ok (.agg ZS) w := by
  obtain ⟨i, hi, hz0, hz1, hz2⟩ := info_parts Try.infoSm
  simp only [zeroValue, typeInfo, Sem.run_bind]
  simp [hi, hz0]

theorem ZS_at0 : ZS[0]? = some (.int .u32 0) := by unfold ZS; rw [List.getElem?_toArray, List.getElem?_cons_zero]
theorem ZS_at1 : ZS[1]? = some (.int .i32 0) := by unfold ZS; rw [List.getElem?_toArray, List.getElem?_cons_succ, List.getElem?_cons_zero]
theorem ZS_at3 (i : Nat) (hi : i < 256) : ZS[3 + i]? = some (.int .u32 0) := by
  unfold ZS
  rw [List.getElem?_toArray, show 3 + i = i + 1 + 1 + 1 by omega, List.getElem?_cons_succ, List.getElem?_cons_succ, List.getElem?_cons_succ, List.getElem?_replicate, if_pos hi]

/-- A new sums. -/
theorem Sm.new (w : World) : Sm (w.alloc (.cells ZS 53)) w.heap.size 0 0 0 := by
  have hn := heap_new w (.cells ZS 53)
  have hc : ∀ o, (w.alloc (.cells ZS 53)).cell? ⟨w.heap.size, o, none⟩ = ZS[o]? := by
    intro o; simp only [World.cell?, hn]; simp
  refine ⟨by rw [hc, ZS_at0], by rw [hc, ZS_at1], fun o => ?_, fun i hi => ⟨.int .u32 0, by rw [hc, ZS_at3 i hi]⟩, fun i hi => by omega, ⟨_, hn⟩⟩
  simp only [World.frozen?, hn]
  simp

set_option maxHeartbeats 1000000 in
theorem implCrcOn_calls (w : World) (c : Int) {lo hi : Nat} {a : Value} {xs : List Int} (hB : Byt xs) (h1 : View w lo hi .u8 a xs) (hb : hi ≤ w.heap.size) :
    Calls Try.prog 7 #[.int .i64 c, a] w fun e w' => e = .returned (.int .i64 (crcOnV c xs)) ∧ Chg 0 0 w w' := by
  by_cases h : c < 0 ∨ c > 4294967295
  · have hv : crcOnV c xs = -1 := by unfold crcOnV; rw [if_pos h]
    rw [hv]
    by_cases h0 : c < 0
    · go_enter Try.func7, Try.ntmps7
      go_wp2
      go_ret
      exact ⟨rfl, Chg.refl _ _ _⟩
    · have h2 : c > 4294967295 := by omega
      go_enter Try.func7, Try.ntmps7
      go_wp2
      go_ret
      exact ⟨rfl, Chg.refl _ _ _⟩
  · obtain ⟨n, rfl⟩ : ∃ n : Nat, c = (n : Int) := ⟨c.toNat, by omega⟩
    have hn : n ≤ 4294967295 := by omega
    have hv : crcOnV n xs = 4294967295 - (reg (4294967295 - n) (nb xs) : Nat) := by unfold crcOnV; rw [if_neg h]; rfl
    rw [hv]
    have h0 : ¬ (n : Int) < 0 := by omega
    have h2 : ¬ (n : Int) > 4294967295 := by omega
    have hlt := reg_lt (nb xs) (4294967295 - n) (by omega)
    have hzs := zero_sums
    go_enter Try.func7, Try.ntmps7
    go_wp2_with fail
    have hA : Chg 0 0 w (w.alloc (.cells ZS 53)) := Chg.alloc (Chg.refl 0 0 w) _
    have hS := Sm.new w
    generalize w.alloc (.cells ZS 53) = w1 at *
    try rw [HW.out]
    refine (on_calls _ w.heap.size n hn hS hB (h1.chg hA (by omega)) (Or.inr hb)).mono ?_
    rintro e w2 ⟨rfl, hc⟩
    have hC : Chg 0 0 w w2 := hA.step hc (Or.inr (Or.inl (Nat.le_refl _)))
    generalize hr : reg (4294967295 - n) (nb xs) = r at *
    have HR : Hid _ := hr
    have HE : Hid (((4294967295 - r : Nat) : Int) = 4294967295 - (r : Int)) := by show _ = _; omega
    go_wp2
    go_ret
    exact ⟨by rw [HR.out, ← HE.out]; rfl, hC⟩

set_option maxHeartbeats 400000 in
theorem implCrc_calls (w : World) {lo hi : Nat} {a : Value} {xs : List Int} (hB : Byt xs) (h1 : View w lo hi .u8 a xs) (hb : hi ≤ w.heap.size) :
    Calls Try.prog 5 #[a] w fun e w' => e = .returned (.int .i64 (crcV xs)) ∧ Chg 0 0 w w' := by
  go_enter Try.func5, Try.ntmps5
  go_wp2_with fail
  refine (implCrcOn_calls _ 0 hB h1 hb).mono ?_
  rintro e w1 ⟨rfl, hc⟩
  rw [crcOnV_zero]
  go_wp2
  go_ret
  exact ⟨rfl, hc⟩

end Go.Proofs.Ytfkkfifjgkoicaa
