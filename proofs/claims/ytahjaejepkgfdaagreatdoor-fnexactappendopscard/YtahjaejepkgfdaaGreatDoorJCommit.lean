/- Several short texts in one: ImplCrc, OnTwo, JCommit. -/
import Derived.Test.YtahjaejepkgfdaaGreatDoorOnce
import Derived.Test.YtahjaejepkgfdaaGreatDoorJEnc
namespace Go.Proofs.YtahjaejepkgfdaaGreatDoor
open Go.RowKit

theorem xor_low (r d : Nat) (hd : d < 256) : bits .xor .u8 ((r : Int) % 256) (d : Int) = ((r % 256 ^^^ d : Nat) : Int) := by
  have := u8_xor_nat (r % 256) d (by omega) hd
  rw [← this]; congr 1

theorem xor_high (r t : Nat) (hr : r < 4294967296) (ht : t < 4294967296) : bits .xor .u32 ((r : Int) / 256) (t : Int) = ((r / 256 ^^^ t : Nat) : Int) := by
  have := u32_xor_nat (r / 256) t (by omega) ht
  rw [← this]; congr 1

theorem not32' (a : Nat) (ha : a < 4294967296) : bits .xor .u32 IntKind.u32.max (a : Int) = ((4294967295 - a : Nat) : Int) := by
  have h : IntKind.u32.max = 4294967295 := by decide
  rw [h]; exact not32 a ha

set_option maxHeartbeats 1000000 in
theorem on_some (w : World) (b c : Nat) (hc : c ≤ 4294967295) (h : Sm w b 0 0 0) (xs : List Int) (g off cap : Nat) (hB : Byt xs) (hl : xs.length ≤ 9223372036854775807) (hg : g ≠ b)
    (h1 : ∀ i, i < xs.length → w.cell? ⟨g, off + i, none⟩ = some (.int .u8 (xs.getD i 0))) :
    Calls Tryz.prog 52 #[.pointer (some ⟨b, 0, none⟩), .int .u32 c, .slice (some ⟨g, off, none⟩) xs.length cap] w fun e w' => e = .returned (.int .u32 (4294967295 - reg (4294967295 - c) (nb xs) : Nat)) ∧ Chg b (b + 1) w w' := by
  have HS : Hid _ := h
  have HB : Hid (Byt xs) := hB
  have HG : Hid _ := h1
  have HN : Hid (bits .xor .u32 IntKind.u32.max (c : Int) = ((4294967295 - c : Nat) : Int)) := not32' c (by omega)
  go_enter Tryz.func52, Tryz.ntmps52
  go_wp2_with (go_at_call 82; refine (onceDo_calls _ b HS.out).mono ?_; rintro e w1 ⟨rfl, hs, hch⟩)
  go_wp2
  go_loop [7, 20] (fun y i => ∃ k : Nat, k ≤ xs.length ∧ i = .int .i64 k ∧ y = .int .u32 (reg (4294967295 - c) (nb (xs.take k)) : Nat)) (fun _ i => xs.length - (intOf i).toNat)
  case atStart => exact ⟨0, Nat.zero_le _, rfl, by rw [HN.out]; rfl⟩
  case round =>
    obtain ⟨k, hk, rfl, rfl⟩ := hrel
    clear HS HN
    have b1 := reg_lt (nb (xs.take k)) (4294967295 - c) (by omega)
    by_cases hlt : k < xs.length
    · have c1 := hch.cell (HG.out k hlt) (by omega)
      have b3 := HB.out.getD k
      have hi : (k : Int) < (xs.length : Int) := by omega
      have HE : Hid (reg (4294967295 - c) (nb (xs.take (k + 1))) = regK 8 (reg (4294967295 - c) (nb (xs.take k))) (xs.getD k 0).toNat) := reg_take_succ _ xs k hlt
      generalize reg (4294967295 - c) (nb (xs.take k)) = r at *
      obtain ⟨d, hd⟩ : ∃ d : Nat, xs.getD k 0 = (d : Int) := ⟨(xs.getD k 0).toNat, by omega⟩
      rw [hd] at c1 b3
      have hx := xor_low r d (by omega)
      have ht : r % 256 ^^^ d < 256 := Nat.xor_lt_two_pow (n := 8) (by omega) (by omega)
      have HE' : Hid (reg (4294967295 - c) (nb (xs.take (k + 1))) = r / 256 ^^^ regK 8 (r % 256 ^^^ d) 0) := by
        show _ = _
        rw [HE.out, hd]; exact regK_table r d (by omega)
      clear HE hd
      generalize r % 256 ^^^ d = t at *
      have ct := hs.tab t ht
      have bt := regK_lt 8 t 0 (by omega)
      generalize regK 8 t 0 = z at *
      have hz := xor_high r z b1 bt
      clear hs hch
      go_wp2
      go_round
      case rel => exact ⟨k + 1, by omega, by go_num, by rw [HE'.out]⟩
      case measure => simp [intOf]; omega
    · obtain rfl : k = xs.length := by omega
      rw [List.take_length] at *
      generalize hr : reg (4294967295 - c) (nb xs) = r at *
      have HR : Hid (reg (4294967295 - c) (nb xs) = r) := hr
      have HN : Hid (bits .xor .u32 IntKind.u32.max (r : Int) = ((4294967295 - r : Nat) : Int)) := not32' r (by omega)
      clear hs hr
      go_wp2
      go_ret
      exact ⟨by rw [HR.out, ← HN.out]; rfl, hch⟩

set_option maxHeartbeats 1000000 in
theorem on_none (w : World) (b c : Nat) (hc : c ≤ 4294967295) (h : Sm w b 0 0 0) (ao : Option Addr) (cap : Nat) :
    Calls Tryz.prog 52 #[.pointer (some ⟨b, 0, none⟩), .int .u32 c, .slice ao 0 cap] w fun e w' => e = .returned (.int .u32 (4294967295 - (4294967295 - c) : Nat)) ∧ Chg b (b + 1) w w' := by
  have HS : Hid _ := h
  have hn := not32' c (by omega)
  have hn2 := not32' (4294967295 - c) (by omega)
  generalize 4294967295 - c = r at *
  generalize 4294967295 - r = q at *
  go_enter Tryz.func52, Tryz.ntmps52
  go_wp2_with (go_at_call 82; refine (onceDo_calls _ b HS.out).mono ?_; rintro e w1 ⟨rfl, hs, hch⟩)
  go_wp2
  refine wp_loop_rounds 1 ?_; rw [rounds_succ]
  go_wp2
  go_ret
  exact ⟨rfl, hch⟩

theorem on_calls (w : World) (b c : Nat) (hc : c ≤ 4294967295) (h : Sm w b 0 0 0) {lo hi : Nat} {a : Value} {xs : List Int} (hB : Byt xs) (h1 : View w lo hi .u8 a xs) (hb : b < lo ∨ hi ≤ b) :
    Calls Tryz.prog 52 #[.pointer (some ⟨b, 0, none⟩), .int .u32 c, a] w fun e w' => e = .returned (.int .u32 (4294967295 - reg (4294967295 - c) (nb xs) : Nat)) ∧ Chg b (b + 1) w w' := by
  obtain ⟨ao, cap, rfl, hl, _, h1⟩ := h1
  rcases h1 with rfl | ⟨x, off, rfl, hx1, hx2, h1⟩
  · exact on_none w b c hc h ao cap
  · exact on_some w b c hc h xs x off cap hB hl (by omega) h1

/-- The cells of a sums that was never written. -/
def ZS : Array Value := (.int .u32 0 :: .int .i32 0 :: .int .u32 0 :: List.replicate 256 (Value.int .u32 0)).toArray
theorem Tryz.infoSm : (Tryz.prog.info? 100).map (fun i => (i.zero, i.size, i.bytes)) = some (some (.agg ZS), 259, 1036) := by kernel_rfl
theorem zero_sums (w : World) : (zeroValue 100).run Tryz.prog w = .ok (.agg ZS) w := by
  obtain ⟨i, hi, hz0, hz1, hz2⟩ := info_parts Tryz.infoSm
  simp only [zeroValue, typeInfo, Sem.run_bind]
  simp [hi, hz0]

theorem ZS_at0 : ZS[0]? = some (.int .u32 0) := by unfold ZS; rw [List.getElem?_toArray, List.getElem?_cons_zero]
theorem ZS_at1 : ZS[1]? = some (.int .i32 0) := by unfold ZS; rw [List.getElem?_toArray, List.getElem?_cons_succ, List.getElem?_cons_zero]
theorem ZS_at3 (i : Nat) (hi : i < 256) : ZS[3 + i]? = some (.int .u32 0) := by
  unfold ZS
  rw [List.getElem?_toArray, show 3 + i = i + 1 + 1 + 1 by omega, List.getElem?_cons_succ, List.getElem?_cons_succ, List.getElem?_cons_succ, List.getElem?_replicate, if_pos hi]

/-- A new sums. -/
theorem Sm.new (w : World) : Sm (w.alloc (.cells ZS 100)) w.heap.size 0 0 0 := by
  have hn := heap_new w (.cells ZS 100)
  have hc : ∀ o, (w.alloc (.cells ZS 100)).cell? ⟨w.heap.size, o, none⟩ = ZS[o]? := by
    intro o; simp only [World.cell?, hn]; simp
  refine ⟨by rw [hc, ZS_at0], by rw [hc, ZS_at1], fun o => ?_, fun i hi => ⟨.int .u32 0, by rw [hc, ZS_at3 i hi]⟩, fun i hi => by omega, ⟨_, hn⟩⟩
  simp only [World.frozen?, hn]
  simp

set_option maxHeartbeats 1000000 in
theorem implCrcOn_calls (w : World) (c : Int) {lo hi : Nat} {a : Value} {xs : List Int} (hB : Byt xs) (h1 : View w lo hi .u8 a xs) (hb : hi ≤ w.heap.size) :
    Calls Tryz.prog 163 #[.int .i64 c, a] w fun e w' => e = .returned (.int .i64 (crcOnV c xs)) ∧ Chg 0 0 w w' := by
  by_cases h : c < 0 ∨ c > 4294967295
  · have hv : crcOnV c xs = -1 := by unfold crcOnV; rw [if_pos h]
    rw [hv]
    by_cases h0 : c < 0
    · go_enter Tryz.func163, Tryz.ntmps163
      go_wp2
      go_ret
      exact ⟨rfl, Chg.refl _ _ _⟩
    · have h2 : c > 4294967295 := by omega
      go_enter Tryz.func163, Tryz.ntmps163
      go_wp2
      go_ret
      exact ⟨rfl, Chg.refl _ _ _⟩
  · obtain ⟨n, rfl⟩ : ∃ n : Nat, c = (n : Int) := ⟨c.toNat, by omega⟩
    have hn : n ≤ 4294967295 := by omega
    have hv : crcOnV n xs = 4294967295 - (reg (4294967295 - n) (nb xs) : Nat) := by unfold crcOnV; rw [if_neg h]; rfl
    rw [hv]
    have h0 : ¬ (n : Int) < 0 := by omega
    have h2 : ¬ (n : Int) > 4294967295 := by omega
    have hlt := reg_lt (nb xs) (4294967295 - n) (by omega)
    have hzs := zero_sums
    go_enter Tryz.func163, Tryz.ntmps163
    go_wp2_with fail
    have hA : Chg 0 0 w (w.alloc (.cells ZS 100)) := Chg.alloc (Chg.refl 0 0 w) _
    have hS := Sm.new w
    generalize w.alloc (.cells ZS 100) = w1 at *
    try rw [HW.out]
    refine (on_calls _ w.heap.size n hn hS hB (h1.chg hA (by omega)) (Or.inr hb)).mono ?_
    rintro e w2 ⟨rfl, hc⟩
    have hC : Chg 0 0 w w2 := hA.step hc (Or.inr (Or.inl (Nat.le_refl _)))
    generalize hr : reg (4294967295 - n) (nb xs) = r at *
    have HR : Hid _ := hr
    have HE : Hid (((4294967295 - r : Nat) : Int) = 4294967295 - (r : Int)) := by show _ = _; omega
    go_wp2
    go_ret
    exact ⟨by rw [HR.out, ← HE.out]; rfl, hC⟩

set_option maxHeartbeats 400000 in
theorem implCrc_calls (w : World) {lo hi : Nat} {a : Value} {xs : List Int} (hB : Byt xs) (h1 : View w lo hi .u8 a xs) (hb : hi ≤ w.heap.size) :
    Calls Tryz.prog 162 #[a] w fun e w' => e = .returned (.int .i64 (crcV xs)) ∧ Chg 0 0 w w' := by
  go_enter Tryz.func162, Tryz.ntmps162
  go_wp2_with fail
  refine (implCrcOn_calls _ 0 hB h1 hb).mono ?_
  rintro e w1 ⟨rfl, hc⟩
  rw [crcOnV_zero]
  go_wp2
  go_ret
  exact ⟨rfl, hc⟩

end Go.Proofs.YtahjaejepkgfdaaGreatDoor

namespace Go.Proofs.YtahjaejepkgfdaaGreatDoor
open Go.RowKit

/-- A sums that is new, or whose table is there. -/
def SmR (w : World) (b : Nat) : Prop := Sm w b 0 0 0 ∨ Sm w b 1 0 256

set_option maxRecDepth 100000 in
set_option maxHeartbeats 1600000 in
theorem onceDo_done (w : World) (b : Nat) (h : Sm w b 1 0 256) :
    Calls Tryz.prog 82 #[.pointer (some ⟨b, 0, none⟩), .func (.func 83) #[.pointer (some ⟨b, 0, none⟩)] #[]] w fun e w' => e = .returned (.tuple #[]) ∧ Sm w' b 1 0 256 ∧ Chg b (b + 1) w w' := by
  have hl := run_call_load (P := Tryz.prog) Tryz.func107 (by kernel_rfl) (by kernel_rfl) (by kernel_rfl) .u32 (by kernel_rfl) h.c0
  have hnot : ∀ (x : Bool) (w : World), (Op.unary .not (.bool x)).run Tryz.prog w = .ok (.bool (!x)) w := fun _ _ => rfl
  have HS : Hid (Sm w b 1 0 256) := h
  clear h
  go_enter Tryz.func82, Tryz.ntmps82
  go_wp2_with (go_at_call 99; go_in)
  go_end0
  exact ⟨rfl, HS.out, Chg.refl _ _ _⟩

theorem onceDo2_calls (w : World) (b : Nat) (h : SmR w b) :
    Calls Tryz.prog 82 #[.pointer (some ⟨b, 0, none⟩), .func (.func 83) #[.pointer (some ⟨b, 0, none⟩)] #[]] w fun e w' => e = .returned (.tuple #[]) ∧ Sm w' b 1 0 256 ∧ Chg b (b + 1) w w' := by
  rcases h with h | h
  · exact onceDo_calls w b h
  · exact onceDo_done w b h

set_option maxHeartbeats 1000000 in
theorem on2_some (w : World) (b c : Nat) (hc : c ≤ 4294967295) (h : SmR w b) (xs : List Int) (g off cap : Nat) (hB : Byt xs) (hl : xs.length ≤ 9223372036854775807) (hg : g ≠ b)
    (h1 : ∀ i, i < xs.length → w.cell? ⟨g, off + i, none⟩ = some (.int .u8 (xs.getD i 0))) :
    Calls Tryz.prog 52 #[.pointer (some ⟨b, 0, none⟩), .int .u32 c, .slice (some ⟨g, off, none⟩) xs.length cap] w fun e w' => e = .returned (.int .u32 (4294967295 - reg (4294967295 - c) (nb xs) : Nat)) ∧ Sm w' b 1 0 256 ∧ Chg b (b + 1) w w' := by
  have HS : Hid (SmR w b) := h
  have HB : Hid (Byt xs) := hB
  have HG : Hid (∀ i, i < xs.length → w.cell? ⟨g, off + i, none⟩ = some (.int .u8 (xs.getD i 0))) := h1
  clear h hB h1
  have hmf : ∀ (fn : Fn) (first cap : Array Value) (w : World), (Instr.makeFunc fn first cap).run Tryz.prog w = .ok (.func fn first cap) w := fun _ _ _ _ => rfl
  have HN : Hid (bits .xor .u32 IntKind.u32.max (c : Int) = ((4294967295 - c : Nat) : Int)) := not32' c (by omega)
  go_enter Tryz.func52, Tryz.ntmps52
  go_wp2_with (go_at_call 82; refine (onceDo2_calls _ b HS.out).mono ?_; rintro e w1 ⟨rfl, hs, hch⟩; have HSm : Hid (Sm w1 b 1 0 256) := hs)
  go_wp2
  go_loop [7, 20] (fun y i => ∃ k : Nat, k ≤ xs.length ∧ i = .int .i64 k ∧ y = .int .u32 (reg (4294967295 - c) (nb (xs.take k)) : Nat)) (fun _ i => xs.length - (intOf i).toNat)
  case atStart => exact ⟨0, Nat.zero_le _, rfl, by rw [HN.out]; rfl⟩
  case round =>
    obtain ⟨k, hk, rfl, rfl⟩ := hrel
    clear HS HN
    have b1 := reg_lt (nb (xs.take k)) (4294967295 - c) (by omega)
    by_cases hlt : k < xs.length
    · have c1 := hch.cell (HG.out k hlt) (by omega)
      have b3 := HB.out.getD k
      have hi : (k : Int) < (xs.length : Int) := by omega
      have HE : Hid (reg (4294967295 - c) (nb (xs.take (k + 1))) = regK 8 (reg (4294967295 - c) (nb (xs.take k))) (xs.getD k 0).toNat) := reg_take_succ _ xs k hlt
      generalize reg (4294967295 - c) (nb (xs.take k)) = r at *
      obtain ⟨d, hd⟩ : ∃ d : Nat, xs.getD k 0 = (d : Int) := ⟨(xs.getD k 0).toNat, by omega⟩
      rw [hd] at c1 b3
      have hx := xor_low r d (by omega)
      have ht : r % 256 ^^^ d < 256 := Nat.xor_lt_two_pow (n := 8) (by omega) (by omega)
      have HE' : Hid (reg (4294967295 - c) (nb (xs.take (k + 1))) = r / 256 ^^^ regK 8 (r % 256 ^^^ d) 0) := by
        show _ = _
        rw [HE.out, hd]; exact regK_table r d (by omega)
      clear HE hd
      generalize r % 256 ^^^ d = t at *
      have ct := hs.tab t ht
      have bt := regK_lt 8 t 0 (by omega)
      generalize regK 8 t 0 = z at *
      have hz := xor_high r z b1 bt
      clear hs hch
      go_wp2
      go_round
      case rel => exact ⟨k + 1, by omega, by go_num, by rw [HE'.out]⟩
      case measure => simp [intOf]; omega
    · obtain rfl : k = xs.length := by omega
      rw [List.take_length] at *
      generalize hr : reg (4294967295 - c) (nb xs) = r at *
      have HR : Hid (reg (4294967295 - c) (nb xs) = r) := hr
      have HN : Hid (bits .xor .u32 IntKind.u32.max (r : Int) = ((4294967295 - r : Nat) : Int)) := not32' r (by omega)
      clear hs hr
      go_wp2
      go_ret
      exact ⟨by rw [HR.out, ← HN.out]; rfl, HSm.out, hch⟩

end Go.Proofs.YtahjaejepkgfdaaGreatDoor

namespace Go.Proofs.YtahjaejepkgfdaaGreatDoor
open Go.RowKit

set_option maxRecDepth 20000 in
set_option maxHeartbeats 4000000 in
theorem encodedC_calls (w : World) (c q s : Int) (hi : c ≤ 9223372036854775807) (hq : q ≤ 9223372036854775807) (hs : s ≤ 9223372036854775807) (hi2 : (putN c 2).length = 2) (hq4 : (putN q 4).length = 4) (hs4 : (putN s 4).length = 4) :
    Calls Tryz.prog 54 #[.agg #[.int .u8 106, .int .u8 108, .int .u8 111, .int .u8 103, .int .i64 4, .int .i64 c, .int .i64 q, .int .i64 s]] w fun e w' => e = .returned (.agg ((padL (headL 4 c q ++ putN s 4)).map (Value.int .u8)).toArray) ∧ Chg 0 0 w w' := by
  have Hs4 : Hid ((putN s 4).length = 4) := hs4
  clear hs4
  have hN := fun w => begun_calls w 106 108 111 103 4 c q (by omega) (by omega) hi hq hi2 hq4
  have Hi2 : Hid ((putN c 2).length = 2) := hi2
  have Hq4 : Hid ((putN q 4).length = 4) := hq4
  rw [begL_curV hi2 hq4] at hN
  have HY : Hid ((headL 4 c q).length = 12) := headL_length hi2 hq4
  obtain ⟨bs, Hbs⟩ : ∃ bs, Hid (bs = curV (headL 4 c q)) := ⟨_, rfl⟩
  have Hbl : Hid (bs.length = 64) := by show _ = _; rw [Hbs.out]; exact curV_length (by rw [HY.out]; omega)
  have HV : Hid (∀ v ∈ bs, v.oneCell' = true) := by show ∀ v ∈ bs, v.oneCell' = true; rw [Hbs.out]; exact curV_one _
  rw [← Hbs.out] at hN
  have hib : (Tryz.prog.info? 60).map (·.size) = some bs.length := by rw [Hbl.out]; kernel_rfl
  obtain ⟨z1, z2, z3⟩ := alloc2 w (jO 108 4 c q (.int .i64 s)) (.cells Z64.toArray 60)
  have hA : Chg 0 0 w ((w.alloc (jO 108 4 c q (.int .i64 s))).alloc (.cells Z64.toArray 60)) := (Chg.alloc (Chg.refl 0 0 w) _).alloc _
  have HZ : Hid (((w.alloc (jO 108 4 c q (.int .i64 s))).alloc (.cells Z64.toArray 60)).heap.size = w.heap.size + 2 ∧ ((w.alloc (jO 108 4 c q (.int .i64 s))).alloc (.cells Z64.toArray 60)).heap[w.heap.size]? = some (jO 108 4 c q (.int .i64 s)) ∧ ((w.alloc (jO 108 4 c q (.int .i64 s))).alloc (.cells Z64.toArray 60)).heap[w.heap.size + 1]? = some (.cells Z64.toArray 60) ∧ Chg 0 0 w ((w.alloc (jO 108 4 c q (.int .i64 s))).alloc (.cells Z64.toArray 60))) := ⟨z1, z2, z3, hA⟩
  clear z1 z2 z3 hA hi2 hq4
  go_enter Tryz.func54, Tryz.ntmps54
  go_wp2_with fail
  simp only [Z64_eq]
  generalize ((w.alloc (jO 108 4 c q (.int .i64 s))).alloc (.cells Z64.toArray 60)) = wa at *
  refine (hN wa).mono ?_
  rintro e w2 ⟨rfl, hc2⟩
  have HE : Hid (Enc w (w2.alloc (.cells Z64.toArray 60)) w2.heap.size (jO 108 4 c q (.int .i64 s)) Z64) := by
    obtain ⟨z1, z2, z3, hA⟩ := HZ.out
    have s2 := hc2.size
    have hc3 : Chg 0 0 wa (w2.alloc (.cells Z64.toArray 60)) := hc2.alloc _
    exact ⟨(hc3.block _ (by omega) (by omega)).trans z2, (hc3.block _ (by omega) (by omega)).trans z3, heap_new _ _, by omega, hA.trans hc3⟩
  clear hN hc2 HZ
  have hg := HE.out.b2
  rw [← Z64_eq] at hg
  have Hg : Hid (_ = _) := hg
  clear hg
  go_upto_region 2 with (first
    | (refine wpList_store_row rfl 60 (.tmp 3) (.tmp 6) rfl rfl w2.heap.size rfl bs _ 60 rfl Hg.out (by rw [Hbl.out]; rfl) hib HV.out ?_; intro w3 hb3 hc3))
  simp only [Z64_eq] at hc3
  clear Hg
  have HE3 : Hid _ := HE.out.put hc3 hb3
  have hlo := HE3.out.lo
  generalize w2.heap.size = N at *
  clear hb3 hc3 HE
  rw [Hbs.out] at HE3
  clear Hbs Hbl HV hib
  go_cut [11] (fun _ wx => Enc w wx N (jO 108 4 c q (.int .i64 s)) (curV (headL 4 c q ++ putN s 4)))
  case first =>
    have HB1 : Hid _ := HE3.out.chg (Chg.drew (Chg.refl 0 0 w3))
    have HS0 : Hid ((fun w' : World => w'.cell? ⟨w.heap.size, 7, none⟩ = some (.int .i64 s)) w3.drew) := by
      have hb := HB1.out.b0
      show _ = _
      simp [World.cell?, hb]
    refine held_region (fun w' : World => w'.cell? ⟨w.heap.size, 7, none⟩ = some (.int .i64 s)) (by kernel_rfl) ?_
    refine held_take 0 (.slice (some ⟨N, 12, none⟩) 52 52) rfl (by kernel_rfl) (by kernel_rfl) (by kernel_rfl) (fun _ _ _ h => h) (.inl ⟨by kernel_rfl, fun w' hw' => by go_simp⟩) HS0.out ?_
    go_simp
    refine held_take 1 (.pointer (some ⟨w.heap.size, 7, none⟩)) rfl (by kernel_rfl) (by kernel_rfl) (by kernel_rfl) (fun _ _ _ h => h) (.inl ⟨by kernel_rfl, fun w' hw' => by go_simp⟩) HS0.out ?_
    go_simp
    refine held_take 2 (.int .i64 s) rfl (by kernel_rfl) (by kernel_rfl) (by kernel_rfl) (fun _ _ _ h => h) (.inl ⟨by kernel_rfl, fun w' hw' => by have h4 : w'.cell? _ = _ := hw'; go_simp⟩) HS0.out ?_
    go_simp
    generalize w3.drew = x1 at *
    have hlt := HB1.out.lt
    have hN := implPut_calls x1 s 4 (by omega)
    refine held_one 3 rfl rfl (by kernel_rfl) ?_
    refine wp_enter 86 #[.int .i64 s, .int .i64 4] (by first | kernel_rfl | go_simp) hN ?_
    rintro e x2 ⟨r, rfl, o2, c2⟩
    have HB2 : Hid _ := HB1.out.chg c2
    have HS2 : Hid _ := c2.cell HS0.out (by omega)
    obtain ⟨g, gc, rfl, hcell⟩ := o2.two Hs4.out (by omega) (by omega)
    refine ⟨_, rfl, HS2.out, ?_⟩
    have Hcell : Hid _ := hcell
    clear hN o2 c2 hcell
    go_simp
    refine held_one 4 rfl rfl (by kernel_rfl) ?_
    refine wp_copy_row (.tmp 7) (.tmp 10) 45 45 rfl 5 Tryz.underlying45 (by kernel_rfl) N 12 52 52 ⟨g, 0, none⟩ 4 gc rfl rfl (curV (headL 4 c q)) 60 HB2.out.b2 ((putN s 4).map (Value.int .u8)) (by rw [List.length_map, Hs4.out]; rfl) Hcell.out (by rw [List.length_map, Hs4.out, curV_length (by rw [HY.out]; omega)]; decide) (ints_oneCell _ _) ?_
    intro x3 hb3 hc3
    have HB4 : Hid (Enc w x3 N (jO 108 4 c q (.int .i64 s)) (curV (headL 4 c q ++ putN s 4))) := by
      have h := HB2.out.put hc3 hb3.out
      have e := curV_more (headL 4 c q) (putN s 4)
      rw [HY.out] at e
      rw [e] at h
      exact h
    have HS3 : Hid _ := hc3.cell HS2.out (by omega)
    refine ⟨HS3.out, ?_⟩
    clear hb3 hc3
    go_simp
    refine held_done (by kernel_rfl) (NoPanic.normal ?_)
    go_wp2
    go_meet
    exact HB4.out
  case rest =>
    have hcl := curV_length (Y := headL 4 c q ++ putN s 4) (by rw [List.length_append, HY.out, Hs4.out]; omega)
    obtain ⟨cs, hcs⟩ : ∃ cs, cs = curV (headL 4 c q ++ putN s 4) := ⟨_, rfl⟩
    rw [← hcs] at hcut hcl
    have HBm : Hid _ := hcut
    generalize wc = wf at *
    clear hcut HE3
    have HV2 : Hid (∀ v ∈ cs, v.oneCell' = true) := by show ∀ v ∈ cs, v.oneCell' = true; rw [hcs]; exact curV_one _
    have hics : (Tryz.prog.info? 60).map (·.size) = some cs.length := by rw [hcl]; kernel_rfl
    have Hcl : Hid _ := hcl
    have Hcs : Hid _ := hcs
    have u44 := Tryz.underlying60
    have HR : Hid _ := row_rng HBm.out.b2
    have HB1 : Hid _ := HBm.out.b1
    clear hcl hcs
    go_wp2_with (first
      | (refine wpList_load_mid rfl 60 (.tmp 3) rfl N 0 rfl cs _ HR.out u44 rfl hics ?_)
      | (refine wpList_store_row rfl 60 (.tmp 2) (.tmp 12) rfl rfl (w.heap.size + 1) rfl cs Z64 60 rfl HB1.out (by rw [Z64_length]; exact Hcl.out) hics HV2.out ?_; intro wg hbg hcg))
    have HCg : Hid _ := HBm.out.ch.step hcg (by omega)
    have hl1 : (loadVar 60 ⟨w.heap.size + 1, 0, none⟩).run Tryz.prog wg = .ok (.agg cs.toArray) wg := run_loadVar_mid _ _ _ _ cs _ (row_rng hbg) u44 rfl hics
    go_wp2
    exact bodyPost_ret (v := .agg cs.toArray) (results_one Tryz.results54 rfl hl1) rfl ⟨by rw [Hcs.out]; rfl, HCg.out⟩

end Go.Proofs.YtahjaejepkgfdaaGreatDoor
