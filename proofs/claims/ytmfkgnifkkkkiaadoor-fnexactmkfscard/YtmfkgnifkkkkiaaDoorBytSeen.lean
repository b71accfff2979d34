/- Several short texts in one: SpecCrc, PutN, PutByt, PutLen, BytSeen. -/
import Derived.Test.YtmfkgnifkkkkiaaDoorSteps
import Derived.Laws.AppendOwnNone
import Derived.Deep.MidRow
namespace Go.Proofs.YtmfkgnifkkkkiaaDoor
open Go.RowKit

set_option maxHeartbeats 400000 in
theorem l2Step_calls (w : World) (x b : Nat) (hx : x < 4294967296) (hb : b < 2) :
    Calls Tryd.prog 68 #[.int .i64 x, .int .i64 b] w fun e w' => e = .returned (.int .i64 (stp x b : Nat)) ∧ w' = w := by
  by_cases h1 : (x + b) % 2 = 1
  · have HX : Hid (((stp x b : Nat) : Int) = bits .xor .i64 ((x : Int) / 2) 2197175160) := by
      show _ = _
      rw [xor_taps' x hx]; unfold stp; rw [if_pos h1]
    have hc : (((x : Int) + b) % 2 == 1) = true := by rw [show ((x : Int) + b) % 2 = 1 by omega]; rfl
    rw [HX.out]
    go_enter Tryd.func68, Tryd.ntmps68
    go_wp2
    go_ret
    exact ⟨rfl, rfl⟩
  · have HX : Hid (((stp x b : Nat) : Int) = (x : Int) / 2) := by
      show _ = _
      unfold stp; rw [if_neg h1]; omega
    have hc : (((x : Int) + b) % 2 == 1) = false := by rw [show ((x : Int) + b) % 2 = 0 by omega]; rfl
    rw [HX.out]
    go_enter Tryd.func68, Tryd.ntmps68
    go_wp2
    go_ret
    exact ⟨rfl, rfl⟩

set_option maxHeartbeats 1000000 in
theorem l2Reg_some (w : World) (x : Nat) (hx : x < 4294967296) (xs : List Int) (b off cap : Nat) (hB : Byt xs) (hl : xs.length ≤ 9223372036854775807)
    (h1 : ∀ i, i < xs.length → w.cell? ⟨b, off + i, none⟩ = some (.int .u8 (xs.getD i 0))) :
    Calls Tryd.prog 59 #[.int .i64 x, .slice (some ⟨b, off, none⟩) xs.length cap] w fun e w' => e = .returned (.int .i64 (reg x (nb xs) : Nat)) ∧ w' = w := by
  have HB : Hid (Byt xs) := hB
  have HG : Hid (∀ i, i < xs.length → w.cell? ⟨b, off + i, none⟩ = some (.int .u8 (xs.getD i 0))) := h1
  clear hB h1
  go_enter Tryd.func59, Tryd.ntmps59
  go_wp2
  go_loop [0, 5] (fun y i => ∃ k : Nat, k ≤ xs.length ∧ i = .int .i64 k ∧ y = .int .i64 (reg x (nb (xs.take k)) : Nat)) (fun _ i => xs.length - (intOf i).toNat)
  case atStart => exact ⟨0, Nat.zero_le _, rfl, rfl⟩
  case round =>
    obtain ⟨k, hk, rfl, rfl⟩ := hrel
    by_cases hlt : k < xs.length
    · have c1 := HG.out k hlt
      have b3 := HB.out.getD k
      have hi : (k : Int) < (xs.length : Int) := by omega
      have b1 := reg_lt (nb (xs.take k)) x hx
      have HE : Hid (reg x (nb (xs.take (k + 1))) = regK 8 (reg x (nb (xs.take k))) (xs.getD k 0).toNat) := reg_take_succ x xs k hlt
      generalize reg x (nb (xs.take k)) = y at *
      obtain ⟨d, hd⟩ : ∃ d : Nat, xs.getD k 0 = (d : Int) := ⟨(xs.getD k 0).toNat, by omega⟩
      have HD : Hid (xs.getD k 0 = (d : Int)) := hd
      rw [hd] at c1 b3
      clear hd
      go_wp2
      go_loop [0, 6, 7] (fun z v j => ∃ m : Nat, m ≤ 8 ∧ j = .int .i64 m ∧ v = .int .i64 (d / 2 ^ m : Nat) ∧ z = .int .i64 (regK m y d : Nat)) (fun _ _ j => 8 - (intOf j).toNat)
      case atStart => exact ⟨0, Nat.zero_le _, rfl, by simp, rfl⟩
      case round =>
        obtain ⟨m, hm, rfl, rfl, rfl⟩ := hrel
        have b2 := regK_lt m y d b1
        by_cases hm8 : m < 8
        · have HN : Hid (regK (m + 1) y d = stp (regK m y d) (d / 2 ^ m % 2)) := regK_next m y d
          have HV : Hid (d / 2 ^ (m + 1) = d / 2 ^ m / 2) := by show _ = _; rw [Nat.pow_succ, Nat.div_div_eq_div_mul]
          have hle : d / 2 ^ m ≤ d := Nat.div_le_self _ _
          generalize regK m y d = z at *
          generalize d / 2 ^ m = v at *
          have hm' : (m : Int) < 8 := by omega
          have E2 : Hid ((v : Int) % 2 = ((v % 2 : Nat) : Int)) := by show _ = _; omega
          go_wp2_with fail
          rw [E2.out]
          refine (l2Step_calls _ z (v % 2) b2 (by omega)).mono ?_
          rintro e w1 ⟨rfl, rfl⟩
          clear E2
          go_wp2
          go_round
          case rel => exact ⟨m + 1, by omega, by go_num, by rw [HV.out]; go_num, by rw [HN.out]⟩
          case measure => simp [intOf]; omega
        · obtain rfl : m = 8 := by omega
          have HE' : Hid (reg x (nb (xs.take (k + 1))) = regK 8 y d) := by show _ = _; rw [HE.out, HD.out]; rfl
          clear HE
          generalize regK 8 y d = z at *
          go_wp2
          go_round
          case rel => exact ⟨k + 1, by omega, by go_num, by rw [HE'.out]⟩
          case measure => simp [intOf]; omega
    · obtain rfl : k = xs.length := by omega
      rw [List.take_length]
      go_wp2
      go_ret
      exact ⟨rfl, rfl⟩

set_option maxHeartbeats 400000 in
theorem l2Reg_none (w : World) (x : Nat) (ao : Option Addr) (cap : Nat) :
    Calls Tryd.prog 59 #[.int .i64 x, .slice ao 0 cap] w fun e w' => e = .returned (.int .i64 (x : Nat)) ∧ w' = w := by
  go_enter Tryd.func59, Tryd.ntmps59
  go_wp2
  refine wp_loop_rounds 1 ?_; rw [rounds_succ]
  go_wp2
  go_ret
  exact ⟨rfl, rfl⟩

theorem l2Reg_calls (w : World) (x : Nat) (hx : x < 4294967296) {lo hi : Nat} {a : Value} {xs : List Int} (hB : Byt xs) (h1 : View w lo hi .u8 a xs) :
    Calls Tryd.prog 59 #[.int .i64 x, a] w fun e w' => e = .returned (.int .i64 (reg x (nb xs) : Nat)) ∧ w' = w := by
  obtain ⟨ao, cap, rfl, hl, _, h1⟩ := h1
  rcases h1 with rfl | ⟨g, off, rfl, _, _, h1⟩
  · exact l2Reg_none w x ao cap
  · exact l2Reg_some w x hx xs g off cap hB hl h1

set_option maxHeartbeats 400000 in
theorem specCrc_calls (w : World) {lo hi : Nat} {a : Value} {xs : List Int} (hB : Byt xs) (h1 : View w lo hi .u8 a xs) :
    Calls Tryd.prog 39 #[a] w fun e w' => e = .returned (.int .i64 (crcV xs)) ∧ w' = w := by
  have hlt := reg_lt (nb xs) 4294967295 (by omega)
  have HV : Hid (crcV xs = 4294967295 - (reg 4294967295 (nb xs) : Nat)) := rfl
  rw [HV.out]
  go_enter Tryd.func39, Tryd.ntmps39
  go_wp2_with fail
  refine (l2Reg_calls _ 4294967295 (by omega) hB h1).mono ?_
  rintro e w1 ⟨rfl, rfl⟩
  generalize hr : reg 4294967295 (nb xs) = r at *
  have HR : Hid (reg 4294967295 (nb xs) = r) := hr
  clear hr
  go_wp2
  go_ret
  exact ⟨by rw [HR.out]; rfl, rfl⟩

end Go.Proofs.YtmfkgnifkkkkiaaDoor

namespace Go.Proofs.YtmfkgnifkkkkiaaDoor
open Go.RowKit

theorem Tryd.infoU1 : (Tryd.prog.info? 5).map (fun i => (i.zero, i.size, i.bytes)) = some (some (.int .u8 0), 1, 1) := by kernel_rfl

/-- The lowest n digits of a number to the base 256, the highest first. -/
def digs (v : Int) : Nat → List Int
  | 0 => []
  | n + 1 => (v / 256 ^ n % 256) :: digs v n

theorem digs_length (v : Int) (n : Nat) : (digs v n).length = n := by
  induction n with
  | zero => rfl
  | succ n ih => simp [digs, ih]

theorem div_next (v : Int) (k : Nat) : v / 256 ^ (k + 1) = v / 256 ^ k / 256 := by
  rw [Int.pow_succ, Int.ediv_ediv_of_nonneg (Int.le_of_lt (Int.pow_pos (by decide)))]

theorem div_nonneg' {v : Int} (h : 0 ≤ v) (k : Nat) : 0 ≤ v / 256 ^ k := Int.ediv_nonneg h (Int.le_of_lt (Int.pow_pos (by decide)))

theorem div_le' {v : Int} (h : 0 ≤ v) (k : Nat) : v / 256 ^ k ≤ v := Int.ediv_le_self _ h

/-- What PutNumber answers. -/
def putN (v n : Int) : List Int := if n < 1 ∨ n > 8 ∨ v < 0 then [] else if v / 256 ^ n.toNat > 0 then [] else digs v n.toNat

set_option maxRecDepth 20000 in
set_option maxHeartbeats 1000000 in
theorem specPut_calls (w : World) (v n : Int) (hv : v ≤ 9223372036854775807) : Calls Tryd.prog 38 #[.int .i64 v, .int .i64 n] w fun e w' => ∃ r, e = .returned r ∧ OwnB w' w.heap.size 5 r (putN v n) ∧ Chg 0 0 w w' := by
  obtain ⟨i, hi, hz0, hz1, hz2⟩ := info_parts Tryd.infoU1
  have C0 : Chg 0 0 w (w.alloc (.cells #[] 5)) := Chg.alloc (Chg.refl 0 0 w) _
  have O0 : (w.alloc (.cells #[] 5)).ownsRow w.heap.size 5 1 (.slice (some ⟨w.heap.size, 0, none⟩) 0 0) 0 [] := by
    have := World.ownsRow_lit (base := w.heap.size) (e := 5) (size := 1) w #[] 0 (Nat.le_refl _) (by unfold maxLen; omega) rfl
    simpa using this
  by_cases hbad : n < 1 ∨ n > 8 ∨ v < 0
  · have HO : Hid (OwnB (w.alloc (.cells #[] 5)) w.heap.size 5 (.slice (some ⟨w.heap.size, 0, none⟩) 0 0) (putN v n)) := by
      show OwnB _ _ _ _ _
      unfold putN; rw [if_pos hbad]; exact O0
    clear O0
    by_cases h1 : n < 1
    · go_enter Tryd.func38, Tryd.ntmps38
      go_wp2
      go_ret
      exact ⟨_, rfl, HO.out, C0⟩
    · by_cases h2 : n > 8
      · go_enter Tryd.func38, Tryd.ntmps38
        go_wp2
        go_ret
        exact ⟨_, rfl, HO.out, C0⟩
      · have h3 : v < 0 := by omega
        go_enter Tryd.func38, Tryd.ntmps38
        go_wp2
        go_ret
        exact ⟨_, rfl, HO.out, C0⟩
  · obtain ⟨m, rfl⟩ : ∃ m : Nat, n = (m : Int) := ⟨n.toNat, by omega⟩
    have h1 : ¬ (m : Int) < 1 := by omega
    have h2 : ¬ (m : Int) > 8 := by omega
    have h3 : ¬ v < 0 := by omega
    have HO : Hid (OwnB (w.alloc (.cells #[] 5)) w.heap.size 5 (.slice (some ⟨w.heap.size, 0, none⟩) 0 0) (digs v 0)) := O0
    have HB : Hid (¬ ((m : Int) < 1 ∨ (m : Int) > 8 ∨ v < 0)) := hbad
    have HC : Hid (Chg 0 0 w (w.alloc (.cells #[] 5))) := C0
    clear O0 hbad C0
    go_enter Tryd.func38, Tryd.ntmps38
    go_wp2
    go_loopw [0, 5, 6] (fun u out i wr => ∃ k : Nat, k ≤ m ∧ i = .int .i64 k ∧ u = .int .i64 (v / 256 ^ k) ∧ (∃ g cap, out = .slice (some ⟨g, 0, none⟩) k cap) ∧ OwnB wr w.heap.size 5 out (digs v k) ∧ Chg 0 0 w wr) (fun _ _ i _ => m - (intOf i).toNat)
    case atStart => exact ⟨0, Nat.zero_le _, rfl, by simp, ⟨_, _, rfl⟩, HO.out, HC.out⟩
    case round =>
      obtain ⟨k, hk, rfl, rfl, ⟨g, cap, rfl⟩, ho, hc⟩ := hrel
      clear HO HC
      by_cases hlt : k < m
      · have hi' : (k : Int) < (m : Int) := by omega
        have b1 := div_nonneg' (v := v) (by omega) k
        have b2 := div_le' (v := v) (by omega) k
        generalize hu : v / 256 ^ k = u at *
        have hlen := digs_length v k
        have O1 : (wr.alloc (.cells #[.int .u8 (u % 256)] 5)).ownsRow w.heap.size 5 1 (.slice (some ⟨wr.heap.size, 0, none⟩) 1 1) 1 [.int .u8 (u % 256)] :=
          World.ownsRow_lit (base := w.heap.size) (e := 5) (size := 1) wr #[.int .u8 (u % 256)] 1 hc.size (by unfold maxLen; omega) rfl
        have hsrc : ∀ j y, ((digs v k).map (Value.int .u8))[j]? = some y → (wr.alloc (.cells #[.int .u8 (u % 256)] 5)).cell? ((⟨g, 0, none⟩ : Addr).add j) = some y := by
          intro j y hj
          have hjl : j < k := by have := (List.getElem?_eq_some_iff.1 hj).1; simpa [hlen] using this
          have ho' : wr.ownsRow w.heap.size 5 1 (.slice (some ⟨g, 0, none⟩) k cap) k ((digs v k).map (Value.int .u8)) := by
            have := ho; unfold OwnB at this; rw [hlen] at this; exact this
          have h4 := World.ownsRow.cellAt ho' j (by omega)
          rw [hj] at h4
          rw [Addr.add_mid, Nat.zero_add]
          exact (Chg.alloc (Chg.refl 0 0 wr) _).cell h4 (by omega)
        have Hsrc : Hid (∀ j y, ((digs v k).map (Value.int .u8))[j]? = some y → (wr.alloc (.cells #[.int .u8 (u % 256)] 5)).cell? ((⟨g, 0, none⟩ : Addr).add j) = some y) := hsrc
        have bs : Hid (w.heap.size ≤ (wr.alloc (.cells #[.int .u8 (u % 256)] 5)).heap.size) := by show _ ≤ _; have := hc.size; simp; omega
        have HO1 : Hid _ := O1
        have HL : Hid ((digs v k).length = k) := hlen
        have HU : Hid (v / 256 ^ k = u) := hu
        have Hc : Hid (Chg 0 0 w wr) := hc
        clear hsrc ho O1 hlen hu hc
        go_wp2_with (at_builtin; refine wpList_append_own _ rfl (.tmp 27) (.tmp 28) 24 rfl w.heap.size 5 i (.int .u8 0) 1 1 Tryd.underlying24 hi hz0 hz1 hz2 rfl (by decide) _ 1 [.int .u8 (u % 256)] rfl HO1.out ⟨g, 0, none⟩ k cap ((digs v k).map (Value.int .u8)) rfl (by rw [List.length_map, HL.out]; omega) Hsrc.out (ints_oneCell _ _) (by unfold maxLen; omega) (by omega) bs.out ?_)
        intro v' w1 hown hgrow hnn
        have HO : Hid (OwnB w1 w.heap.size 5 v' (digs v (k + 1))) := by
          show OwnB _ _ _ _ _
          unfold OwnB
          rw [digs_length, digs, HU.out, List.map_cons, Nat.add_comm k 1]
          exact hown
        have HV : Hid (∃ g cap, v' = .slice (some ⟨g, 0, none⟩) (k + 1) cap) := by
          show ∃ g cap, _
          rcases hown.2 with ⟨e, _⟩ | ⟨g', cap', cur, e, _⟩
          · exact absurd e (by simpa using hnn)
          · exact ⟨g', cap', by rw [e, Nat.add_comm]⟩
        have HC : Hid (Chg 0 0 w w1) := (Hc.out.alloc _).step (Chg.ofGrown (lo := wr.heap.size) (hi := wr.heap.size + 1) hgrow (fun k hk _ => by simp only [Value.ownBlock, Option.some.injEq] at hk; omega)) (Or.inr (Or.inl Hc.out.size))
        clear hown hgrow hnn HO1 Hsrc bs
        go_wp2
        go_roundw
        case rel => exact ⟨k + 1, by omega, by go_num, by rw [div_next, HU.out], HV.out, HO.out, HC.out⟩
        case measure => simp [intOf]; omega
      · obtain rfl : k = m := by omega
        have e0 : (k : Int).toNat = k := by omega
        have b1 := div_nonneg' (v := v) (by omega) k
        have b2 := div_le' (v := v) (by omega) k
        by_cases hp : v / 256 ^ k > 0
        · have HO : Hid (OwnB (wr.alloc (.cells #[] 5)) w.heap.size 5 (.slice (some ⟨wr.heap.size, 0, none⟩) 0 0) (putN v k)) := by
            show OwnB _ _ _ _ _
            unfold putN; rw [if_neg HB.out, e0, if_pos hp]
            have := World.ownsRow_lit (base := w.heap.size) (e := 5) (size := 1) wr #[] 0 hc.size (by unfold maxLen; omega) rfl
            exact this
          have HC := hc.alloc (.cells #[] 5)
          generalize v / 256 ^ k = u at *
          clear ho
          go_wp2
          go_ret
          exact ⟨_, rfl, HO.out, HC⟩
        · have HO : Hid (OwnB wr w.heap.size 5 (.slice (some ⟨g, 0, none⟩) k cap) (putN v k)) := by
            show OwnB _ _ _ _ _
            unfold putN; rw [if_neg HB.out, e0, if_neg hp]; exact ho
          generalize v / 256 ^ k = u at *
          clear ho
          go_wp2
          go_ret
          exact ⟨_, rfl, HO.out, hc⟩

/-- What lies in the row when its last k cells are written. -/
theorem digs_set (v : Int) (m k : Nat) (h : k < m) :
    ((List.replicate (m - k) 0 ++ digs v k).map (Value.int .u8)).set (m - k - 1) (.int .u8 (v / 256 ^ k % 256)) = (List.replicate (m - (k + 1)) 0 ++ digs v (k + 1)).map (Value.int .u8) := by
  have e : m - k = (m - (k + 1)) + 1 := by omega
  have e2 : m - k - 1 = m - (k + 1) := by omega
  rw [e2, e, List.replicate_succ', List.append_assoc, List.map_append, List.map_append, List.set_append]
  simp [digs]

set_option maxRecDepth 20000 in
set_option maxHeartbeats 1000000 in
theorem implPut_calls (w : World) (v n : Int) (hv : v ≤ 9223372036854775807) : Calls Tryd.prog 47 #[.int .i64 v, .int .i64 n] w fun e w' => ∃ r, e = .returned r ∧ OwnB w' w.heap.size 5 r (putN v n) ∧ Chg 0 0 w w' := by
  obtain ⟨i, hi, hz0, hz1, hz2⟩ := info_parts Tryd.infoU1
  by_cases hbad : n < 1 ∨ n > 8 ∨ v < 0
  · have HO : Hid (OwnB w w.heap.size 5 (.slice none 0 0) (putN v n)) := by
      show OwnB _ _ _ _ _
      unfold putN; rw [if_pos hbad]; exact OwnB.nil _ _ _
    by_cases h1 : n < 1
    · go_enter Tryd.func47, Tryd.ntmps47
      go_wp2
      go_ret
      exact ⟨_, rfl, HO.out, Chg.refl _ _ _⟩
    · by_cases h2 : n > 8
      · go_enter Tryd.func47, Tryd.ntmps47
        go_wp2
        go_ret
        exact ⟨_, rfl, HO.out, Chg.refl _ _ _⟩
      · have h3 : v < 0 := by omega
        go_enter Tryd.func47, Tryd.ntmps47
        go_wp2
        go_ret
        exact ⟨_, rfl, HO.out, Chg.refl _ _ _⟩
  · obtain ⟨m, rfl⟩ : ∃ m : Nat, n = (m : Int) := ⟨n.toNat, by omega⟩
    have h1 : ¬ (m : Int) < 1 := by omega
    have h2 : ¬ (m : Int) > 8 := by omega
    have h3 : ¬ v < 0 := by omega
    have HB : Hid (¬ ((m : Int) < 1 ∨ (m : Int) > 8 ∨ v < 0)) := hbad
    clear hbad
    go_enter Tryd.func47, Tryd.ntmps47
    go_wp2_with (at_make; refine wpList_make_full _ rfl _ _ 24 rfl w.heap.size 5 i (.int .u8 0) 1 Tryd.underlying24 hi hz0 hz1 _ _ _ _ m rfl rfl rfl rfl (by rw [hz2]; omega) (by unfold maxLen; omega) (by simp) ?_)
    intro w1 hown hgrow
    have hch : Chg 0 0 w w1 := Chg.ofGrown hgrow (by simp)
    have hO : OwnB w1 w.heap.size 5 (.slice (some ⟨w.heap.size, 0, none⟩) m m) (List.replicate (m - 0) 0 ++ digs v 0) := by
      unfold OwnB
      simpa [toList_madeCells_one, digs] using hown
    have hlt0 : w.heap.size < w1.heap.size := by
      have := World.ownsRow.lt hown w.heap.size rfl; omega
    clear hown hgrow
    go_wp2
    go_loopw [5, 7] (fun u i wr => ∃ k : Nat, k ≤ m ∧ i = .int .i64 ((m : Int) - k - 1) ∧ u = .int .u64 (v / 256 ^ k) ∧ OwnB wr w.heap.size 5 (.slice (some ⟨w.heap.size, 0, none⟩) m m) (List.replicate (m - k) 0 ++ digs v k) ∧ Chg 0 0 w wr) (fun _ i _ => (intOf i + 1).toNat)
    case atStart => exact ⟨0, Nat.zero_le _, by go_num, by simp, hO, hch⟩
    case round =>
      obtain ⟨k, hk, rfl, rfl, hown, hc⟩ := hrel
      clear hO hch
      have hlen : (List.replicate (m - k) 0 ++ digs v k).length = m := by simp [digs_length]; omega
      have b1 := div_nonneg' (v := v) (by omega) k
      have b2 := div_le' (v := v) (by omega) k
      by_cases hlt : k < m
      · obtain ⟨j, hj⟩ : ∃ j : Nat, j = m - k - 1 := ⟨_, rfl⟩
        have ej : (m : Int) - k - 1 = (j : Int) := by omega
        have hown' : wr.ownsRow w.heap.size 5 1 (.slice (some ⟨w.heap.size, 0, none⟩) m m) m ((List.replicate (m - k) 0 ++ digs v k).map (Value.int .u8)) := by
          have := hown; unfold OwnB at this; rw [hlen] at this; exact this
        have c1 : ∃ y, wr.cell? ⟨w.heap.size, j, none⟩ = some y := by
          have := World.ownsRow.cellAt hown' j (by omega)
          rw [this]
          exact ⟨_, List.getElem?_eq_getElem (by rw [List.length_map, hlen]; omega)⟩
        obtain ⟨y, c1⟩ := c1
        have f1 : wr.frozen? ⟨w.heap.size, j, none⟩ = false := World.ownsRow.frozenAt hown' j
        have hst := (World.ownsRow.stored hown' j (.int .u8 (v / 256 ^ k % 256))).1
        rw [hj, digs_set _ _ _ hlt, ← hj] at hst
        have hlen2 : (List.replicate (m - (k + 1)) 0 ++ digs v (k + 1)).length = m := by simp [digs_length]; omega
        have HR : Hid (OwnB (wr.setCell ⟨w.heap.size, j, none⟩ (.int .u8 (v / 256 ^ k % 256))) w.heap.size 5 (.slice (some ⟨w.heap.size, 0, none⟩) m m) (List.replicate (m - (k + 1)) 0 ++ digs v (k + 1))) := by
          show OwnB _ _ _ _ _
          unfold OwnB; rw [hlen2]; exact hst
        have HR2 : Hid (Chg 0 0 w (wr.setCell ⟨w.heap.size, j, none⟩ (.int .u8 (v / 256 ^ k % 256)))) := hc.setCell (Or.inr (Nat.le_refl _)) _
        have HU : Hid (v / 256 ^ (k + 1) = v / 256 ^ k / 256) := div_next v k
        generalize v / 256 ^ k = u at *
        clear hst hown hown' hlen hlen2 hc
        rw [ej]
        have hj1 : (j : Int) < (m : Int) := by omega
        have HJ : Hid (j = m - k - 1) := hj
        clear hj ej
        go_wp2
        go_roundw
        case rel => exact ⟨k + 1, by omega, by have := HJ.out; congr 1; omega, by rw [HU.out], HR.out, HR2.out⟩
        case measure => simp [intOf]
      · obtain rfl : k = m := by omega
        have e0 : (k : Int).toNat = k := by omega
        have e1 : (k : Int) - k - 1 = -1 := by omega
        rw [e1]
        clear hlen
        by_cases hp : v / 256 ^ k > 0
        · have HO : Hid (OwnB wr w.heap.size 5 (.slice none 0 0) (putN v k)) := by
            show OwnB _ _ _ _ _
            unfold putN; rw [if_neg HB.out, e0, if_pos hp]; exact OwnB.nil _ _ _
          have hne : (v / 256 ^ k != 0) = true := by simp; omega
          generalize v / 256 ^ k = u at *
          clear hown
          go_wp2
          go_ret
          exact ⟨_, rfl, HO.out, hc⟩
        · have HO : Hid (OwnB wr w.heap.size 5 (.slice (some ⟨w.heap.size, 0, none⟩) k k) (putN v k)) := by
            show OwnB _ _ _ _ _
            unfold putN; rw [if_neg HB.out, e0, if_neg hp]
            have := hown; rw [Nat.sub_self, List.replicate_zero, List.nil_append] at this; exact this
          have hz : v / 256 ^ k = 0 := by omega
          rw [hz]
          clear hown
          go_wp2
          go_ret
          exact ⟨_, rfl, HO.out, hc⟩

end Go.Proofs.YtmfkgnifkkkkiaaDoor

namespace Go.Proofs.YtmfkgnifkkkkiaaDoor
open Go.RowKit

theorem digs_byt (v : Int) (n : Nat) : Byt (digs v n) := by
  induction n with
  | zero => intro x hx; cases hx
  | succ n ih =>
    intro x hx
    rcases List.mem_cons.1 hx with rfl | hx
    · exact ⟨Int.emod_nonneg _ (by decide), Int.emod_lt_of_pos _ (by decide)⟩
    · exact ih x hx

theorem putN_byt (v n : Int) : Byt (putN v n) := by
  unfold putN
  split
  · intro x hx; cases hx
  · split
    · intro x hx; cases hx
    · exact digs_byt _ _

end Go.Proofs.YtmfkgnifkkkkiaaDoor

namespace Go.Proofs.YtmfkgnifkkkkiaaDoor
open Go.RowKit

theorem pn2 {v : Int} (h0 : 0 ≤ v) (h1 : v < 65536) : (putN v 2).length = 2 := by
  unfold putN
  rw [if_neg (by omega), if_neg (by rw [show (256 : Int) ^ (2 : Int).toNat = 65536 from rfl]; omega), digs_length]
  rfl
theorem pn4 {v : Int} (h0 : 0 ≤ v) (h1 : v ≤ 4294967295) : (putN v 4).length = 4 := by
  unfold putN
  rw [if_neg (by omega), if_neg (by rw [show (256 : Int) ^ (4 : Int).toNat = 4294967296 from rfl]; omega), digs_length]
  rfl
theorem crcV_range (xs : List Int) : 0 ≤ crcV xs ∧ crcV xs ≤ 4294967295 := by
  have hlt := reg_lt (nb xs) 4294967295 (by omega)
  unfold crcV
  omega

end Go.Proofs.YtmfkgnifkkkkiaaDoor

namespace Go.Proofs.YtmfkgnifkkkkiaaDoor
open Go.RowKit

/-- A slice of bytes of one's own that is not empty. -/
theorem OwnB.some_of {w : World} {base : Nat} {e : TypeId} {v : Value} {xs : List Int} (h : OwnB w base e v xs) (h0 : 0 < xs.length) : ∃ g c, v = .slice (some ⟨g, 0, none⟩) xs.length c := by
  rcases h.2 with ⟨_, h'⟩ | ⟨g, gc, cur, rfl, _⟩
  · omega
  · exact ⟨g, gc, rfl⟩

theorem OwnB.seen {w : World} {base : Nat} {e : TypeId} {v : Value} {xs : List Int} (h : OwnB w base e v xs) (hl : xs.length ≤ 1048576) : View w base w.heap.size .u8 v xs :=
  h.view (by omega) (fun g hg => (h.lt g hg).2)

theorem OwnB.bnil (w : World) (base : Nat) (h : base ≤ w.heap.size) : OwnB (w.alloc (.cells #[] 5)) base 5 (.slice (some ⟨w.heap.size, 0, none⟩) 0 0) [] := by
  have := World.ownsRow_lit (base := base) (e := 5) (size := 1) w #[] 0 h (by unfold maxLen; omega) rfl
  simpa [OwnB] using this

end Go.Proofs.YtmfkgnifkkkkiaaDoor
