/- PutNumber of both. -/
import Derived.Test.YtfkkfifjgkoicaaByt
import Derived.Laws.AppendOwnNone
import Derived.Deep.MidRow
namespace Go.Proofs.Ytfkkfifjgkoicaa
open Go.RowKit

theorem Try.infoU1 : (Try.prog.info? 5).map (fun i => (i.zero, i.size, i.bytes)) = some (some (.int .u8 0), 1, 1) := by kernel_rfl

/-- The lowest n digits of a number to the base 256, the highest first. -/
def digs (v : Int) : Nat → List Int
  | 0 => []
  | n + 1 => (v / 256 ^ n % 256) :: digs v n

theorem digs_length (v : Int) (n : Nat) : (digs v n).length = n := by
  induction n with
  | zero => rfl
  | succ n ih => simp [digs, ih]

theorem div_next (v : Int) (k : Nat) : v / 256 ^ (k + 1) = v / 256 ^ k / 256 := by
  rw [Int.pow_succ, Int.ediv_ediv_of_nonneg (Int.le_of_lt (Int.pow_pos (by decide)))]

theorem div_nonneg' {v : Int} (h : 0 ≤ v) (k : Nat) : 0 ≤ v / 256 ^ k := Int.ediv_nonneg h (Int.le_of_lt (Int.pow_pos (by decide)))

theorem div_le' {v : Int} (h : 0 ≤ v) (k : Nat) : v / 256 ^ k ≤ v := Int.ediv_le_self _ h

/-- What PutNumber answers. -/
def putN (v n : Int) : List Int := if n < 1 ∨ n > 8 ∨ v < 0 then [] else if v / 256 ^ n.toNat > 0 then [] else digs v n.toNat

set_option maxRecDepth 20000 in
set_option maxHeartbeats 1000000 in
theorem specPut_calls (w : World) (v n : Int) (hv : v ≤ 9223372036854775807) : Calls Try.prog 11 #[.int .i64 v, .int .i64 n] w fun e w' => ∃ r, e = .returned r ∧ OwnB w' w.heap.size 5 r (putN v n) ∧ Chg 0 0 w w' := by
  obtain ⟨i, hi, hz0, hz1, hz2⟩ := info_parts Try.infoU1
  have C0 : Chg 0 0 w (w.alloc (.cells #[] 5)) := Chg.alloc (Chg.refl 0 0 w) _
  have O0 : (w.alloc (.cells #[] 5)).ownsRow w.heap.size 5 1 (.slice (some ⟨w.heap.size, 0, none⟩) 0 0) 0 [] := by
    have := World.ownsRow_lit (base := w.heap.size) (e := 5) (size := 1) w #[] 0 (Nat.le_refl _) (by unfold maxLen; omega) rfl
    simpa using this
  by_cases hbad : n < 1 ∨ n > 8 ∨ v < 0
  · have HO : Hid (OwnB (w.alloc (.cells #[] 5)) w.heap.size 5 (.slice (some ⟨w.heap.size, 0, none⟩) 0 0) (putN v n)) := by
      show OwnB _ _ _ _ _
      unfold putN; rw [if_pos hbad]; exact O0
    clear O0
    by_cases h1 : n < 1
    · go_enter Try.func11, Try.ntmps11
      go_wp2
      go_ret
      exact ⟨_, rfl, HO.out, C0⟩
    · by_cases h2 : n > 8
      · go_enter Try.func11, Try.ntmps11
        go_wp2
        go_ret
        exact ⟨_, rfl, HO.out, C0⟩
      · have h3 : v < 0 := by omega
        go_enter Try.func11, Try.ntmps11
        go_wp2
        go_ret
        exact ⟨_, rfl, HO.out, C0⟩
  · obtain ⟨m, rfl⟩ : ∃ m : Nat, n = (m : Int) := ⟨n.toNat, by omega⟩
    have h1 : ¬ (m : Int) < 1 := by omega
    have h2 : ¬ (m : Int) > 8 := by omega
    have h3 : ¬ v < 0 := by omega
    have HO : Hid (OwnB (w.alloc (.cells #[] 5)) w.heap.size 5 (.slice (some ⟨w.heap.size, 0, none⟩) 0 0) (digs v 0)) := O0
    have HB : Hid (¬ ((m : Int) < 1 ∨ (m : Int) > 8 ∨ v < 0)) := hbad
    have HC : Hid (Chg 0 0 w (w.alloc (.cells #[] 5))) := C0
    clear O0 hbad C0
    go_enter Try.func11, Try.ntmps11
    go_wp2
    go_loopw [0, 5, 6] (fun u out i wr => ∃ k : Nat, k ≤ m ∧ i = .int .i64 k ∧ u = .int .i64 (v / 256 ^ k) ∧ (∃ g cap, out = .slice (some ⟨g, 0, none⟩) k cap) ∧ OwnB wr w.heap.size 5 out (digs v k) ∧ Chg 0 0 w wr) (fun _ _ i _ => m - (intOf i).toNat)
    case atStart => exact ⟨0, Nat.zero_le _, rfl, by simp, ⟨_, _, rfl⟩, HO.out, HC.out⟩
    case round =>
      obtain ⟨k, hk, rfl, rfl, ⟨g, cap, rfl⟩, ho, hc⟩ := hrel
      clear HO HC
      by_cases hlt : k < m
      · have hi' : (k : Int) < (m : Int) := by omega
        have b1 := div_nonneg' (v := v) (by omega) k
        have b2 := div_le' (v := v) (by omega) k
        generalize hu : v / 256 ^ k = u at *
        have hlen := digs_length v k
        have O1 : (wr.alloc (.cells #[.int .u8 (u % 256)] 5)).ownsRow w.heap.size 5 1 (.slice (some ⟨wr.heap.size, 0, none⟩) 1 1) 1 [.int .u8 (u % 256)] :=
          World.ownsRow_lit (base := w.heap.size) (e := 5) (size := 1) wr #[.int .u8 (u % 256)] 1 hc.size (by unfold maxLen; omega) rfl
        have hsrc : ∀ j y, ((digs v k).map (Value.int .u8))[j]? = some y → (wr.alloc (.cells #[.int .u8 (u % 256)] 5)).cell? ((⟨g, 0, none⟩ : Addr).add j) = some y := by
          intro j y hj
          have hjl : j < k := by have := (List.getElem?_eq_some_iff.1 hj).1; simpa [hlen] using this
          have ho' : wr.ownsRow w.heap.size 5 1 (.slice (some ⟨g, 0, none⟩) k cap) k ((digs v k).map (Value.int .u8)) := by
            have := ho; unfold OwnB at this; rw [hlen] at this; exact this
          have h4 := World.ownsRow.cellAt ho' j (by omega)
          rw [hj] at h4
          rw [Addr.add_mid, Nat.zero_add]
          exact (Chg.alloc (Chg.refl 0 0 wr) _).cell h4 (by omega)
        have Hsrc : Hid (∀ j y, ((digs v k).map (Value.int .u8))[j]? = some y → (wr.alloc (.cells #[.int .u8 (u % 256)] 5)).cell? ((⟨g, 0, none⟩ : Addr).add j) = some y) := hsrc
        have bs : Hid (w.heap.size ≤ (wr.alloc (.cells #[.int .u8 (u % 256)] 5)).heap.size) := by show _ ≤ _; have := hc.size; simp; omega
        have HO1 : Hid _ := O1
        have HL : Hid ((digs v k).length = k) := hlen
        have HU : Hid (v / 256 ^ k = u) := hu
        have Hc : Hid (Chg 0 0 w wr) := hc
        clear hsrc ho O1 hlen hu hc
        go_wp2_with (at_builtin; refine wpList_append_own _ rfl (.tmp 27) (.tmp 28) 22 rfl w.heap.size 5 i (.int .u8 0) 1 1 Try.underlying22 hi hz0 hz1 hz2 rfl (by decide) _ 1 [.int .u8 (u % 256)] rfl HO1.out ⟨g, 0, none⟩ k cap ((digs v k).map (Value.int .u8)) rfl (by rw [List.length_map, HL.out]; omega) Hsrc.out (ints_oneCell _ _) (by unfold maxLen; omega) (by omega) bs.out ?_)
        intro v' w1 hown hgrow hnn
        have HO : Hid (OwnB w1 w.heap.size 5 v' (digs v (k + 1))) := by
          show OwnB _ _ _ _ _
          unfold OwnB
          rw [digs_length, digs, HU.out, List.map_cons, Nat.add_comm k 1]
          exact hown
        have HV : Hid (∃ g cap, v' = .slice (some ⟨g, 0, none⟩) (k + 1) cap) := by
          show ∃ g cap, _
          rcases hown.2 with ⟨e, _⟩ | ⟨g', cap', cur, e, _⟩
          · exact absurd e (by simpa using hnn)
          · exact ⟨g', cap', by rw [e, Nat.add_comm]⟩
        have HC : Hid (Chg 0 0 w w1) := (Hc.out.alloc _).step (Chg.ofGrown (lo := wr.heap.size) (hi := wr.heap.size + 1) hgrow (fun k hk _ => by simp only [Value.ownBlock, Option.some.injEq] at hk; omega)) (Or.inr (Or.inl Hc.out.size))
        clear hown hgrow hnn HO1 Hsrc bs
        go_wp2
        go_roundw
        case rel => exact ⟨k + 1, by omega, by go_num, by rw [div_next, HU.out], HV.out, HO.out, HC.out⟩
        case measure => simp [intOf]; omega
      · obtain rfl : k = m := by omega
        have e0 : (k : Int).toNat = k := by omega
        have b1 := div_nonneg' (v := v) (by omega) k
        have b2 := div_le' (v := v) (by omega) k
        by_cases hp : v / 256 ^ k > 0
        · have HO : Hid (OwnB (wr.alloc (.cells #[] 5)) w.heap.size 5 (.slice (some ⟨wr.heap.size, 0, none⟩) 0 0) (putN v k)) := by
            show OwnB _ _ _ _ _
            unfold putN; rw [if_neg HB.out, e0, if_pos hp]
            have := World.ownsRow_lit (base := w.heap.size) (e := 5) (size := 1) wr #[] 0 hc.size (by unfold maxLen; omega) rfl
            exact this
          have HC := hc.alloc (.cells #[] 5)
          generalize v / 256 ^ k = u at *
          clear ho
          go_wp2
          go_ret
          exact ⟨_, rfl, HO.out, HC⟩
        · have HO : Hid (OwnB wr w.heap.size 5 (.slice (some ⟨g, 0, none⟩) k cap) (putN v k)) := by
            show OwnB _ _ _ _ _
            unfold putN; rw [if_neg HB.out, e0, if_neg hp]; exact ho
          generalize v / 256 ^ k = u at *
          clear ho
          go_wp2
          go_ret
          exact ⟨_, rfl, HO.out, hc⟩

/-- What lies in the row when its last k cells are written. -/
theorem digs_set (v : Int) (m k : Nat) (h : k < m) :
    ((List.replicate (m - k) 0 ++ digs v k).map (Value.int .u8)).set (m - k - 1) (.int .u8 (v / 256 ^ k % 256)) = (List.replicate (m - (k + 1)) 0 ++ digs v (k + 1)).map (Value.int .u8) := by
  have e : m - k = (m - (k + 1)) + 1 := by omega
  have e2 : m - k - 1 = m - (k + 1) := by omega
  rw [e2, e, List.replicate_succ', List.append_assoc, List.map_append, List.map_append, List.set_append]
  simp [digs]

set_option maxRecDepth 20000 in
set_option maxHeartbeats 1000000 in
theorem implPut_calls (w : World) (v n : Int) (hv : v ≤ 9223372036854775807) : Calls Try.prog 10 #[.int .i64 v, .int .i64 n] w fun e w' => ∃ r, e = .returned r ∧ OwnB w' w.heap.size 5 r (putN v n) ∧ Chg 0 0 w w' := by
  obtain ⟨i, hi, hz0, hz1, hz2⟩ := info_parts Try.infoU1
  by_cases hbad : n < 1 ∨ n > 8 ∨ v < 0
  · have HO : Hid (OwnB w w.heap.size 5 (.slice none 0 0) (putN v n)) := by
      show OwnB _ _ _ _ _
      unfold putN; rw [if_pos hbad]; exact OwnB.nil _ _ _
    by_cases h1 : n < 1
    · go_enter Try.func10, Try.ntmps10
      go_wp2
      go_ret
      exact ⟨_, rfl, HO.out, Chg.refl _ _ _⟩
    · by_cases h2 : n > 8
      · go_enter Try.func10, Try.ntmps10
        go_wp2
        go_ret
        exact ⟨_, rfl, HO.out, Chg.refl _ _ _⟩
      · have h3 : v < 0 := by omega
        go_enter Try.func10, Try.ntmps10
        go_wp2
        go_ret
        exact ⟨_, rfl, HO.out, Chg.refl _ _ _⟩
  · obtain ⟨m, rfl⟩ : ∃ m : Nat, n = (m : Int) := ⟨n.toNat, by omega⟩
    have h1 : ¬ (m : Int) < 1 := by omega
    have h2 : ¬ (m : Int) > 8 := by omega
    have h3 : ¬ v < 0 := by omega
    have HB : Hid (¬ ((m : Int) < 1 ∨ (m : Int) > 8 ∨ v < 0)) := hbad
    clear hbad
    go_enter Try.func10, Try.ntmps10
    go_wp2_with (at_make; refine wpList_make_full _ rfl _ _ 22 rfl w.heap.size 5 i (.int .u8 0) 1 Try.underlying22 hi hz0 hz1 _ _ _ _ m rfl rfl rfl rfl (by rw [hz2]; omega) (by unfold maxLen; omega) (by simp) ?_)
    intro w1 hown hgrow
    have hch : Chg 0 0 w w1 := Chg.ofGrown hgrow (by simp)
    have hO : OwnB w1 w.heap.size 5 (.slice (some ⟨w.heap.size, 0, none⟩) m m) (List.replicate (m - 0) 0 ++ digs v 0) := by
      unfold OwnB
      simpa [toList_madeCells_one, digs] using hown
    have hlt0 : w.heap.size < w1.heap.size := by
      have := World.ownsRow.lt hown w.heap.size rfl; omega
    clear hown hgrow
    go_wp2
    go_loopw [5, 7] (fun u i wr => ∃ k : Nat, k ≤ m ∧ i = .int .i64 ((m : Int) - k - 1) ∧ u = .int .u64 (v / 256 ^ k) ∧ OwnB wr w.heap.size 5 (.slice (some ⟨w.heap.size, 0, none⟩) m m) (List.replicate (m - k) 0 ++ digs v k) ∧ Chg 0 0 w wr) (fun _ i _ => (intOf i + 1).toNat)
    case atStart => exact ⟨0, Nat.zero_le _, by go_num, by simp, hO, hch⟩
    case round =>
      obtain ⟨k, hk, rfl, rfl, hown, hc⟩ := hrel
      clear hO hch
      have hlen : (List.replicate (m - k) 0 ++ digs v k).length = m := by simp [digs_length]; omega
      have b1 := div_nonneg' (v := v) (by omega) k
      have b2 := div_le' (v := v) (by omega) k
      by_cases hlt : k < m
      · obtain ⟨j, hj⟩ : ∃ j : Nat, j = m - k - 1 := ⟨_, rfl⟩
        have ej : (m : Int) - k - 1 = (j : Int) := by omega
        have hown' : wr.ownsRow w.heap.size 5 1 (.slice (some ⟨w.heap.size, 0, none⟩) m m) m ((List.replicate (m - k) 0 ++ digs v k).map (Value.int .u8)) := by
          have := hown; unfold OwnB at this; rw [hlen] at this; exact this
        have c1 : ∃ y, wr.cell? ⟨w.heap.size, j, none⟩ = some y := by
          have := World.ownsRow.cellAt hown' j (by omega)
          rw [this]
          exact ⟨_, List.getElem?_eq_getElem (by rw [List.length_map, hlen]; omega)⟩
        obtain ⟨y, c1⟩ := c1
        have f1 : wr.frozen? ⟨w.heap.size, j, none⟩ = false := World.ownsRow.frozenAt hown' j
        have hst := (World.ownsRow.stored hown' j (.int .u8 (v / 256 ^ k % 256))).1
        rw [hj, digs_set _ _ _ hlt, ← hj] at hst
        have hlen2 : (List.replicate (m - (k + 1)) 0 ++ digs v (k + 1)).length = m := by simp [digs_length]; omega
        have HR : Hid (OwnB (wr.setCell ⟨w.heap.size, j, none⟩ (.int .u8 (v / 256 ^ k % 256))) w.heap.size 5 (.slice (some ⟨w.heap.size, 0, none⟩) m m) (List.replicate (m - (k + 1)) 0 ++ digs v (k + 1))) := by
          show OwnB _ _ _ _ _
          unfold OwnB; rw [hlen2]; exact hst
        have HR2 : Hid (Chg 0 0 w (wr.setCell ⟨w.heap.size, j, none⟩ (.int .u8 (v / 256 ^ k % 256)))) := hc.setCell (Or.inr (Nat.le_refl _)) _
        have HU : Hid (v / 256 ^ (k + 1) = v / 256 ^ k / 256) := div_next v k
        generalize v / 256 ^ k = u at *
        clear hst hown hown' hlen hlen2 hc
        rw [ej]
        have hj1 : (j : Int) < (m : Int) := by omega
        have HJ : Hid (j = m - k - 1) := hj
        clear hj ej
        go_wp2
        go_roundw
        case rel => exact ⟨k + 1, by omega, by have := HJ.out; congr 1; omega, by rw [HU.out], HR.out, HR2.out⟩
        case measure => simp [intOf]
      · obtain rfl : k = m := by omega
        have e0 : (k : Int).toNat = k := by omega
        have e1 : (k : Int) - k - 1 = -1 := by omega
        rw [e1]
        clear hlen
        by_cases hp : v / 256 ^ k > 0
        · have HO : Hid (OwnB wr w.heap.size 5 (.slice none 0 0) (putN v k)) := by
            show OwnB _ _ _ _ _
            unfold putN; rw [if_neg HB.out, e0, if_pos hp]; exact OwnB.nil _ _ _
          have hne : (v / 256 ^ k != 0) = true := by simp; omega
          generalize v / 256 ^ k = u at *
          clear hown
          go_wp2
          go_ret
          exact ⟨_, rfl, HO.out, hc⟩
        · have HO : Hid (OwnB wr w.heap.size 5 (.slice (some ⟨w.heap.size, 0, none⟩) k k) (putN v k)) := by
            show OwnB _ _ _ _ _
            unfold putN; rw [if_neg HB.out, e0, if_neg hp]
            have := hown; rw [Nat.sub_self, List.replicate_zero, List.nil_append] at this; exact this
          have hz : v / 256 ^ k = 0 := by omega
          rw [hz]
          clear hown
          go_wp2
          go_ret
          exact ⟨_, rfl, HO.out, hc⟩

end Go.Proofs.Ytfkkfifjgkoicaa
