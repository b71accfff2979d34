/- joined; DiskImage of the program. -/
import Derived.Test.YtplfehjaakkldaaSettle
namespace Go.Proofs.Ytplfehjaakkldaa
open Go.RowKit

set_option maxRecDepth 20000 in
set_option maxHeartbeats 2000000 in
theorem joined_calls (w : World) (gD n : Nat) (xs : List Int) (hrow : w.heap[gD]? = some (.cells (xs.map (Value.int .u8)).toArray 98 (0, 0))) (hl : xs.length = n * 64) (hn1 : 1 ≤ n) (hn : n ≤ 2048) :
    Calls Try.prog 58 #[.slice (some ⟨gD, 0, none⟩) n n] w fun e w' => ∃ g, e = .returned (.slice (some ⟨g, 0, none⟩) (n * 64) (n * 64)) ∧ OwnB w' w.heap.size 5 (.slice (some ⟨g, 0, none⟩) (n * 64) (n * 64)) xs ∧ Chg 0 0 w w' := by
  obtain ⟨i, hi, hz0, hz1, hz2⟩ := info_parts Try.infoU
  have hgz : gD < w.heap.size := (Array.getElem?_eq_some_iff.1 hrow).1
  have Hrow : Hid (w.heap[gD]? = some (.cells (xs.map (Value.int .u8)).toArray 98 (0, 0))) := hrow
  have Hl : Hid (xs.length = n * 64) := hl
  clear hrow hl
  go_enter Try.func58, Try.ntmps58
  go_wp2_with (at_make; refine wpList_make_full _ rfl _ _ 22 rfl w.heap.size 5 i (.int .u8 0) 1 Try.underlying22 hi hz0 hz1 _ _ _ _ (n * 64) rfl rfl (by omega) (by omega) (by rw [hz2]; omega) (by unfold maxLen; omega) (Nat.le_refl _) ?_)
  intro w1 hown hgrow
  have C1 : Chg 0 0 w w1 := Chg.ofGrown hgrow (by simp)
  have G1 : Hid (w1.heap[w.heap.size]? = some (.cells (drow xs n 0).toArray 5 (0, 0))) := by
    rcases hown.2 with ⟨h', _⟩ | ⟨g', cap', cur, h', hb, hg, _, _, hs, ht⟩
    · cases h'
    · simp only [Value.slice.injEq, Option.some.injEq, Addr.mk.injEq, and_true, true_and] at h'
      obtain ⟨rfl, rfl⟩ := h'
      show _ = _
      have hc : cur.toList = (drow xs n 0) := by
        rw [List.take_of_length_le (by rw [Array.length_toList, hs]; exact Nat.le_refl _)] at ht
        rw [ht]
        unfold drow
        simp [toList_madeCells_one]
      rw [hg, ← hc]
  have s1 : w.heap.size < w1.heap.size := by have := (Array.getElem?_eq_some_iff.1 G1.out).1; omega
  clear hown hgrow
  go_wp2
  go_loopw [12] (fun i wr => ∃ k : Nat, k ≤ n ∧ i = .int .i64 k ∧ Chg 0 0 w wr ∧ w1.heap.size ≤ wr.heap.size ∧ wr.heap[w.heap.size]? = some (.cells (drow xs n k).toArray 5 (0, 0))) (fun i _ => n - (intOf i).toNat)
  case atStart => exact ⟨0, Nat.zero_le _, rfl, C1, Nat.le_refl _, G1.out⟩
  case round =>
    obtain ⟨k, hk, rfl, hcw, hsz, hrow⟩ := hrel
    have HR : Hid (wr.heap[w.heap.size]? = some (.cells (drow xs n k).toArray 5 (0, 0))) := hrow
    clear hrow
    by_cases hlt : k < n
    · obtain ⟨cs, hcs⟩ : ∃ cs, cs = ((xs.drop (k * 64)).take 64).map (Value.int .u8) := ⟨_, rfl⟩
      have hle : (k + 1) * 64 ≤ n * 64 := Nat.mul_le_mul_right _ hlt
      have hll := Hl.out
      have L1 : cs.length = 64 := by rw [hcs]; simp; omega
      have L2 : ∀ v ∈ cs, v.oneCell' = true := by rw [hcs]; exact ints_oneCell _ _
      have hgw : wr.heap[gD]? = some (.cells (xs.map (Value.int .u8)).toArray 98 (0, 0)) := (hcw.block gD hgz (by omega)).trans Hrow.out
      have R0 : wr.rangeAt gD (k * 64) cs := by
        intro j v hj
        have hj64 : j < 64 := by have := (List.getElem?_eq_some_iff.1 hj).1; omega
        rw [cell_of_row wr gD (k * 64 + j) _ _ _ hgw, ← hj, hcs, List.getElem?_map, List.getElem?_take, if_pos hj64, List.getElem?_drop]
        simp
      have L4 := drow_length xs n k hll hk
      have L5 := drow_splice xs n k hll hlt
      rw [← hcs] at L5
      have HR0 : Hid (wr.rangeAt gD (k * 64) cs) := R0
      have HL1 : Hid (cs.length = 64) := L1
      have HL2 : Hid (∀ v ∈ cs, v.oneCell' = true) := L2
      have HL4 : Hid ((drow xs n k).length = n * 64) := L4
      have HL5 : Hid (splice (drow xs n k) (k * 64) cs = drow xs n (k + 1)) := L5
      have Hsz : Hid (cs.toArray.size = 64) := by show _ = _; simpa using L1
      have u85 := Try.underlying98
      have i85 : Hid ((Try.prog.info? 98).map (·.size) = some cs.toArray.size) := by show _ = _; rw [Hsz.out]; kernel_rfl
      have i85l : Hid ((Try.prog.info? 98).map (·.size) = some cs.length) := by show _ = _; rw [L1]; kernel_rfl
      clear R0 L1 L2 L4 L5 hcs hgw hll
      have hik : (k : Int) < (n : Int) := by omega
      go_wp2_with (first
        | (refine wpList_load_mid rfl 98 (.tmp 15) rfl gD (k * 64) rfl cs _ HR0.out u85 rfl i85l.out ?_)
        | (refine wpList_store_mid rfl 98 (.tmp 5) (.tmp 16) rfl wr.heap.size 0 cs.toArray rfl rfl (by rw [Hsz.out]; exact there_new wr _ _ 64 rfl) i85.out (all_oneCell_toArray HL2.out) ?_))
      generalize hW : World.setCells (World.alloc wr _) _ _ _ = W7
      have F1 : W7.heap[wr.heap.size]? = some (.cells cs.toArray 98 (0, 0)) := by rw [← hW]; exact (filled (by rw [HL1.out]; rfl)).1
      have F2 : Chg 0 0 wr W7 := by rw [← hW]; exact (filled (by rw [HL1.out]; rfl)).2
      clear hW
      have hrow7 : W7.heap[w.heap.size]? = some (.cells (drow xs n k).toArray 5 (0, 0)) := (F2.block w.heap.size (by omega) (by omega)).trans HR.out
      have Hrow7 : Hid (W7.heap[w.heap.size]? = some (.cells (drow xs n k).toArray 5 (0, 0))) := hrow7
      have hsrc : ∀ j v, cs[j]? = some v → W7.cell? ((⟨wr.heap.size, 0, none⟩ : Addr).add j) = some v := by
        intro j v hj
        rw [Addr.add_mid, Nat.zero_add, cell_of_row W7 wr.heap.size j _ _ _ F1]
        simpa using hj
      have Hsrc : Hid (∀ j v, cs[j]? = some v → W7.cell? ((⟨wr.heap.size, 0, none⟩ : Addr).add j) = some v) := hsrc
      have C7 := hcw.trans F2
      have s7 := F2.size
      have e2 : (0 : Int) ≤ (k : Int) * 64 := by omega
      have e3 : (k : Int) * 64 ≤ (n : Int) * 64 := by omega
      have e3' : (k : Int) * 64 ≤ ((n * 64 : Nat) : Int) := by omega
      have e5 : ¬ n * 64 = k * 64 := by omega
      have e5' : ¬ n = k := by omega
      have e6 : IntKind.i64.wrap ((k : Int) * 64) = (k : Int) * 64 := by rw [IntKind.wrap_i64]; omega
      have e7 : ((k : Int) * 64).toNat = k * 64 := by omega
      clear F1 F2 hrow7 hsrc HR hcw HR0 u85 i85 i85l Hsz
      go_region_held3 (fun _ => True) (trivial)
        ((refine step_copy_mid rfl (.tmp 20) (.tmp 21) 22 22 rfl 5 Try.underlying22 (by kernel_rfl) w.heap.size (k * 64) (n * 64 - k * 64) (n * 64 - k * 64) ⟨wr.heap.size, 0, none⟩ 64 64 rfl rfl _ _ Hrow7.out cs (by rw [HL1.out]; show 64 = min 64 _; omega) Hsrc.out (by rw [HL1.out, HL4.out]; omega) HL2.out ?_; intro w2 H2 C2))
      have R1 : Chg 0 0 w w2 := (C7.drew).step C2 (Or.inr (Or.inl (Nat.le_refl _)))
      have R2 : Hid (w2.heap[w.heap.size]? = some (.cells (drow xs n (k + 1)).toArray 5 (0, 0))) := by
        have := H2.out; rw [HL5.out] at this; exact this
      have R3 : w1.heap.size ≤ w2.heap.size := by have h1 : W7.drew.heap.size ≤ w2.heap.size := C2.size; have h2 : W7.drew.heap.size = W7.heap.size := rfl; omega
      clear C2 H2 C7 Hrow7 Hsrc HL1 HL2 HL4 HL5
      go_wp2
      go_roundw
      case rel => exact ⟨k + 1, by omega, by go_num, R1, R3, R2.out⟩
      case measure => simp [intOf]; omega
    · obtain rfl : k = n := by omega
      have HO : Hid (OwnB wr w.heap.size 5 (.slice (some ⟨w.heap.size, 0, none⟩) (k * 64) (k * 64)) xs) := by
        have h1 := HR.out
        rw [drow_end xs k Hl.out] at h1
        show OwnB _ _ _ _ _
        unfold OwnB
        rw [Hl.out]
        refine ⟨by simp [Hl.out], Or.inr ⟨w.heap.size, _, _, rfl, Nat.le_refl _, h1, Nat.le_refl _, by unfold maxLen; omega, by simp [Hl.out], ?_⟩⟩
        exact List.take_of_length_le (by simp [Hl.out])
      clear HR Hrow Hl G1
      go_wp2
      go_ret
      exact ⟨_, rfl, HO.out, hcw⟩
end Go.Proofs.Ytplfehjaakkldaa
