/- EncodeInode of the program. -/
import Derived.Test.YtgadlmjljglpcaaInoIs2
import Derived.Test.YtgadlmjljglpcaaInoOf
import Derived.Test.YtgadlmjljglpcaaInoEncP
namespace Go.Proofs.Ytgadlmjljglpcaa
open Go.RowKit

set_option maxRecDepth 20000 in
set_option maxHeartbeats 1000000 in
theorem implEncodeInode_calls (w : World) {lo hi : Nat} (i : Ino) (ao : Option Addr) (cap : Nat) (hl : i.dir.length ≤ 1048576) (hV : View w lo hi .i64 (.slice ao i.dir.length cap) i.dir) :
    Calls Try.prog 7 #[inoV i ao cap] w fun e w' => ∃ v, e = .returned v ∧ OwnB w' w.heap.size 48 v (encIno i) ∧ Chg 0 0 w w' := by
  have u43 := Try.underlying43
  have hA : Chg 0 0 w (w.alloc (inoO 28 i ao cap)) := Chg.alloc (Chg.refl 0 0 w) _
  have hb := heap_new w (inoO 28 i ao cap)
  obtain ⟨⟨q0, q1, q2, q3, q4⟩, _⟩ := ino_all hb
  have hN := inodeOf_calls (w.alloc (inoO 28 i ao cap)) i ao cap hl (hV.chg hA (by omega))
  have HA : Hid (Chg 0 0 w (w.alloc (inoO 28 i ao cap))) := hA
  clear hb hA hV
  by_cases h : i.dir.length = 8
  · rw [if_pos h, decide_eq_true h] at hN
    have hV2 := fun w' => isValid_calls w' i h
    have hics : (Try.prog.info? 43).map (·.size) = some (nC i).length := by rw [nC_len h]; exact Try.sizeIno
    have Hln : Hid ((nC i).length = 12) := nC_len h
    have HV : Hid (∀ v ∈ nC i, v.oneCell' = true) := nC_one i
    clear h
    cases hR : inoB i with
    | true =>
      rw [hR] at hV2
      have hf := Fits.of hR
      have hN4 := fun w' => encR_calls w' i hf
      have HE : Hid (encIno i = inoL i) := if_pos hR
      have hrl : (inoL i).length = 32 := inoL_len hR
      have hrl2 : (recV i).length = 32 := by unfold recV; rw [List.length_map]; exact hrl
      have Hrl : Hid ((recV i).length = 32) := hrl2
      have Hrl1 : Hid ((inoL i).length = 32) := hrl
      have hicr : (Try.prog.info? 48).map (·.size) = some (recV i).length := by rw [hrl2]; exact Try.sizeRec
      have HV2 : Hid (∀ v ∈ recV i, v.oneCell' = true) := by show ∀ v ∈ recV i, v.oneCell' = true; unfold recV; exact ints_oneCell _ _
      have Hrec : Hid (recV i = (inoL i).map (Value.int .u8)) := rfl
      clear hR hf hrl hrl2
      generalize recV i = rs at *
      generalize nC i = cs at *
      go_enter Try.func7, Try.ntmps7
      go_wp2_with (first
        | (go_at_call 19; refine hN.mono ?_; clear hN; rintro e w2 ⟨rfl, hc2⟩)
        | (refine wpList_store_row rfl 43 (.tmp 3) (.tmp 9) rfl rfl w2.heap.size rfl cs Z12 43 rfl (by rw [← Z12_eq]; exact heap_new w2 _) (by rw [Z12_length]; exact Hln.out) hics HV.out ?_; intro wg hbg hcg)
        | (refine wpList_load_midG (by kernel_rfl) 43 (.tmp 3) rfl w2.heap.size 0 rfl cs _ (row_rng hbg) u43 rfl hics ?_)
        | (go_at_call 20; refine (hV2 _).mono ?_; clear hV2; rintro e w4 ⟨rfl, hc4⟩; have hbg2 := hbg; replace hbg := (hc4.block _ (Array.getElem?_eq_some_iff.1 hbg2).1 (by omega)).trans hbg2)
        | (go_at_call 21; refine (hN4 _).mono ?_; clear hN4; rintro e w5 ⟨rfl, hc5⟩)
        | (refine wpList_store_row rfl 48 (.tmp 5) (.tmp 19) rfl rfl w5.heap.size rfl rs Z32b 48 rfl (by rw [← Z32b_eq]; exact heap_new w5 _) (by rw [Z32b_length]; exact Hrl.out) hicr HV2.out ?_; intro wh hbh hch))
      go_ret
      have C2 := HA.out.trans hc2
      have C3 : Chg 0 0 w wg := C2.trans ((Chg.alloc (Chg.refl 0 0 w2) _).step hcg (by omega))
      have C5 := (C3.trans hc4).trans hc5
      have C6 : Chg 0 0 w wh := C5.trans ((Chg.alloc (Chg.refl 0 0 w5) _).step hch (by omega))
      refine ⟨_, rfl, ?_, C6⟩
      rw [HE.out]
      refine ⟨by rw [List.length_map, Nat.mul_one], Or.inr ⟨w5.heap.size, 32, rs.toArray, by rw [Hrl1.out]; rfl, C5.size, hbh, by rw [Hrl1.out]; exact Nat.le_refl _, by unfold maxLen; omega, by simpa using Hrl.out, ?_⟩⟩
      rw [List.take_of_length_le (by simp; rw [Hrl.out, Hrl1.out]; omega)]
      exact Hrec.out
    | false =>
      rw [hR] at hV2
      have HE : Hid (encIno i = []) := if_neg (by rw [hR]; simp)
      clear hR
      generalize nC i = cs at *
      go_enter Try.func7, Try.ntmps7
      go_wp2_with (first
        | (go_at_call 19; refine hN.mono ?_; clear hN; rintro e w2 ⟨rfl, hc2⟩)
        | (refine wpList_store_row rfl 43 (.tmp 3) (.tmp 9) rfl rfl w2.heap.size rfl cs Z12 43 rfl (by rw [← Z12_eq]; exact heap_new w2 _) (by rw [Z12_length]; exact Hln.out) hics HV.out ?_; intro wg hbg hcg)
        | (refine wpList_load_midG (by kernel_rfl) 43 (.tmp 3) rfl w2.heap.size 0 rfl cs _ (row_rng hbg) u43 rfl hics ?_)
        | (go_at_call 20; refine (hV2 _).mono ?_; clear hV2; rintro e w4 ⟨rfl, hc4⟩))
      go_ret
      exact ⟨_, rfl, by rw [HE.out]; exact ⟨rfl, Or.inl ⟨rfl, rfl⟩⟩, ((HA.out.trans hc2).trans ((Chg.alloc (Chg.refl 0 0 w2) _).step hcg (by omega))).trans hc4⟩
  · rw [if_neg h, decide_eq_false h] at hN
    have HE : Hid (encIno i = []) := if_neg (by rw [inoB_false (fun h' => h h'.1.1)]; simp)
    have hicz : (Try.prog.info? 43).map (·.size) = some Z12.length := by rw [Z12_length]; exact Try.sizeIno
    have hz1 : ∀ v ∈ Z12, v.oneCell' = true := by rw [Z12_ino]; exact nC_one _
    clear h
    go_enter Try.func7, Try.ntmps7
    go_wp2_with (first
      | (go_at_call 19; refine hN.mono ?_; clear hN; rintro e w2 ⟨rfl, hc2⟩)
      | (refine wpList_store_row rfl 43 (.tmp 3) (.tmp 9) rfl rfl w2.heap.size rfl Z12 Z12 43 rfl (by rw [← Z12_eq]; exact heap_new w2 _) rfl hicz hz1 ?_; intro wg hbg hcg))
    go_ret
    exact ⟨_, rfl, by rw [HE.out]; exact ⟨rfl, Or.inl ⟨rfl, rfl⟩⟩, (HA.out.trans hc2).trans ((Chg.alloc (Chg.refl 0 0 w2) _).step hcg (by omega))⟩

end Go.Proofs.Ytgadlmjljglpcaa
