/- EncodeEntry of the program. -/
import Derived.Test.YtpahlcejdhncmaaEntImpl
namespace Go.Proofs.Ytpahlcejdhncmaa
open Go.RowKit

set_option maxRecDepth 20000 in
set_option maxHeartbeats 1000000 in
theorem implEncodeEntry_calls (w : World) (q : Int) (s : ByteArray) (_hl : s.size ≤ 1048576) :
    Calls Try.prog 7 #[.agg #[.int .i64 q, .string s]] w fun e w' => ∃ v, e = .returned v ∧ OwnB w' w.heap.size 38 v (encEnt q s) ∧ Chg 0 0 w w' := by
  have hA : Chg 0 0 w (w.alloc (.cells (entA q s) 27)) := Chg.alloc (Chg.refl 0 0 w) _
  have hb := heap_new w (.cells (entA q s) 27)
  obtain ⟨c0, c1⟩ := ent_cells hb
  have hN1 := isValidE_calls (w.alloc (.cells (entA q s) 27)) q s
  have Hb : Hid ((w.alloc (.cells (entA q s) 27)).heap[w.heap.size]? = some (.cells (entA q s) 27 (0, 0))) := hb
  have HA : Hid (Chg 0 0 w (w.alloc (.cells (entA q s) 27))) := hA
  clear hb hA
  cases hR : entB q s with
  | true =>
    rw [hR] at hN1
    obtain ⟨g1, g2, g3, g4⟩ := ent_good hR
    have hN4 := fun w' => encE_calls w' q s ⟨g1, g2⟩ g4
    have HE : Hid (encEnt q s = entL q s) := if_pos hR
    have hrl : (entL q s).length = 16 := entL_len hR
    have hrl2 : (recE q s).length = 16 := by unfold recE; rw [List.length_map]; exact hrl
    have Hrl : Hid ((recE q s).length = 16) := hrl2
    have Hrl1 : Hid ((entL q s).length = 16) := hrl
    have hicr : (Try.prog.info? 38).map (·.size) = some (recE q s).length := by rw [hrl2]; exact Try.sizeERec
    have HV2 : Hid (∀ v ∈ recE q s, v.oneCell' = true) := by show ∀ v ∈ recE q s, v.oneCell' = true; unfold recE; exact ints_oneCell _ _
    have Hrec : Hid (recE q s = (entL q s).map (Value.int .u8)) := rfl
    clear hR hrl hrl2 g1 g2 g3 g4
    generalize recE q s = rs at *
    go_enter Try.func7, Try.ntmps7
    go_wp2_with (first
      | (go_at_call 15; refine hN1.mono ?_; clear hN1; rintro e w2 ⟨rfl, hc2⟩; obtain ⟨d0, d1⟩ := ent_cells ((hc2.block _ (Array.getElem?_eq_some_iff.1 Hb.out).1 (by omega)).trans Hb.out))
      | (go_at_call 16; refine (hN4 _).mono ?_; clear hN4; rintro e w5 ⟨rfl, hc5⟩)
      | (refine wpList_store_row rfl 38 (.tmp 3) (.tmp 8) rfl rfl w5.heap.size rfl rs Z16 38 rfl (by rw [← Z16_eq]; exact heap_new w5 _) (by rw [Z16_length]; exact Hrl.out) hicr HV2.out ?_; intro wh hbh hch))
    go_ret
    have C5 := (HA.out.trans hc2).trans hc5
    have C6 : Chg 0 0 w wh := C5.trans ((Chg.alloc (Chg.refl 0 0 w5) _).step hch (by omega))
    refine ⟨_, rfl, ?_, C6⟩
    rw [HE.out]
    refine ⟨by rw [List.length_map, Nat.mul_one], Or.inr ⟨w5.heap.size, 16, rs.toArray, by rw [Hrl1.out]; rfl, C5.size, hbh, by rw [Hrl1.out]; exact Nat.le_refl _, by unfold maxLen; omega, by simpa using Hrl.out, ?_⟩⟩
    rw [List.take_of_length_le (by simp; rw [Hrl.out, Hrl1.out]; omega)]
    exact Hrec.out
  | false =>
    rw [hR] at hN1
    have HE : Hid (encEnt q s = []) := if_neg (by rw [hR]; simp)
    clear hR
    go_enter Try.func7, Try.ntmps7
    go_wp2_with (go_at_call 15; refine hN1.mono ?_; clear hN1; rintro e w2 ⟨rfl, hc2⟩)
    go_ret
    exact ⟨_, rfl, by rw [HE.out]; exact ⟨rfl, Or.inl ⟨rfl, rfl⟩⟩, HA.out.trans hc2⟩

end Go.Proofs.Ytpahlcejdhncmaa
