/- ValidInode of the program. -/
import Derived.Test.YtoicchlekcbbgaaInoIs2
import Derived.Test.YtoicchlekcbbgaaInoOf
namespace Go.Proofs.Ytoicchlekcbbgaa
open Go.RowKit

set_option maxRecDepth 20000 in
set_option maxHeartbeats 1000000 in
theorem implValidInode_calls (w : World) {lo hi : Nat} (i : Ino) (ao : Option Addr) (cap : Nat) (hl : i.dir.length ≤ 1048576) (hV : View w lo hi .i64 (.slice ao i.dir.length cap) i.dir) :
    Calls Try.prog 7 #[inoV i ao cap] w fun e w' => e = .returned (.bool (inoB i)) ∧ Chg 0 0 w w' := by
  have u43 := Try.underlying36
  have hA : Chg 0 0 w (w.alloc (inoO 27 i ao cap)) := Chg.alloc (Chg.refl 0 0 w) _
  have hb := heap_new w (inoO 27 i ao cap)
  obtain ⟨⟨q0, q1, q2, q3, q4⟩, _⟩ := ino_all hb
  have hN := inodeOf_calls (w.alloc (inoO 27 i ao cap)) i ao cap hl (hV.chg hA (by omega))
  have HA : Hid (Chg 0 0 w (w.alloc (inoO 27 i ao cap))) := hA
  clear hb hA hV
  by_cases h : i.dir.length = 8
  · rw [if_pos h, decide_eq_true h] at hN
    have hV2 := fun w' => isValid_calls w' i h
    have hics : (Try.prog.info? 36).map (·.size) = some (nC i).length := by rw [nC_len h]; exact Try.sizeIno
    have Hln : Hid ((nC i).length = 12) := nC_len h
    have HV : Hid (∀ v ∈ nC i, v.oneCell' = true) := nC_one i
    generalize inoB i = R at *
    generalize nC i = cs at *
    clear h
    go_enter Try.func7, Try.ntmps7
    go_wp2_with (first
      | (go_at_call 12; refine hN.mono ?_; clear hN; rintro e w2 ⟨rfl, hc2⟩)
      | (refine wpList_store_row rfl 36 (.tmp 3) (.tmp 8) rfl rfl w2.heap.size rfl cs Z12 36 rfl (by rw [← Z12_eq]; exact heap_new w2 _) (by rw [Z12_length]; exact Hln.out) hics HV.out ?_; intro wg hbg hcg)
      | (refine wpList_load_midG (by kernel_rfl) 36 (.tmp 3) rfl w2.heap.size 0 rfl cs _ (row_rng hbg) u43 rfl hics ?_)
      | (go_at_call 13; refine (hV2 _).mono ?_; rintro e w4 ⟨rfl, hc4⟩))
    go_ret
    exact ⟨rfl, ((HA.out.trans hc2).trans ((Chg.alloc (Chg.refl 0 0 w2) _).step hcg (by omega))).trans hc4⟩
  · rw [if_neg h, decide_eq_false h] at hN
    have HR : Hid (inoB i = false) := inoB_false (fun h' => h h'.1.1)
    have hicz : (Try.prog.info? 36).map (·.size) = some Z12.length := by rw [Z12_length]; exact Try.sizeIno
    have hz1 : ∀ v ∈ Z12, v.oneCell' = true := by rw [Z12_ino]; exact nC_one _
    clear h
    go_enter Try.func7, Try.ntmps7
    go_wp2_with (first
      | (go_at_call 12; refine hN.mono ?_; clear hN; rintro e w2 ⟨rfl, hc2⟩)
      | (refine wpList_store_row rfl 36 (.tmp 3) (.tmp 8) rfl rfl w2.heap.size rfl Z12 Z12 36 rfl (by rw [← Z12_eq]; exact heap_new w2 _) rfl hicz hz1 ?_; intro wg hbg hcg))
    go_ret
    exact ⟨by rw [HR.out]; rfl, (HA.out.trans hc2).trans ((Chg.alloc (Chg.refl 0 0 w2) _).step hcg (by omega))⟩

end Go.Proofs.Ytoicchlekcbbgaa
