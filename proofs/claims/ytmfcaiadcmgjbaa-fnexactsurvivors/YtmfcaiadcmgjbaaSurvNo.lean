/- What survives, in the program: where nothing is folded. -/
import Derived.Test.YtmfcaiadcmgjbaaSurvDrop
namespace Go.Proofs.Ytmfcaiadcmgjbaa
open Go.RowKit

set_option maxHeartbeats 4000000 in
theorem implSurv_no (w : World) {lo hi : Nat} {a : Value} {ts : List Tx} (hl : cntTS ts ≤ 1048576) (h1 : TSView w lo hi a ts) (hb : canB ts = false) :
    Calls Try.prog 7 #[a] w fun e w' => e = .returned (.slice none 0 0) ∧ Chg 0 0 w w' := by
  have hF := canFold_calls w hl h1
  rw [hb] at hF
  obtain ⟨ao, cap, rfl⟩ := h1.slice
  clear h1 hb
  go_enter Try.func7, Try.ntmps7
  go_wp2_with fail
  refine hF.mono ?_
  rintro e w1 ⟨rfl, c1⟩
  have HC : Hid (Chg 0 0 w w1) := c1
  clear c1 hF
  go_wp2
  go_ret
  exact ⟨rfl, HC.out⟩

theorem survO_no {ts : List Tx} (h : canB ts = false) : survO ts = [] := by
  unfold canB at h
  unfold survO
  rw [if_pos (by simp at h; omega)]
theorem survO_yes {ts : List Tx} (h : canB ts = true) : survO ts = survL ts ∧ ts.length ≤ 512 ∧ numT ts ≤ 10000 := by
  unfold canB at h
  have h' : ¬ (512 < ts.length ∨ 10000 < numT ts) := by simpa using h
  refine ⟨?_, by omega, by omega⟩
  unfold survO
  rw [if_neg h']

end Go.Proofs.Ytmfcaiadcmgjbaa
