/- hasOnlyMarks, hasStroke of the program. -/
import Derived.Test.YtlepbhekcpdddaaRunes
import Derived.Deep.DeepCutAuto
namespace Go.Proofs.Ytlepbhekcpdddaa
open Go.RowKit

theorem setTo_low {s : ByteArray} : ∀ {n k : Nat}, setTo s n = true → k < n → inSet (chr s k) = true
  | 0, _, _, h => absurd h (Nat.not_lt_zero _)
  | n + 1, k, h, hk => by
    unfold setTo at h
    rw [Bool.and_eq_true] at h
    rcases Nat.lt_or_eq_of_le (Nat.le_of_lt_succ hk) with h1 | h1
    · exact setTo_low h.1 h1
    · rw [h1]; exact h.2

set_option maxRecDepth 20000 in
set_option maxHeartbeats 1000000 in
theorem hasOnlyMarks_calls (w : World) (s : ByteArray) :
    Calls Try.prog 18 #[.string s] w fun e w' => e = .returned (.bool (setB s)) ∧ Chg 0 0 w w' := by
  have HB : Hid (setB s = setTo s s.size) := rfl
  have hI0 := World.iter_heap w s 0
  have hC0 : Chg 0 0 w (w.iter s 0) := Chg.alloc (Chg.refl 0 0 w) _
  go_enter Try.func18, Try.ntmps18
  go_wp2
  generalize w.iter s 0 = w1 at *
  go_loopw [] (fun wr => ∃ k : Nat, k ≤ s.size ∧ wr.heap[w.heap.size]? = some (.stringIter s k) ∧ setTo s k = true ∧ Chg 0 0 w wr) (fun wr => s.size - (match wr.heap[w.heap.size]? with | some (.stringIter _ k) => k | _ => 0))
  case atStart => exact ⟨0, Nat.zero_le _, hI0, rfl, hC0⟩
  case round =>
    clear hI0 hC0
    obtain ⟨k, hk, hb, hs, hc⟩ := hrel
    by_cases hlt : k < s.size
    · have hnx := run_next_at (P := Try.prog) wr w.heap.size s k 0 hb hlt
      have hbl : w.heap.size < wr.heap.size := (Array.getElem?_eq_some_iff.1 hb).1
      have HC : Hid (Chg 0 0 w (wr.putObj w.heap.size (.stringIter s (k + wide s k)))) := hc.step (Chg.putObj wr w.heap.size _) (by omega)
      have HI : Hid ((wr.putObj w.heap.size (.stringIter s (k + wide s k))).heap[w.heap.size]? = some (.stringIter s (k + wide s k))) := World.putObj_heap_same hbl
      by_cases hin : inSet (chr s k) = true
      · obtain ⟨h33, h126⟩ := inSet_iff.1 hin
        obtain ⟨hr, hw⟩ := decode_low hlt (by omega)
        rw [hr, hw] at hnx
        rw [hw] at HC HI
        have HS : Hid (setTo s (k + 1) = true) := by show setTo s (k + 1) = true; unfold setTo; rw [hs, hin]; rfl
        generalize chr s k = c at *
        have e1 : ¬ ((c : Int) < 33) := by omega
        have e2 : ¬ ((126 : Int) < (c : Int)) := by omega
        have Hb : Hid (wr.heap[w.heap.size]? = some (.stringIter s k)) := hb
        clear hr hw hs hin hb hc
        generalize wr.putObj w.heap.size (.stringIter s (k + 1)) = w2 at *
        go_wp2
        go_roundw
        case rel => exact ⟨k + 1, by omega, HI.out, HS.out, HC.out⟩
        case measure => rw [HI.out, Hb.out]; simp only; omega
      · have HF : Hid (setB s = false) := by show _ = _; rw [HB.out]; exact setTo_false (by simpa using hin) _ hlt
        have hr : (rune s k : Int) < 33 ∨ (126 : Int) < (rune s k : Int) := by
          by_cases h8 : chr s k < 128
          · rw [(decode_low hlt h8).1]
            have : ¬ (33 ≤ chr s k ∧ chr s k ≤ 126) := fun h => hin (inSet_iff.2 h)
            omega
          · have := (decode_high hlt (by omega)).1
            omega
        clear hs hin hb hc HI
        generalize wr.putObj w.heap.size (.stringIter s (k + wide s k)) = w2 at *
        generalize rune s k = c at *
        rcases hr with hr | hr
        · go_wp2
          go_ret
          exact ⟨by rw [HF.out]; rfl, HC.out⟩
        · have e1 : ¬ ((c : Int) < 33) := by omega
          go_wp2
          go_ret
          exact ⟨by rw [HF.out]; rfl, HC.out⟩
    · obtain rfl : k = s.size := by omega
      have hnx := run_next_out (P := Try.prog) wr w.heap.size s s.size 0 hb hlt
      have HF : Hid (setB s = true) := by show _ = _; rw [HB.out]; exact hs
      clear hs hb
      go_wp2
      go_ret
      exact ⟨by rw [HF.out]; rfl, hc⟩

set_option maxRecDepth 20000 in
set_option maxHeartbeats 1000000 in
theorem hasStroke_calls (w : World) (s : ByteArray) (hs : setB s = true) :
    Calls Try.prog 19 #[.string s] w fun e w' => e = .returned (.bool (!decide ((cutD s 47).length = 1))) ∧ Chg 0 0 w w' := by
  have hlow : ∀ k, k < s.size → chr s k < 128 := fun k hk => by have := (inSet_iff.1 (setTo_low hs hk)).2; omega
  have HC1 : Hid ((∀ j, j < s.size → chr s j ≠ 47) → (!decide ((cutD s 47).length = 1)) = false) := fun h => by rw [decide_eq_true (cutD_one.2 h)]; rfl
  have HC2 : Hid (∀ j, j < s.size → chr s j = 47 → (!decide ((cutD s 47).length = 1)) = true) := fun j hj h => by rw [decide_eq_false (fun h' => cutD_one.1 h' j hj h)]; rfl
  have hI0 := World.iter_heap w s 0
  have hC0 : Chg 0 0 w (w.iter s 0) := Chg.alloc (Chg.refl 0 0 w) _
  generalize (!decide ((cutD s 47).length = 1)) = R at *
  clear hs
  go_enter Try.func19, Try.ntmps19
  go_wp2
  generalize w.iter s 0 = w1 at *
  go_loopw [] (fun wr => ∃ k : Nat, k ≤ s.size ∧ wr.heap[w.heap.size]? = some (.stringIter s k) ∧ (∀ j, j < k → chr s j ≠ 47) ∧ Chg 0 0 w wr) (fun wr => s.size - (match wr.heap[w.heap.size]? with | some (.stringIter _ k) => k | _ => 0))
  case atStart => exact ⟨0, Nat.zero_le _, hI0, fun j hj => absurd hj (Nat.not_lt_zero _), hC0⟩
  case round =>
    clear hI0 hC0
    obtain ⟨k, hk, hb, hs, hc⟩ := hrel
    by_cases hlt : k < s.size
    · have hnx := run_next_at (P := Try.prog) wr w.heap.size s k 0 hb hlt
      have hbl : w.heap.size < wr.heap.size := (Array.getElem?_eq_some_iff.1 hb).1
      have HC : Hid (Chg 0 0 w (wr.putObj w.heap.size (.stringIter s (k + wide s k)))) := hc.step (Chg.putObj wr w.heap.size _) (by omega)
      have HI : Hid ((wr.putObj w.heap.size (.stringIter s (k + wide s k))).heap[w.heap.size]? = some (.stringIter s (k + wide s k))) := World.putObj_heap_same hbl
      obtain ⟨hr, hw⟩ := decode_low hlt (hlow k hlt)
      rw [hr, hw] at hnx
      rw [hw] at HC HI
      have Hb : Hid (wr.heap[w.heap.size]? = some (.stringIter s k)) := hb
      by_cases h47 : chr s k = 47
      · have HR : Hid (R = true) := HC2.out k hlt h47
        have e1 : ((chr s k : Int) == 47) = true := by rw [h47]; rfl
        clear hr hw hb hc hs HI hlow HC1 HC2 h47
        generalize chr s k = c at *
        generalize wr.putObj w.heap.size (.stringIter s (k + 1)) = w2 at *
        go_wp2
        go_ret
        exact ⟨by rw [HR.out]; rfl, HC.out⟩
      · have e1 : ((chr s k : Int) == 47) = false := by simp; omega
        have HS : Hid (∀ j, j < k + 1 → chr s j ≠ 47) := fun j hj => by
          rcases Nat.lt_or_eq_of_le (Nat.le_of_lt_succ hj) with h1 | h1
          · exact hs j h1
          · rw [h1]; exact h47
        clear hr hw hb hc hs h47 hlow HC1 HC2
        generalize hcc : chr s k = c at *
        clear hcc
        generalize wr.putObj w.heap.size (.stringIter s (k + 1)) = w2 at *
        go_wp2
        go_roundw
        case rel => exact ⟨k + 1, by omega, HI.out, HS.out, HC.out⟩
        case measure => rw [HI.out, Hb.out]; simp only; omega
    · obtain rfl : k = s.size := by omega
      have hnx := run_next_out (P := Try.prog) wr w.heap.size s s.size 0 hb hlt
      have HR : Hid (R = false) := HC1.out hs
      clear hs hb
      go_wp2
      go_ret
      exact ⟨by rw [HR.out]; rfl, hc⟩

end Go.Proofs.Ytlepbhekcpdddaa
