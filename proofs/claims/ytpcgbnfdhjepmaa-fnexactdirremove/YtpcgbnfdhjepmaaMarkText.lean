/- markText of the laws. -/
import Derived.Test.YtpcgbnfdhjepmaaViewStr
import Derived.Deep.DeepCutAuto
namespace Go.Proofs.Ytpcgbnfdhjepmaa
open Go.RowKit

def mtGo : Nat → Nat → ByteArray → ByteArray
  | 0, _, s => s
  | n + 1, m, s => if m = 0 then s else mtGo n (m / 10) (strOfNums [48 + (m : Int) % 10] ++ s)
/-- The text that marks with k. -/
def mtext (k : Nat) : ByteArray := (⟨#[109]⟩ : ByteArray) ++ mtGo k k ⟨#[]⟩

theorem strOfNums_one (d : Int) : (strOfNums [d]).size = 1 := by simp [strOfNums, ByteArray.size]

set_option maxRecDepth 20000 in
set_option maxHeartbeats 400000 in
theorem markText_calls (w : World) (k : Nat) (hk : 0 < k) (hb : k ≤ 10000000) :
    Calls Try.prog 16 #[.int .i64 k] w fun e w' => e = .returned (.string (mtext k)) ∧ Chg 0 0 w w' := by
  have h0 : ¬ ((k : Int) ≤ 0) := by omega
  have HM : Hid (mtext k = (⟨#[109]⟩ : ByteArray) ++ mtGo k k ⟨#[]⟩) := rfl
  go_enter Try.func16, Try.ntmps16
  go_wp2
  go_loopw [0, 3] (fun x o wr => Chg 0 0 w wr ∧ ∃ (m n : Nat) (s : ByteArray), x = .int .i64 m ∧ m ≤ n ∧ s.size + m ≤ k ∧ o = .string s ∧ mtGo k k ⟨#[]⟩ = mtGo n m s) (fun x _ _ => (intOf x).toNat)
  case atStart => exact ⟨Chg.refl _ _ _, k, k, _, rfl, Nat.le_refl _, by show 0 + k ≤ k; omega, rfl, rfl⟩
  case round =>
    obtain ⟨hch, m, n, s, rfl, hmn, hm, rfl, hR⟩ := hrel
    by_cases hlt : 0 < m
    · have hi : (0 : Int) < (m : Int) := by omega
      have hd : 48 + (m : Int) % 10 < 256 := by omega
      have hcv : ∀ d, (convert 39 9 (.slice (some ⟨wr.heap.size, 0, none⟩) 1 1)).run Try.prog (wr.alloc (.cells #[.int .u8 d] 5)) = .ok (.string (strOfNums [d])) (wr.alloc (.cells #[.int .u8 d] 5)) := by
        intro d
        have hV : View (wr.alloc (.cells #[.int .u8 d] 5)) 0 (wr.alloc (.cells #[.int .u8 d] 5)).heap.size .u8 (.slice (some ⟨wr.heap.size, 0, none⟩) 1 1) [d] := by
          refine ⟨_, 1, rfl, by simp, ⟨by simp, by simp⟩, Or.inr ⟨wr.heap.size, 0, rfl, Nat.zero_le _, by simp, fun i hi => ?_⟩⟩
          obtain rfl : i = 0 := by simpa using hi
          have hh := heap_new wr (.cells #[.int .u8 d] 5)
          simp only [World.cell?, hh]; rfl
        exact hV.str
      obtain ⟨n', rfl⟩ : ∃ n', n = n' + 1 := ⟨n - 1, by omega⟩
      have hR' : mtGo k k ⟨#[]⟩ = mtGo n' (m / 10) (strOfNums [48 + (m : Int) % 10] ++ s) := by
        rw [hR]; show (if m = 0 then s else _) = _; rw [if_neg (by omega)]
      have Hn : Hid (mtGo k k ⟨#[]⟩ = mtGo n' (m / 10) (strOfNums [48 + (m : Int) % 10] ++ s)) := hR'
      have hz := strOfNums_one (48 + (m : Int) % 10)
      have Hz : Hid ((strOfNums [48 + (m : Int) % 10] ++ s).size = 1 + s.size) := by show _ = _; rw [ByteArray.size_append, hz]
      have hsz : (strOfNums [48 + (m : Int) % 10]).size + s.size ≤ 10000000 := by omega
      have HC : Hid (Chg 0 0 w (wr.alloc (.cells #[.int .u8 (48 + (m : Int) % 10)] 5))) := hch.alloc _
      clear hR hR' hz hch
      go_wp2
      go_roundw
      case rel => exact ⟨HC.out, m / 10, n', _, by go_num, by omega, by rw [Hz.out]; omega, rfl, Hn.out⟩
      case measure => simp [intOf]; omega
    · obtain rfl : m = 0 := by omega
      have hR' : mtGo k k ⟨#[]⟩ = s := by
        rw [hR]
        cases n with
        | zero => rfl
        | succ n => show (if 0 = 0 then s else _) = s; rw [if_pos rfl]
      have Hn : Hid (mtext k = (⟨#[109]⟩ : ByteArray) ++ s) := by show _ = _; rw [HM.out, hR']
      have hsz : s.size ≤ 10000000 := by omega
      have hsz1 : (⟨#[109]⟩ : ByteArray).size + s.size ≤ 10000001 := by show 1 + s.size ≤ _; omega
      clear hR hR'
      go_wp2
      go_ret
      exact ⟨by rw [Hn.out]; rfl, hch⟩

end Go.Proofs.Ytpcgbnfdhjepmaa
