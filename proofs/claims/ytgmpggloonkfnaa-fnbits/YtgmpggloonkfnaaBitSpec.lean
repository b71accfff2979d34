/- Bits of a map: BitGet of the model. -/
import Derived.Test.YtgmpggloonkfnaaByt
namespace Go.Proofs.Ytgmpggloonkfnaa
open Go.RowKit

/-- Bit m of a map. -/
def bitN (xs : List Int) (m : Nat) : Bool := decide ((xs.getD (m / 8) 0).toNat / 2 ^ (m % 8) % 2 = 1)
/-- i is a place in a map. -/
abbrev InMap (xs : List Int) (i : Int) : Prop := xs.length ≤ 2048 ∧ 0 ≤ i ∧ i < 8 * (xs.length : Int)
def bitG (xs : List Int) (i : Int) : Bool := decide (InMap xs i) && bitN xs i.toNat

theorem bitG_in {xs : List Int} {m : Nat} (h : InMap xs m) : bitG xs m = bitN xs m := by unfold bitG; rw [decide_eq_true h]; simp
theorem bitG_out {xs : List Int} {i : Int} (h : ¬ InMap xs i) : bitG xs i = false := by unfold bitG; rw [decide_eq_false h]; simp

set_option maxRecDepth 20000 in
set_option maxHeartbeats 400000 in
theorem specBitGet_some (w : World) (xs : List Int) (m : Nat) (b off cap : Nat) (hB : Byt xs) (hl : xs.length ≤ 2048) (hm : m < 8 * xs.length)
    (h1 : ∀ i, i < xs.length → w.cell? ⟨b, off + i, none⟩ = some (.int .u8 (xs.getD i 0))) :
    Calls Try.prog 8 #[.slice (some ⟨b, off, none⟩) xs.length cap, .int .i64 m] w fun e w' => e = .returned (.bool (bitN xs m)) ∧ w' = w := by
  have c1 := h1 (m / 8) (by omega)
  have hb := hB.getD (m / 8)
  have Hfin : Hid (∀ y : Nat, xs.getD (m / 8) 0 = y → bitN xs m = decide (y / 2 ^ (m % 8) % 2 = 1)) := by intro y hy; unfold bitN; rw [hy]; rfl
  obtain ⟨y, hy⟩ : ∃ y : Nat, xs.getD (m / 8) 0 = y := ⟨(xs.getD (m / 8) 0).toNat, by omega⟩
  have HF : Hid (bitN xs m = decide (y / 2 ^ (m % 8) % 2 = 1)) := Hfin.out y hy
  rw [hy] at c1 hb
  have hq : ((m / 8 : Nat) : Int) < (xs.length : Int) := by omega
  have e1 : ¬ (2048 : Int) < (xs.length : Int) := by omega
  have e2 : ¬ ((m : Int)) < 0 := by omega
  have e3 : ¬ 8 * (xs.length : Int) ≤ (m : Int) := by omega
  have hr : m % 8 < 8 := by omega
  clear h1 hy Hfin hB
  go_enter Try.func8, Try.ntmps8
  go_wp2
  obtain ⟨r, Hr⟩ : ∃ r : Nat, Hid (m % 8 = r) := ⟨_, rfl⟩
  have hmr : ((m : Int) % 8) = (r : Int) := by have := Hr.out; omega
  rw [hmr]
  rw [Hr.out] at HF hr
  clear hmr
  go_loopw [5, 6] (fun v k wr => wr = w ∧ ∃ j : Nat, j ≤ r ∧ k = .int .i64 ((r - j : Nat) : Int) ∧ v = .int .u8 ((y / 2 ^ j : Nat) : Int)) (fun _ k _ => (intOf k).toNat)
  case atStart => exact ⟨rfl, 0, Nat.zero_le _, by simp, by simp⟩
  case round =>
    obtain ⟨rfl, j, hj, rfl, rfl⟩ := hrel
    have hy2 : y / 2 ^ j < 256 := Nat.lt_of_le_of_lt (Nat.div_le_self _ _) (by omega)
    have hs : y / 2 ^ j / 2 = y / 2 ^ (j + 1) := by rw [Nat.div_div_eq_div_mul, Nat.pow_succ]
    by_cases hlt : j < r
    · have hp : (0 : Int) < ((r - j : Nat) : Int) := by omega
      have Hs : Hid (y / 2 ^ j / 2 = y / 2 ^ (j + 1)) := hs
      clear hs
      generalize y / 2 ^ j = z at *
      generalize hrj : r - j = d at *
      have Hd : Hid (r - j = d) := hrj
      have hdb : d ≤ 8 := by omega
      clear hrj
      go_wp2
      go_roundw
      case rel => exact ⟨trivial, j + 1, by omega, by have := Hd.out; congr 1; omega, by rw [← Hs.out]; go_num⟩
      case measure => simp [intOf]; omega
    · obtain rfl : j = r := by omega
      rw [Nat.sub_self] at *
      clear hs
      generalize y / 2 ^ j = z at *
      by_cases hz : z % 2 = 1
      · have hz1 : ((z : Int) % 2 == 1) = true := by simp; omega
        rw [decide_eq_true hz] at HF
        clear hz
        go_wp2
        go_ret
        exact ⟨by rw [HF.out]; rfl, rfl⟩
      · have hz1 : ((z : Int) % 2 == 1) = false := by simp; omega
        rw [decide_eq_false hz] at HF
        clear hz
        go_wp2
        go_ret
        exact ⟨by rw [HF.out]; rfl, rfl⟩

set_option maxRecDepth 20000 in
set_option maxHeartbeats 400000 in
theorem specBitGet_out (w : World) (n : Nat) (ao : Option Addr) (cap : Nat) (i : Int) (hl : n ≤ 1048576) (ho : ¬ (n ≤ 2048 ∧ 0 ≤ i ∧ i < 8 * (n : Int))) :
    Calls Try.prog 8 #[.slice ao n cap, .int .i64 i] w fun e w' => e = .returned (.bool false) ∧ w' = w := by
  by_cases h0 : n ≤ 2048
  · by_cases h1 : i < 0
    · go_enter Try.func8, Try.ntmps8
      go_wp2
      go_ret
      exact ⟨rfl, rfl⟩
    · have h2 : 8 * (n : Int) ≤ i := by omega
      clear ho
      go_enter Try.func8, Try.ntmps8
      go_wp2
      go_ret
      exact ⟨rfl, rfl⟩
  · have h1 : (2048 : Int) < (n : Int) := by omega
    clear ho
    go_enter Try.func8, Try.ntmps8
    go_wp2
    go_ret
    exact ⟨rfl, rfl⟩

theorem specBitGet_calls (w : World) {lo hi : Nat} {a : Value} {xs : List Int} (i : Int) (hB : Byt xs) (hl : xs.length ≤ 1048576) (h1 : View w lo hi .u8 a xs) :
    Calls Try.prog 8 #[a, .int .i64 i] w fun e w' => e = .returned (.bool (bitG xs i)) ∧ w' = w := by
  obtain ⟨ao, cap, rfl, _, _, h1⟩ := h1
  by_cases ho : InMap xs i
  · obtain ⟨m, rfl⟩ : ∃ m : Nat, i = m := ⟨i.toNat, by have := ho.2.1; omega⟩
    rw [bitG_in ho]
    have h3 := ho.2.2
    rcases h1 with rfl | ⟨x, off, rfl, _, _, h1⟩
    · simp at h3; omega
    · exact specBitGet_some w xs m x off cap hB ho.1 (by omega) h1
  · rw [bitG_out ho]
    exact specBitGet_out w xs.length ao cap i hl ho

end Go.Proofs.Ytgmpggloonkfnaa
