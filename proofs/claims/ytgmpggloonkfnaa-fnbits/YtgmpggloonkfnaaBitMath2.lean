/- A bit that is put: it is on, all others are as they were; put back, the bytes are as they were; one more is counted. -/
import Derived.Test.YtgmpggloonkfnaaBitMath
namespace Go.Proofs.Ytgmpggloonkfnaa
open Go.RowKit

theorem byte_facts : ∀ x : Fin 256, ∀ r : Fin 8, ¬ x.val / 2 ^ r.val % 2 = 1 → (x.val + 2 ^ r.val < 256 ∧ (x.val + 2 ^ r.val) / 2 ^ r.val % 2 = 1 ∧ ∀ q : Fin 8, q ≠ r → (x.val + 2 ^ r.val) / 2 ^ q.val % 2 = x.val / 2 ^ q.val % 2) := by decide +kernel

theorem putBit_on {x : Int} {r : Nat} (h0 : 0 ≤ x) (h1 : x < 256) (hr : r < 8) (hb : ¬ x.toNat / 2 ^ r % 2 = 1) :
    putBit x r true = x + 2 ^ r ∧ x + 2 ^ r < 256 ∧ (x + 2 ^ r).toNat = x.toNat + 2 ^ r ∧ (x.toNat + 2 ^ r) / 2 ^ r % 2 = 1 ∧ ∀ q, q < 8 → q ≠ r → (x.toNat + 2 ^ r) / 2 ^ q % 2 = x.toNat / 2 ^ q % 2 := by
  obtain ⟨m, rfl⟩ : ∃ m : Nat, x = m := ⟨x.toNat, by omega⟩
  simp only [Int.toNat_natCast] at hb ⊢
  obtain ⟨f1, f2, f3⟩ := byte_facts ⟨m, by omega⟩ ⟨r, hr⟩ hb
  have e : ((m : Int) + 2 ^ r) = ((m + 2 ^ r : Nat) : Int) := by rw [Int.natCast_add, Int.natCast_pow]; rfl
  have f1' : m + 2 ^ r < 256 := f1
  refine ⟨?_, ?_, ?_, f2, fun q hq hne => f3 ⟨q, hq⟩ (fun e => hne (congrArg Fin.val e))⟩
  · rw [putBit_up hb, e]
  · rw [e]; omega
  · rw [e]; rfl

theorem putBit_off {x : Int} {r : Nat} (h0 : 0 ≤ x) (h1 : x < 256) (hr : r < 8) (hb : ¬ x.toNat / 2 ^ r % 2 = 1) : putBit (putBit x r true) r false = x := by
  obtain ⟨f1, f2, f3, f4, _⟩ := putBit_on h0 h1 hr hb
  rw [f1]
  obtain ⟨m, rfl⟩ : ∃ m : Nat, x = m := ⟨x.toNat, by omega⟩
  simp only [Int.toNat_natCast] at f3 f4
  have e : ((m : Int) + 2 ^ r) = ((m + 2 ^ r : Nat) : Int) := by rw [Int.natCast_add, Int.natCast_pow]; rfl
  rw [e, putBit_down hr f4]
  omega

theorem InMap.put {xs : List Int} {m : Nat} {on : Bool} (h : InMap xs m) : (bitP xs m on).length = xs.length := by rw [bitP_in h, List.length_set]

/-- Where the bit was off. -/
theorem put_on {xs : List Int} {m : Nat} (hB : Byt xs) (h : InMap xs m) (hb : bitG xs m = false) :
    bitG (bitP xs m true) m = true ∧ bitP (bitP xs m true) m false = xs ∧ (∀ k : Nat, k ≠ m → bitG (bitP xs m true) k = bitG xs k) ∧ Byt (bitP xs m true) := by
  have hl := h.put (on := true)
  have hi : m / 8 < xs.length := by have := h.2.2; omega
  have hI : InMap (bitP xs m true) m := ⟨by rw [hl]; exact h.1, h.2.1, by rw [hl]; exact h.2.2⟩
  rw [bitG_in h] at hb
  have hb' : ¬ (xs.getD (m / 8) 0).toNat / 2 ^ (m % 8) % 2 = 1 := by simpa [bitN] using hb
  have hx : 0 ≤ xs.getD (m / 8) 0 ∧ xs.getD (m / 8) 0 < 256 := hB _ (by rw [List.getD_eq_getElem?_getD, List.getElem?_eq_getElem hi]; exact List.getElem_mem _)
  have hr : m % 8 < 8 := Nat.mod_lt _ (by decide)
  obtain ⟨f1, f2, f3, f4, f5⟩ := putBit_on hx.1 hx.2 hr hb'
  have hg : (xs.set (m / 8) (putBit (xs.getD (m / 8) 0) (m % 8) true)).getD (m / 8) 0 = putBit (xs.getD (m / 8) 0) (m % 8) true := by
    rw [List.getD_eq_getElem?_getD, List.getElem?_set_self hi]; rfl
  have hg' : ∀ j, j ≠ m / 8 → (xs.set (m / 8) (putBit (xs.getD (m / 8) 0) (m % 8) true)).getD j 0 = xs.getD j 0 := by
    intro j hj
    simp only [List.getD_eq_getElem?_getD, List.getElem?_set_ne (fun e => hj e.symm)]
  refine ⟨?_, ?_, ?_, ?_⟩
  · rw [bitG_in hI, bitP_in h]
    unfold bitN
    rw [hg, f1, f3]
    exact decide_eq_true f4
  · rw [bitP_in hI, bitP_in h, hg, putBit_off hx.1 hx.2 hr hb', List.set_set]
    apply List.ext_getElem?
    intro j
    by_cases e : j = m / 8
    · subst e
      rw [List.getElem?_set_self hi, List.getD_eq_getElem?_getD, List.getElem?_eq_getElem hi]
      rfl
    · rw [List.getElem?_set_ne (fun e' => e e'.symm)]
  · intro k hk
    by_cases hIk : InMap xs k
    · have hIk' : InMap (bitP xs m true) k := ⟨by rw [hl]; exact hIk.1, hIk.2.1, by rw [hl]; exact hIk.2.2⟩
      rw [bitG_in hIk, bitG_in hIk', bitP_in h]
      unfold bitN
      by_cases e : k / 8 = m / 8
      · rw [e, hg, f1, f3, f5 (k % 8) (Nat.mod_lt _ (by decide)) (by omega)]
      · rw [hg' _ e]
    · have hIk' : ¬ InMap (bitP xs m true) k := fun h' => hIk ⟨by have := h'.1; rw [hl] at this; exact this, h'.2.1, by have := h'.2.2; rw [hl] at this; exact this⟩
      rw [bitG_out hIk, bitG_out hIk']
  · rw [bitP_in h]
    intro x hx'
    rcases List.mem_or_eq_of_mem_set hx' with hx' | hx'
    · exact hB x hx'
    · rw [hx', f1]
      have e : (2 : Int) ^ (m % 8) = ((2 ^ (m % 8) : Nat) : Int) := by rw [Int.natCast_pow]; rfl
      rw [e] at f2 ⊢
      omega

/-- One more is counted. -/
theorem count_put {xs ys : List Int} {m : Nat} (hm : bitG xs m = false) (hy : bitG ys m = true) (ho : ∀ k : Nat, k ≠ m → bitG ys k = bitG xs k) :
    ∀ (n i : Nat), countFrom ys (i : Int) n = countFrom xs (i : Int) n + (if i ≤ m ∧ m < i + n then 1 else 0)
  | 0, i => by simp [countFrom]
  | n + 1, i => by
    unfold countFrom
    have ih := count_put hm hy ho n (i + 1)
    rw [show ((i : Int) + 1) = ((i + 1 : Nat) : Int) by push_cast; rfl, ih]
    by_cases e : i = m
    · subst e
      rw [hy, hm, if_pos rfl, if_neg (show ¬ (false = true) by decide), if_neg (show ¬ (i + 1 ≤ i ∧ i < i + 1 + n) by omega), if_pos (show i ≤ i ∧ i < i + (n + 1) by omega)]
      omega
    · rw [ho i e]
      by_cases e2 : i + 1 ≤ m ∧ m < i + 1 + n
      · rw [if_pos e2, if_pos (show i ≤ m ∧ m < i + (n + 1) by omega)]; omega
      · rw [if_neg e2, if_neg (show ¬ (i ≤ m ∧ m < i + (n + 1)) by omega)]; omega

end Go.Proofs.Ytgmpggloonkfnaa
