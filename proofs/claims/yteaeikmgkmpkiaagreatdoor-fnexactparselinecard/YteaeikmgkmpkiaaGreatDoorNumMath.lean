/- Numbers as texts, and back. -/
import Derived.Test.YteaeikmgkmpkiaaGreatDoorDecL
import Derived.Lib.ParseIntB
namespace Go.Proofs.YteaeikmgkmpkiaaGreatDoor
open Go.RowKit Go.Lib

/-- What digits are worth. -/
def dvl : Nat → List UInt8 → Nat
  | acc, [] => acc
  | acc, c :: r => dvl (acc * 10 + (c.toNat - 48)) r
theorem dvl_app : ∀ (l m : List UInt8) (a : Nat), dvl a (l ++ m) = dvl (dvl a l) m
  | [], _, _ => rfl
  | c :: r, m, a => by show dvl _ (r ++ m) = _; rw [dvl_app r m]; rfl
theorem dvl_le : ∀ (l : List UInt8) (a : Nat), a ≤ dvl a l
  | [], _ => Nat.le_refl _
  | c :: r, a => by
    have := dvl_le r (a * 10 + (c.toNat - 48))
    show a ≤ dvl _ r
    omega
def Dig (l : List UInt8) : Prop := ∀ c ∈ l, 48 ≤ c.toNat ∧ c.toNat ≤ 57

theorem decDigits_big {u : Nat} (h : ¬ u < 10) : decDigits u = decDigits (u / 10) ++ [UInt8.ofNat (48 + u % 10)] := by
  conv => lhs; rw [decDigits, dif_neg h]
theorem dig_val (v : Nat) (h : v < 10) : (UInt8.ofNat (48 + v)).toNat = 48 + v := by rw [UInt8.toNat_ofNat']; omega

theorem dvl_dec (u : Nat) : dvl 0 (decDigits u) = u := by
  induction u using Nat.strongRecOn with
  | ind u ih =>
    by_cases h : u < 10
    · rw [decDigits_one h]
      show 0 * 10 + ((UInt8.ofNat (48 + u)).toNat - 48) = u
      rw [dig_val u h]; omega
    · rw [decDigits_big h, dvl_app, ih (u / 10) (by omega)]
      show u / 10 * 10 + ((UInt8.ofNat (48 + u % 10)).toNat - 48) = u
      rw [dig_val (u % 10) (by omega)]; omega
theorem dig_dec (u : Nat) : Dig (decDigits u) := by
  induction u using Nat.strongRecOn with
  | ind u ih =>
    by_cases h : u < 10
    · rw [decDigits_one h]
      intro c hc
      rw [List.mem_singleton.1 hc, dig_val u h]; omega
    · rw [decDigits_big h]
      intro c hc
      rcases List.mem_append.1 hc with h1 | h1
      · exact ih (u / 10) (by omega) c h1
      · rw [List.mem_singleton.1 h1, dig_val (u % 10) (by omega)]; omega
theorem len_dec : ∀ (k u : Nat), u < 10 ^ (k + 1) → 1 ≤ (decDigits u).length ∧ (decDigits u).length ≤ k + 1
  | 0, u, h => by rw [decDigits_one (by simpa using h)]; simp
  | k + 1, u, h => by
    by_cases h1 : u < 10
    · rw [decDigits_one h1]; simp
    · rw [decDigits_big h1, List.length_append]
      have := len_dec k (u / 10) (by rw [Nat.pow_succ] at h; omega)
      simp only [List.length_singleton]
      omega
theorem dvl_lt : ∀ (l : List UInt8) (a k : Nat), Dig l → a < 10 ^ k → dvl a l < 10 ^ (k + l.length)
  | [], _, _, _, h => h
  | c :: r, a, k, hd, h => by
    have hc := hd c (List.mem_cons_self ..)
    have := dvl_lt r (a * 10 + (c.toNat - 48)) (k + 1) (fun x hx => hd x (List.mem_cons_of_mem _ hx)) (by rw [Nat.pow_succ]; omega)
    show dvl _ r < _
    rw [List.length_cons, show k + (r.length + 1) = k + 1 + r.length by omega]
    exact this

theorem parseM_ok : ∀ (l : List UInt8) (acc : Nat), Dig l → dvl acc l ≤ 999999999 → parseUintM (2 ^ 64 - 1) acc l = .ok (dvl acc l)
  | [], _, _, _ => rfl
  | c :: r, acc, hd, h => by
    have hc := hd c (List.mem_cons_self ..)
    have hle := dvl_le r (acc * 10 + (c.toNat - 48))
    have h' : dvl (acc * 10 + (c.toNat - 48)) r ≤ 999999999 := h
    unfold parseUintM
    rw [if_pos hc, if_neg (by omega), if_neg (by omega)]
    exact parseM_ok r _ (fun x hx => hd x (List.mem_cons_of_mem _ hx)) h'

theorem parse_itoa (n : Int) (h0 : -999999999 ≤ n) (h1 : n ≤ 999999999) : parseIntB 64 (itoa n) = .ok n := by
  by_cases hn : n < 0
  · obtain ⟨u, rfl⟩ : ∃ u : Nat, n = -(u : Int) := ⟨n.natAbs, by omega⟩
    have hu : 1 ≤ u := by omega
    have hne : decDigits u ≠ [] := by have := (len_dec 9 u (by omega)).1; intro h; rw [h] at this; simp at this
    rw [itoa_neg u hu]
    have hp : parseUintB 64 (decDigits u) = .ok u := by
      unfold parseUintB
      rw [if_neg hne, parseM_ok _ 0 (dig_dec u) (by rw [dvl_dec]; omega), dvl_dec]
    unfold parseIntB
    simp only
    rw [if_pos (Or.inr (by decide)), hp]
    simp only
    have e : (45 : UInt8).toNat = 45 := rfl
    rw [if_neg (by rw [e]; simp), if_neg (by omega), if_pos e]
  · obtain ⟨u, rfl⟩ : ∃ u : Nat, n = (u : Int) := ⟨n.natAbs, by omega⟩
    rw [itoa_nonneg]
    have hd := dig_dec u
    have hp : parseUintB 64 (decDigits u) = .ok u := by
      have hne : decDigits u ≠ [] := by have := (len_dec 9 u (by omega)).1; intro h; rw [h] at this; simp at this
      unfold parseUintB
      rw [if_neg hne, parseM_ok _ 0 (dig_dec u) (by rw [dvl_dec]; omega), dvl_dec]
    cases hl : decDigits u with
    | nil => have := (len_dec 9 u (by omega)).1; rw [hl] at this; simp at this
    | cons c r =>
      rw [hl] at hp hd
      have hc := hd c (List.mem_cons_self ..)
      unfold parseIntB
      simp only
      rw [if_neg (by omega), hp]
      simp only
      rw [if_neg (by omega), if_neg (by omega), if_neg (by omega)]

theorem dec_inj {a b : Int} (ha0 : -999999999 ≤ a) (ha1 : a ≤ 999999999) (hb0 : -999999999 ≤ b) (hb1 : b ≤ 999999999) (h : dec a = dec b) : a = b := by
  have e : itoa a = itoa b := by
    have := congrArg (fun x : ByteArray => x.data.toList) h
    simpa [dec] using this
  have h1 := parse_itoa a ha0 ha1
  rw [e, parse_itoa b hb0 hb1] at h1
  injection h1 with h1
  exact h1.symm

/-- The number that a field is. -/
def numF (f : ByteArray) : Option Int := match parseIntB 64 f.data.toList with
  | .ok n => if -999999999 ≤ n ∧ n ≤ 999999999 ∧ (dec n).data = f.data then some n else none
  | _ => none
theorem numF_some {f : ByteArray} {n : Int} (h0 : -999999999 ≤ n) (h1 : n ≤ 999999999) (h : dec n = f) : numF f = some n := by
  subst h
  have e : (dec n).data.toList = itoa n := by simp [dec]
  unfold numF
  rw [e, parse_itoa n h0 h1]
  exact if_pos ⟨h0, h1, rfl⟩
theorem numF_is {f : ByteArray} {n : Int} (h : numF f = some n) : -999999999 ≤ n ∧ n ≤ 999999999 ∧ dec n = f := by
  unfold numF at h
  split at h
  · split at h
    · rename_i hx
      injection h with h
      subst h
      refine ⟨hx.1, hx.2.1, ?_⟩
      have hd := hx.2.2
      generalize dec _ = d at hd ⊢
      cases d
      cases f
      simp only at hd
      rw [hd]
    · cases h
  · cases h
theorem numF_none {f : ByteArray} (h : ∀ n : Int, -999999999 ≤ n → n ≤ 999999999 → dec n ≠ f) : numF f = none := by
  cases hn : numF f with
  | none => rfl
  | some n => obtain ⟨a0, a1, a2⟩ := numF_is hn; exact absurd a2 (h n a0 a1)

end Go.Proofs.YteaeikmgkmpkiaaGreatDoor
