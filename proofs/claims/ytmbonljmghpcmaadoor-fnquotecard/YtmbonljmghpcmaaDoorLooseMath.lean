/- Held against Quote, what is loosely unquoted is what is unquoted. -/
import Derived.Test.YtmbonljmghpcmaaDoorQuoteMath
import Derived.Test.YtmbonljmghpcmaaDoorLoose
namespace Go.Proofs.YtmbonljmghpcmaaDoor
open Go.RowKit Go.Lib

theorem puV_hex_all : ∀ x : Fin 256, puV [UInt8.ofNat (hexC (x.val / 16)), UInt8.ofNat (hexC (x.val % 16))] = x.val := by decide +kernel

theorem loose_quo : ∀ (xs : List Nat), (∀ x ∈ xs, x < 256) → ∀ f, (quoN xs).length ≤ f → looseN f ((quoN xs).map fun n => UInt8.ofNat n.toNat) = xs.map fun (x : Nat) => (x : Int)
  | [], _, f, _ => by cases f <;> rfl
  | x :: xs, hb, f, hf => by
    have hx : x < 256 := hb x (List.mem_cons_self ..)
    have ih := loose_quo xs (fun y hy => hb y (List.mem_cons_of_mem _ hy))
    rw [quoN_cons, List.length_append] at hf
    rw [quoN_cons, List.map_append, List.map_cons]
    unfold quo1 at hf ⊢
    by_cases hp : plainC x = true
    · rw [if_pos hp] at hf ⊢
      have h37 : x ≠ 37 := by rintro rfl; exact absurd hp (by decide)
      obtain ⟨f', rfl⟩ : ∃ f', f = f' + 1 := ⟨f - 1, by simp at hf; omega⟩
      have e : (UInt8.ofNat ((x : Nat) : Int).toNat).toNat = x := by rw [Int.toNat_natCast, UInt8.toNat_ofNat']; omega
      show looseN (f' + 1) (UInt8.ofNat ((x : Nat) : Int).toNat :: (quoN xs).map _) = _
      rw [looseN_c, e, if_neg (by omega), ih f' (by simp at hf; omega)]
    · rw [if_neg hp] at hf ⊢
      obtain ⟨f', rfl⟩ : ∃ f', f = f' + 1 := ⟨f - 1, by simp at hf; omega⟩
      show looseN (f' + 1) (UInt8.ofNat 37 :: UInt8.ofNat (hexC (x / 16)) :: UInt8.ofNat (hexC (x % 16)) :: (quoN xs).map _) = _
      rw [looseN_c, if_pos ⟨rfl, by simp⟩]
      show (puV [UInt8.ofNat (hexC (x / 16)), UInt8.ofNat (hexC (x % 16))] : Int) :: looseN f' ((quoN xs).map _) = _
      rw [puV_hex_all ⟨x, hx⟩, ih f' (by simp at hf; omega)]

/-- What the program takes a text for. -/
def looseV (s : ByteArray) : ByteArray := if s.toList = [37] then ⟨#[]⟩ else strOfNums (looseN s.size s.data.toList)

theorem loose_of {s d : ByteArray} (h : quoV d = s) (hd : d.size ≤ 65536) : looseV s = d := by
  subst h
  have hst := str_bytN d
  unfold quoV
  rw [if_neg (by omega)]
  by_cases h0 : d.size = 0
  · rw [if_pos h0]
    unfold looseV
    rw [if_pos (toList_eq37.2 rfl)]
    have : bytN d = [] := by unfold bytN; rw [h0]; rfl
    rw [this] at hst
    rw [← hst]; rfl
  · have hset : ∀ y ∈ quoN (bytN d), 0 ≤ y ∧ y < 256 := fun y hy => by have := quoN_set (bytN_lt d) y hy; omega
    rw [if_neg h0, quoL_all]
    unfold looseV
    rw [if_neg (fun h' => quoN_37 (str_37 hset (toList_eq37.1 h'))), strOfNums_data, strOfNums_size, loose_quo _ (bytN_lt d) _ (Nat.le_refl _), hst]

theorem unqV_is' (s : ByteArray) : (∃ d, unqV s = unqO true d) ∨ unqV s = unqO false ⟨#[]⟩ := by
  unfold unqV
  split
  · exact Or.inr rfl
  · exact Or.inl ⟨_, rfl⟩

theorem unqO_ne {d e : ByteArray} : unqO true d ≠ unqO false e := by
  intro h
  simp [unqO] at h

theorem nil_ne : ¬ (⟨#[]⟩ : ByteArray).toList = [37] := by
  rw [ByteArray.toList_eq]
  intro h
  cases h

theorem unq_nothing : unqV ⟨#[]⟩ = unqO false ⟨#[]⟩ := by
  have e : unqF ⟨#[]⟩ ((⟨#[]⟩ : ByteArray).size + 1) 0 [] = some [] := by
    unfold unqF
    rw [if_pos (show (⟨#[]⟩ : ByteArray).size ≤ 0 from Nat.le_refl 0)]
  have e2 : unqR ⟨#[]⟩ = none := by
    unfold unqR
    rw [if_neg nil_ne, e]
    rfl
  unfold unqV
  rw [e2]

theorem unq_loose (s : ByteArray) : unqV s = if quoV (looseV s) = s then unqO true (looseV s) else unqO false ⟨#[]⟩ := by
  rcases unqV_is' s with ⟨d, h⟩ | h
  · have hf := forth h
    by_cases hd : d.size ≤ 65536
    · rw [loose_of hf hd, if_pos hf, h]
    · exfalso
      unfold quoV at hf
      rw [if_pos (by omega)] at hf
      subst hf
      rw [unq_nothing] at h
      exact unqO_ne h.symm
  · rw [h]
    split
    · rename_i hq
      exfalso
      by_cases hd : (looseV s).size ≤ 65536
      · have hb := back hd
        rw [hq, h] at hb
        exact unqO_ne hb.symm
      · unfold quoV at hq
        rw [if_pos (by omega)] at hq
        subst hq
        exact hd (by unfold looseV; rw [if_neg nil_ne]; exact Nat.zero_le _)
    · rfl

end Go.Proofs.YtmbonljmghpcmaaDoor
