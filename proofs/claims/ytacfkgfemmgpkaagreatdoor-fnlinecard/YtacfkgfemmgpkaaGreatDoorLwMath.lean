/- A call that can be said as a line is what the line is parsed to. (made by tools/mklwmath.py) -/
import Derived.Test.YtacfkgfemmgpkaaGreatDoorLwUsedD
import Derived.Test.YtacfkgfemmgpkaaGreatDoorLineEq
import Derived.Test.YtacfkgfemmgpkaaGreatDoorLooseMath
namespace Go.Proofs.YtacfkgfemmgpkaaGreatDoor
open Go.RowKit Go.Lib

/-- Not empty, no blank. -/
def NoB (t : ByteArray) : Prop := t ≠ ⟨#[]⟩ ∧ ∀ c ∈ t.data.toList, c ≠ 32
theorem nob_chr {t : ByteArray} (h0 : 0 < t.size) (h : ∀ i, i < t.size → chr t i ≠ 32) : NoB t := by
  refine ⟨fun e => by rw [e] at h0; exact absurd h0 (by decide), fun c hc e => ?_⟩
  obtain ⟨i, hi, rfl⟩ := List.mem_iff_getElem.1 hc
  have hi2 : i < t.size := by simpa using hi
  refine h i hi2 ?_
  rw [chr_lt hi2]
  have h32 : t.data[i]'(by simpa using hi) = 32 := by simpa using e
  show (t.data[i]'(by simpa using hi)).toNat = 32
  rw [h32]; rfl
theorem nob_fld {t : ByteArray} (h : Fld t) : NoB t := nob_chr h.1 h.2
theorem nob_digits {l : List UInt8} (h : Dig l) : ∀ c ∈ l, c ≠ 32 := fun c hc e => by
  have := h c hc
  rw [e] at this
  exact absurd this.1 (by decide)
theorem nob_dec (n : Int) (h0 : -1000000000 < n) (h1 : n < 1000000000) : NoB (dec n) := by
  obtain ⟨v, hv⟩ : ∃ v : Nat, n = (v : Int) ∨ (1 ≤ v ∧ n = -(v : Int)) := ⟨n.natAbs, by omega⟩
  have hl : 1 ≤ (decDigits v).length := (len_dec 9 v (by rcases hv with h | h <;> omega)).1
  rcases hv with rfl | ⟨hv, rfl⟩
  · have hd : dec (v : Int) = ⟨(decDigits v).toArray⟩ := by unfold dec; rw [itoa_nonneg]
    rw [hd]
    refine ⟨fun e => ?_, fun c hc => nob_digits (dig_dec v) c (by simpa using hc)⟩
    have := congrArg ByteArray.size e
    have e2 : (⟨(decDigits v).toArray⟩ : ByteArray).size = (decDigits v).length := by simp [ByteArray.size]
    have e3 : (⟨#[]⟩ : ByteArray).size = 0 := rfl
    omega
  · have hd : dec (-(v : Int)) = ⟨(45 :: decDigits v).toArray⟩ := by unfold dec; rw [itoa_neg v hv]
    rw [hd]
    refine ⟨fun e => ?_, fun c hc => ?_⟩
    · have := congrArg ByteArray.size e
      have e2 : (⟨(45 :: decDigits v).toArray⟩ : ByteArray).size = (decDigits v).length + 1 := by simp [ByteArray.size]
      have e3 : (⟨#[]⟩ : ByteArray).size = 0 := rfl
      omega
    · have hc' : c ∈ 45 :: decDigits v := by simpa using hc
      rcases List.mem_cons.1 hc' with rfl | hc'
      · decide
      · exact nob_digits (dig_dec v) c hc'
theorem quoV_bounds {d : ByteArray} (h : d.size ≤ 3000) : 1 ≤ (quoV d).size ∧ (quoV d).size ≤ 9001 := by
  unfold quoV
  rw [if_neg (by omega)]
  split
  · exact ⟨by decide, by decide⟩
  · rw [strOfNums_size]
    have := quoL_len d d.size
    omega
theorem nob_quo {d : ByteArray} (h : d.size ≤ 3000) : NoB (quoV d) := nob_chr (by have := quoV_bounds h; omega) (fun i hi => by have := quoV_set hi; omega)
theorem unqD_quo {d : ByteArray} (h : d.size ≤ 3000) : unqD (quoV d) = some d := by
  have hb := back (s := d) (by omega)
  cases hu : unqD (quoV d) with
  | none => have := unqD_none hu; rw [hb] at this; exact absurd this unqO_ne
  | some x =>
    have := unqD_some hu
    rw [hb] at this
    have e : d = x := by simpa [unqO] using this
    rw [e]
theorem numF_dec {n : Int} (h0 : -1000000000 < n) (h1 : n < 1000000000) : numF (dec n) = some n := numF_some (by omega) (by omega) rfl

theorem cutL_last : ∀ (l acc : List UInt8), (∀ c ∈ l, c ≠ 32) → cutL acc l = [acc ++ l]
  | [], acc, _ => by show [acc] = _; rw [List.append_nil]
  | c :: r, acc, h => by
    rw [cutL_cons, if_neg (h c (List.mem_cons_self ..)), cutL_last r _ (fun x hx => h x (List.mem_cons_of_mem _ hx)), List.append_assoc]; rfl
theorem cutL_next : ∀ (l acc r : List UInt8), (∀ c ∈ l, c ≠ 32) → cutL acc (l ++ 32 :: r) = (acc ++ l) :: cutL [] r
  | [], acc, r, _ => by show cutL acc (32 :: r) = _; rw [cutL_cons, if_pos rfl, List.append_nil]
  | c :: l, acc, r, h => by
    show cutL acc (c :: (l ++ 32 :: r)) = _
    rw [cutL_cons, if_neg (h c (List.mem_cons_self ..)), cutL_next l _ r (fun x hx => h x (List.mem_cons_of_mem _ hx)), List.append_assoc]; rfl
theorem cut_map (s : ByteArray) : (cutD s 32).map (·.data.toList) = cutL [] s.data.toList := by
  rw [← split_is]; exact split_cutL _ s rfl
theorem cutL_J : ∀ F : List ByteArray, F ≠ [] → (∀ t ∈ F, NoB t) → cutL [] (J F).data.toList = F.map (·.data.toList)
  | [], h, _ => absurd rfl h
  | [a], _, h => by show cutL [] a.data.toList = _; rw [cutL_last _ _ (h a (by simp)).2]; rfl
  | a :: b :: r, _, h => by
    have ih := cutL_J (b :: r) (by simp) (fun t ht => h t (List.mem_cons_of_mem _ ht))
    have e : (J (a :: b :: r)).data.toList = a.data.toList ++ 32 :: (J (b :: r)).data.toList := by
      show (a ++ (⟨#[32]⟩ ++ J (b :: r))).data.toList = _
      simp [ByteArray.data_append]
    rw [e, cutL_next _ _ _ (h a (by simp)).2, ih]; rfl
theorem map_inj : ∀ {a b : List ByteArray}, a.map (·.data.toList) = b.map (·.data.toList) → a = b
  | [], [], _ => rfl
  | [], _ :: _, h => by simp at h
  | _ :: _, [], h => by simp at h
  | x :: a, y :: b, h => by
    simp only [List.map_cons, List.cons.injEq] at h
    have e : x = y := ByteArray.ext (Array.toList_inj.1 h.1)
    rw [e, map_inj h.2]
theorem cut_J {F : List ByteArray} (h0 : F ≠ []) (h : ∀ t ∈ F, NoB t) : cutD (J F) 32 = F := map_inj (by rw [cut_map, cutL_J F h0 h])
theorem J_size : ∀ F : List ByteArray, (∀ t ∈ F, t.size ≤ 10000) → (J F).size ≤ 10001 * F.length
  | [], _ => by decide
  | [a], h => by show a.size ≤ _; have := h a (by simp); simp; omega
  | a :: b :: r, h => by
    have ih := J_size (b :: r) (fun t ht => h t (List.mem_cons_of_mem _ ht))
    have ha := h a (by simp)
    show (a ++ (⟨#[32]⟩ ++ J (b :: r))).size ≤ _
    rw [ByteArray.size_append, ByteArray.size_append]
    have e : (⟨#[32]⟩ : ByteArray).size = 1 := rfl
    simp only [List.length_cons] at ih ⊢
    omega
theorem not_empty {F : List ByteArray} (h : ∀ t ∈ F, NoB t) : ¬ containsS F ⟨#[]⟩ = true := fun e => (h _ ((containsS_iff F ⟨#[]⟩).1 e)).1 rfl

theorem fields_sync : fieldsOf ([⟨#[115, 121, 110, 99]⟩] : List ByteArray) = some ⟨1, 22, ⟨#[]⟩, ⟨#[]⟩, 0, 0, 0, ⟨#[]⟩, []⟩ ∧ (∀ y ∈ ([⟨#[115, 121, 110, 99]⟩] : List ByteArray), NoB y) ∧ (∀ y ∈ ([⟨#[115, 121, 110, 99]⟩] : List ByteArray), y.size ≤ 10000) := by
  have hN : ∀ y ∈ ([⟨#[115, 121, 110, 99]⟩] : List ByteArray), NoB y := by
    intro x hx
    simp only [List.mem_cons, List.not_mem_nil, or_false] at hx
    rcases hx with rfl
    · exact ⟨by decide, by decide⟩
  refine ⟨?_, hN, ?_⟩
  · have hc : cmdOf ⟨#[115, 121, 110, 99]⟩ theCmds = some ⟨⟨#[115, 121, 110, 99]⟩, 1, 22, [], 0⟩ := by kernel_rfl
    unfold fieldsOf
    show (match cmdOf ⟨#[115, 121, 110, 99]⟩ theCmds with | none => none | some c => _) = _
    rw [hc]
    show (if containsS ([⟨#[115, 121, 110, 99]⟩] : List ByteArray) ⟨#[]⟩ = true then none else if 0 ≤ ([⟨#[115, 121, 110, 99]⟩] : List ByteArray).tail.length ∧ (([⟨#[115, 121, 110, 99]⟩] : List ByteArray).tail.length : Int) ≤ ((0 : Nat) : Int) + 0 then takeAll [] 0 [] ⟨1, 22, ⟨#[]⟩, ⟨#[]⟩, 0, 0, 0, ⟨#[]⟩, []⟩ else none) = _
    rw [if_neg (not_empty hN), if_pos (by constructor <;> simp)]
    rfl
  · intro x hx
    simp only [List.mem_cons, List.not_mem_nil, or_false] at hx
    rcases hx with rfl
    · decide

theorem fields_checkpoint : fieldsOf ([⟨#[99, 104, 101, 99, 107, 112, 111, 105, 110, 116]⟩] : List ByteArray) = some ⟨1, 23, ⟨#[]⟩, ⟨#[]⟩, 0, 0, 0, ⟨#[]⟩, []⟩ ∧ (∀ y ∈ ([⟨#[99, 104, 101, 99, 107, 112, 111, 105, 110, 116]⟩] : List ByteArray), NoB y) ∧ (∀ y ∈ ([⟨#[99, 104, 101, 99, 107, 112, 111, 105, 110, 116]⟩] : List ByteArray), y.size ≤ 10000) := by
  have hN : ∀ y ∈ ([⟨#[99, 104, 101, 99, 107, 112, 111, 105, 110, 116]⟩] : List ByteArray), NoB y := by
    intro x hx
    simp only [List.mem_cons, List.not_mem_nil, or_false] at hx
    rcases hx with rfl
    · exact ⟨by decide, by decide⟩
  refine ⟨?_, hN, ?_⟩
  · have hc : cmdOf ⟨#[99, 104, 101, 99, 107, 112, 111, 105, 110, 116]⟩ theCmds = some ⟨⟨#[99, 104, 101, 99, 107, 112, 111, 105, 110, 116]⟩, 1, 23, [], 0⟩ := by kernel_rfl
    unfold fieldsOf
    show (match cmdOf ⟨#[99, 104, 101, 99, 107, 112, 111, 105, 110, 116]⟩ theCmds with | none => none | some c => _) = _
    rw [hc]
    show (if containsS ([⟨#[99, 104, 101, 99, 107, 112, 111, 105, 110, 116]⟩] : List ByteArray) ⟨#[]⟩ = true then none else if 0 ≤ ([⟨#[99, 104, 101, 99, 107, 112, 111, 105, 110, 116]⟩] : List ByteArray).tail.length ∧ (([⟨#[99, 104, 101, 99, 107, 112, 111, 105, 110, 116]⟩] : List ByteArray).tail.length : Int) ≤ ((0 : Nat) : Int) + 0 then takeAll [] 0 [] ⟨1, 23, ⟨#[]⟩, ⟨#[]⟩, 0, 0, 0, ⟨#[]⟩, []⟩ else none) = _
    rw [if_neg (not_empty hN), if_pos (by constructor <;> simp)]
    rfl
  · intro x hx
    simp only [List.mem_cons, List.not_mem_nil, or_false] at hx
    rcases hx with rfl
    · decide

theorem fields_space : fieldsOf ([⟨#[115, 112, 97, 99, 101]⟩] : List ByteArray) = some ⟨1, 24, ⟨#[]⟩, ⟨#[]⟩, 0, 0, 0, ⟨#[]⟩, []⟩ ∧ (∀ y ∈ ([⟨#[115, 112, 97, 99, 101]⟩] : List ByteArray), NoB y) ∧ (∀ y ∈ ([⟨#[115, 112, 97, 99, 101]⟩] : List ByteArray), y.size ≤ 10000) := by
  have hN : ∀ y ∈ ([⟨#[115, 112, 97, 99, 101]⟩] : List ByteArray), NoB y := by
    intro x hx
    simp only [List.mem_cons, List.not_mem_nil, or_false] at hx
    rcases hx with rfl
    · exact ⟨by decide, by decide⟩
  refine ⟨?_, hN, ?_⟩
  · have hc : cmdOf ⟨#[115, 112, 97, 99, 101]⟩ theCmds = some ⟨⟨#[115, 112, 97, 99, 101]⟩, 1, 24, [], 0⟩ := by kernel_rfl
    unfold fieldsOf
    show (match cmdOf ⟨#[115, 112, 97, 99, 101]⟩ theCmds with | none => none | some c => _) = _
    rw [hc]
    show (if containsS ([⟨#[115, 112, 97, 99, 101]⟩] : List ByteArray) ⟨#[]⟩ = true then none else if 0 ≤ ([⟨#[115, 112, 97, 99, 101]⟩] : List ByteArray).tail.length ∧ (([⟨#[115, 112, 97, 99, 101]⟩] : List ByteArray).tail.length : Int) ≤ ((0 : Nat) : Int) + 0 then takeAll [] 0 [] ⟨1, 24, ⟨#[]⟩, ⟨#[]⟩, 0, 0, 0, ⟨#[]⟩, []⟩ else none) = _
    rw [if_neg (not_empty hN), if_pos (by constructor <;> simp)]
    rfl
  · intro x hx
    simp only [List.mem_cons, List.not_mem_nil, or_false] at hx
    rcases hx with rfl
    · decide

theorem fields_log : fieldsOf ([⟨#[108, 111, 103]⟩] : List ByteArray) = some ⟨1, 25, ⟨#[]⟩, ⟨#[]⟩, 0, 0, 0, ⟨#[]⟩, []⟩ ∧ (∀ y ∈ ([⟨#[108, 111, 103]⟩] : List ByteArray), NoB y) ∧ (∀ y ∈ ([⟨#[108, 111, 103]⟩] : List ByteArray), y.size ≤ 10000) := by
  have hN : ∀ y ∈ ([⟨#[108, 111, 103]⟩] : List ByteArray), NoB y := by
    intro x hx
    simp only [List.mem_cons, List.not_mem_nil, or_false] at hx
    rcases hx with rfl
    · exact ⟨by decide, by decide⟩
  refine ⟨?_, hN, ?_⟩
  · have hc : cmdOf ⟨#[108, 111, 103]⟩ theCmds = some ⟨⟨#[108, 111, 103]⟩, 1, 25, [], 0⟩ := by kernel_rfl
    unfold fieldsOf
    show (match cmdOf ⟨#[108, 111, 103]⟩ theCmds with | none => none | some c => _) = _
    rw [hc]
    show (if containsS ([⟨#[108, 111, 103]⟩] : List ByteArray) ⟨#[]⟩ = true then none else if 0 ≤ ([⟨#[108, 111, 103]⟩] : List ByteArray).tail.length ∧ (([⟨#[108, 111, 103]⟩] : List ByteArray).tail.length : Int) ≤ ((0 : Nat) : Int) + 0 then takeAll [] 0 [] ⟨1, 25, ⟨#[]⟩, ⟨#[]⟩, 0, 0, 0, ⟨#[]⟩, []⟩ else none) = _
    rw [if_neg (not_empty hN), if_pos (by constructor <;> simp)]
    rfl
  · intro x hx
    simp only [List.mem_cons, List.not_mem_nil, or_false] at hx
    rcases hx with rfl
    · decide

theorem fields_create (p : ByteArray) (hp : Fld p) (hps : p.size ≤ 3000) : fieldsOf ([⟨#[99, 114, 101, 97, 116, 101]⟩, p] : List ByteArray) = some ⟨1, 1, p, ⟨#[]⟩, 0, 0, 0, ⟨#[]⟩, []⟩ ∧ (∀ y ∈ ([⟨#[99, 114, 101, 97, 116, 101]⟩, p] : List ByteArray), NoB y) ∧ (∀ y ∈ ([⟨#[99, 114, 101, 97, 116, 101]⟩, p] : List ByteArray), y.size ≤ 10000) := by
  have hN : ∀ y ∈ ([⟨#[99, 114, 101, 97, 116, 101]⟩, p] : List ByteArray), NoB y := by
    intro x hx
    simp only [List.mem_cons, List.not_mem_nil, or_false] at hx
    rcases hx with rfl | rfl
    · exact ⟨by decide, by decide⟩
    · exact nob_fld hp
  refine ⟨?_, hN, ?_⟩
  · have hc : cmdOf ⟨#[99, 114, 101, 97, 116, 101]⟩ theCmds = some ⟨⟨#[99, 114, 101, 97, 116, 101]⟩, 1, 1, [32], 0⟩ := by kernel_rfl
    unfold fieldsOf
    show (match cmdOf ⟨#[99, 114, 101, 97, 116, 101]⟩ theCmds with | none => none | some c => _) = _
    rw [hc]
    show (if containsS ([⟨#[99, 114, 101, 97, 116, 101]⟩, p] : List ByteArray) ⟨#[]⟩ = true then none else if 1 ≤ ([⟨#[99, 114, 101, 97, 116, 101]⟩, p] : List ByteArray).tail.length ∧ (([⟨#[99, 114, 101, 97, 116, 101]⟩, p] : List ByteArray).tail.length : Int) ≤ ((1 : Nat) : Int) + 0 then takeAll [32] 0 [p] ⟨1, 1, ⟨#[]⟩, ⟨#[]⟩, 0, 0, 0, ⟨#[]⟩, []⟩ else none) = _
    rw [if_neg (not_empty hN), if_pos (by constructor <;> simp)]
    rw [takes1]
    simp only [tk_Path]
    all_goals rfl
  · intro x hx
    simp only [List.mem_cons, List.not_mem_nil, or_false] at hx
    rcases hx with rfl | rfl
    · decide
    · omega

theorem fields_mkdir (p : ByteArray) (hp : Fld p) (hps : p.size ≤ 3000) : fieldsOf ([⟨#[109, 107, 100, 105, 114]⟩, p] : List ByteArray) = some ⟨1, 2, p, ⟨#[]⟩, 0, 0, 0, ⟨#[]⟩, []⟩ ∧ (∀ y ∈ ([⟨#[109, 107, 100, 105, 114]⟩, p] : List ByteArray), NoB y) ∧ (∀ y ∈ ([⟨#[109, 107, 100, 105, 114]⟩, p] : List ByteArray), y.size ≤ 10000) := by
  have hN : ∀ y ∈ ([⟨#[109, 107, 100, 105, 114]⟩, p] : List ByteArray), NoB y := by
    intro x hx
    simp only [List.mem_cons, List.not_mem_nil, or_false] at hx
    rcases hx with rfl | rfl
    · exact ⟨by decide, by decide⟩
    · exact nob_fld hp
  refine ⟨?_, hN, ?_⟩
  · have hc : cmdOf ⟨#[109, 107, 100, 105, 114]⟩ theCmds = some ⟨⟨#[109, 107, 100, 105, 114]⟩, 1, 2, [32], 0⟩ := by kernel_rfl
    unfold fieldsOf
    show (match cmdOf ⟨#[109, 107, 100, 105, 114]⟩ theCmds with | none => none | some c => _) = _
    rw [hc]
    show (if containsS ([⟨#[109, 107, 100, 105, 114]⟩, p] : List ByteArray) ⟨#[]⟩ = true then none else if 1 ≤ ([⟨#[109, 107, 100, 105, 114]⟩, p] : List ByteArray).tail.length ∧ (([⟨#[109, 107, 100, 105, 114]⟩, p] : List ByteArray).tail.length : Int) ≤ ((1 : Nat) : Int) + 0 then takeAll [32] 0 [p] ⟨1, 2, ⟨#[]⟩, ⟨#[]⟩, 0, 0, 0, ⟨#[]⟩, []⟩ else none) = _
    rw [if_neg (not_empty hN), if_pos (by constructor <;> simp)]
    rw [takes1]
    simp only [tk_Path]
    all_goals rfl
  · intro x hx
    simp only [List.mem_cons, List.not_mem_nil, or_false] at hx
    rcases hx with rfl | rfl
    · decide
    · omega

theorem fields_unlink (p : ByteArray) (hp : Fld p) (hps : p.size ≤ 3000) : fieldsOf ([⟨#[117, 110, 108, 105, 110, 107]⟩, p] : List ByteArray) = some ⟨1, 3, p, ⟨#[]⟩, 0, 0, 0, ⟨#[]⟩, []⟩ ∧ (∀ y ∈ ([⟨#[117, 110, 108, 105, 110, 107]⟩, p] : List ByteArray), NoB y) ∧ (∀ y ∈ ([⟨#[117, 110, 108, 105, 110, 107]⟩, p] : List ByteArray), y.size ≤ 10000) := by
  have hN : ∀ y ∈ ([⟨#[117, 110, 108, 105, 110, 107]⟩, p] : List ByteArray), NoB y := by
    intro x hx
    simp only [List.mem_cons, List.not_mem_nil, or_false] at hx
    rcases hx with rfl | rfl
    · exact ⟨by decide, by decide⟩
    · exact nob_fld hp
  refine ⟨?_, hN, ?_⟩
  · have hc : cmdOf ⟨#[117, 110, 108, 105, 110, 107]⟩ theCmds = some ⟨⟨#[117, 110, 108, 105, 110, 107]⟩, 1, 3, [32], 0⟩ := by kernel_rfl
    unfold fieldsOf
    show (match cmdOf ⟨#[117, 110, 108, 105, 110, 107]⟩ theCmds with | none => none | some c => _) = _
    rw [hc]
    show (if containsS ([⟨#[117, 110, 108, 105, 110, 107]⟩, p] : List ByteArray) ⟨#[]⟩ = true then none else if 1 ≤ ([⟨#[117, 110, 108, 105, 110, 107]⟩, p] : List ByteArray).tail.length ∧ (([⟨#[117, 110, 108, 105, 110, 107]⟩, p] : List ByteArray).tail.length : Int) ≤ ((1 : Nat) : Int) + 0 then takeAll [32] 0 [p] ⟨1, 3, ⟨#[]⟩, ⟨#[]⟩, 0, 0, 0, ⟨#[]⟩, []⟩ else none) = _
    rw [if_neg (not_empty hN), if_pos (by constructor <;> simp)]
    rw [takes1]
    simp only [tk_Path]
    all_goals rfl
  · intro x hx
    simp only [List.mem_cons, List.not_mem_nil, or_false] at hx
    rcases hx with rfl | rfl
    · decide
    · omega

theorem fields_rmdir (p : ByteArray) (hp : Fld p) (hps : p.size ≤ 3000) : fieldsOf ([⟨#[114, 109, 100, 105, 114]⟩, p] : List ByteArray) = some ⟨1, 4, p, ⟨#[]⟩, 0, 0, 0, ⟨#[]⟩, []⟩ ∧ (∀ y ∈ ([⟨#[114, 109, 100, 105, 114]⟩, p] : List ByteArray), NoB y) ∧ (∀ y ∈ ([⟨#[114, 109, 100, 105, 114]⟩, p] : List ByteArray), y.size ≤ 10000) := by
  have hN : ∀ y ∈ ([⟨#[114, 109, 100, 105, 114]⟩, p] : List ByteArray), NoB y := by
    intro x hx
    simp only [List.mem_cons, List.not_mem_nil, or_false] at hx
    rcases hx with rfl | rfl
    · exact ⟨by decide, by decide⟩
    · exact nob_fld hp
  refine ⟨?_, hN, ?_⟩
  · have hc : cmdOf ⟨#[114, 109, 100, 105, 114]⟩ theCmds = some ⟨⟨#[114, 109, 100, 105, 114]⟩, 1, 4, [32], 0⟩ := by kernel_rfl
    unfold fieldsOf
    show (match cmdOf ⟨#[114, 109, 100, 105, 114]⟩ theCmds with | none => none | some c => _) = _
    rw [hc]
    show (if containsS ([⟨#[114, 109, 100, 105, 114]⟩, p] : List ByteArray) ⟨#[]⟩ = true then none else if 1 ≤ ([⟨#[114, 109, 100, 105, 114]⟩, p] : List ByteArray).tail.length ∧ (([⟨#[114, 109, 100, 105, 114]⟩, p] : List ByteArray).tail.length : Int) ≤ ((1 : Nat) : Int) + 0 then takeAll [32] 0 [p] ⟨1, 4, ⟨#[]⟩, ⟨#[]⟩, 0, 0, 0, ⟨#[]⟩, []⟩ else none) = _
    rw [if_neg (not_empty hN), if_pos (by constructor <;> simp)]
    rw [takes1]
    simp only [tk_Path]
    all_goals rfl
  · intro x hx
    simp only [List.mem_cons, List.not_mem_nil, or_false] at hx
    rcases hx with rfl | rfl
    · decide
    · omega

theorem fields_open (p : ByteArray) (hp : Fld p) (hps : p.size ≤ 3000) : fieldsOf ([⟨#[111, 112, 101, 110]⟩, p] : List ByteArray) = some ⟨1, 14, p, ⟨#[]⟩, 0, 0, 0, ⟨#[]⟩, []⟩ ∧ (∀ y ∈ ([⟨#[111, 112, 101, 110]⟩, p] : List ByteArray), NoB y) ∧ (∀ y ∈ ([⟨#[111, 112, 101, 110]⟩, p] : List ByteArray), y.size ≤ 10000) := by
  have hN : ∀ y ∈ ([⟨#[111, 112, 101, 110]⟩, p] : List ByteArray), NoB y := by
    intro x hx
    simp only [List.mem_cons, List.not_mem_nil, or_false] at hx
    rcases hx with rfl | rfl
    · exact ⟨by decide, by decide⟩
    · exact nob_fld hp
  refine ⟨?_, hN, ?_⟩
  · have hc : cmdOf ⟨#[111, 112, 101, 110]⟩ theCmds = some ⟨⟨#[111, 112, 101, 110]⟩, 1, 14, [32], 0⟩ := by kernel_rfl
    unfold fieldsOf
    show (match cmdOf ⟨#[111, 112, 101, 110]⟩ theCmds with | none => none | some c => _) = _
    rw [hc]
    show (if containsS ([⟨#[111, 112, 101, 110]⟩, p] : List ByteArray) ⟨#[]⟩ = true then none else if 1 ≤ ([⟨#[111, 112, 101, 110]⟩, p] : List ByteArray).tail.length ∧ (([⟨#[111, 112, 101, 110]⟩, p] : List ByteArray).tail.length : Int) ≤ ((1 : Nat) : Int) + 0 then takeAll [32] 0 [p] ⟨1, 14, ⟨#[]⟩, ⟨#[]⟩, 0, 0, 0, ⟨#[]⟩, []⟩ else none) = _
    rw [if_neg (not_empty hN), if_pos (by constructor <;> simp)]
    rw [takes1]
    simp only [tk_Path]
    all_goals rfl
  · intro x hx
    simp only [List.mem_cons, List.not_mem_nil, or_false] at hx
    rcases hx with rfl | rfl
    · decide
    · omega

theorem fields_stat (p : ByteArray) (hp : Fld p) (hps : p.size ≤ 3000) : fieldsOf ([⟨#[115, 116, 97, 116]⟩, p] : List ByteArray) = some ⟨1, 18, p, ⟨#[]⟩, 0, 0, 0, ⟨#[]⟩, []⟩ ∧ (∀ y ∈ ([⟨#[115, 116, 97, 116]⟩, p] : List ByteArray), NoB y) ∧ (∀ y ∈ ([⟨#[115, 116, 97, 116]⟩, p] : List ByteArray), y.size ≤ 10000) := by
  have hN : ∀ y ∈ ([⟨#[115, 116, 97, 116]⟩, p] : List ByteArray), NoB y := by
    intro x hx
    simp only [List.mem_cons, List.not_mem_nil, or_false] at hx
    rcases hx with rfl | rfl
    · exact ⟨by decide, by decide⟩
    · exact nob_fld hp
  refine ⟨?_, hN, ?_⟩
  · have hc : cmdOf ⟨#[115, 116, 97, 116]⟩ theCmds = some ⟨⟨#[115, 116, 97, 116]⟩, 1, 18, [32], 0⟩ := by kernel_rfl
    unfold fieldsOf
    show (match cmdOf ⟨#[115, 116, 97, 116]⟩ theCmds with | none => none | some c => _) = _
    rw [hc]
    show (if containsS ([⟨#[115, 116, 97, 116]⟩, p] : List ByteArray) ⟨#[]⟩ = true then none else if 1 ≤ ([⟨#[115, 116, 97, 116]⟩, p] : List ByteArray).tail.length ∧ (([⟨#[115, 116, 97, 116]⟩, p] : List ByteArray).tail.length : Int) ≤ ((1 : Nat) : Int) + 0 then takeAll [32] 0 [p] ⟨1, 18, ⟨#[]⟩, ⟨#[]⟩, 0, 0, 0, ⟨#[]⟩, []⟩ else none) = _
    rw [if_neg (not_empty hN), if_pos (by constructor <;> simp)]
    rw [takes1]
    simp only [tk_Path]
    all_goals rfl
  · intro x hx
    simp only [List.mem_cons, List.not_mem_nil, or_false] at hx
    rcases hx with rfl | rfl
    · decide
    · omega

theorem fields_lstat (p : ByteArray) (hp : Fld p) (hps : p.size ≤ 3000) : fieldsOf ([⟨#[108, 115, 116, 97, 116]⟩, p] : List ByteArray) = some ⟨1, 19, p, ⟨#[]⟩, 0, 0, 0, ⟨#[]⟩, []⟩ ∧ (∀ y ∈ ([⟨#[108, 115, 116, 97, 116]⟩, p] : List ByteArray), NoB y) ∧ (∀ y ∈ ([⟨#[108, 115, 116, 97, 116]⟩, p] : List ByteArray), y.size ≤ 10000) := by
  have hN : ∀ y ∈ ([⟨#[108, 115, 116, 97, 116]⟩, p] : List ByteArray), NoB y := by
    intro x hx
    simp only [List.mem_cons, List.not_mem_nil, or_false] at hx
    rcases hx with rfl | rfl
    · exact ⟨by decide, by decide⟩
    · exact nob_fld hp
  refine ⟨?_, hN, ?_⟩
  · have hc : cmdOf ⟨#[108, 115, 116, 97, 116]⟩ theCmds = some ⟨⟨#[108, 115, 116, 97, 116]⟩, 1, 19, [32], 0⟩ := by kernel_rfl
    unfold fieldsOf
    show (match cmdOf ⟨#[108, 115, 116, 97, 116]⟩ theCmds with | none => none | some c => _) = _
    rw [hc]
    show (if containsS ([⟨#[108, 115, 116, 97, 116]⟩, p] : List ByteArray) ⟨#[]⟩ = true then none else if 1 ≤ ([⟨#[108, 115, 116, 97, 116]⟩, p] : List ByteArray).tail.length ∧ (([⟨#[108, 115, 116, 97, 116]⟩, p] : List ByteArray).tail.length : Int) ≤ ((1 : Nat) : Int) + 0 then takeAll [32] 0 [p] ⟨1, 19, ⟨#[]⟩, ⟨#[]⟩, 0, 0, 0, ⟨#[]⟩, []⟩ else none) = _
    rw [if_neg (not_empty hN), if_pos (by constructor <;> simp)]
    rw [takes1]
    simp only [tk_Path]
    all_goals rfl
  · intro x hx
    simp only [List.mem_cons, List.not_mem_nil, or_false] at hx
    rcases hx with rfl | rfl
    · decide
    · omega

theorem fields_list (p : ByteArray) (hp : Fld p) (hps : p.size ≤ 3000) : fieldsOf ([⟨#[108, 105, 115, 116]⟩, p] : List ByteArray) = some ⟨1, 20, p, ⟨#[]⟩, 0, 0, 0, ⟨#[]⟩, []⟩ ∧ (∀ y ∈ ([⟨#[108, 105, 115, 116]⟩, p] : List ByteArray), NoB y) ∧ (∀ y ∈ ([⟨#[108, 105, 115, 116]⟩, p] : List ByteArray), y.size ≤ 10000) := by
  have hN : ∀ y ∈ ([⟨#[108, 105, 115, 116]⟩, p] : List ByteArray), NoB y := by
    intro x hx
    simp only [List.mem_cons, List.not_mem_nil, or_false] at hx
    rcases hx with rfl | rfl
    · exact ⟨by decide, by decide⟩
    · exact nob_fld hp
  refine ⟨?_, hN, ?_⟩
  · have hc : cmdOf ⟨#[108, 105, 115, 116]⟩ theCmds = some ⟨⟨#[108, 105, 115, 116]⟩, 1, 20, [32], 0⟩ := by kernel_rfl
    unfold fieldsOf
    show (match cmdOf ⟨#[108, 105, 115, 116]⟩ theCmds with | none => none | some c => _) = _
    rw [hc]
    show (if containsS ([⟨#[108, 105, 115, 116]⟩, p] : List ByteArray) ⟨#[]⟩ = true then none else if 1 ≤ ([⟨#[108, 105, 115, 116]⟩, p] : List ByteArray).tail.length ∧ (([⟨#[108, 105, 115, 116]⟩, p] : List ByteArray).tail.length : Int) ≤ ((1 : Nat) : Int) + 0 then takeAll [32] 0 [p] ⟨1, 20, ⟨#[]⟩, ⟨#[]⟩, 0, 0, 0, ⟨#[]⟩, []⟩ else none) = _
    rw [if_neg (not_empty hN), if_pos (by constructor <;> simp)]
    rw [takes1]
    simp only [tk_Path]
    all_goals rfl
  · intro x hx
    simp only [List.mem_cons, List.not_mem_nil, or_false] at hx
    rcases hx with rfl | rfl
    · decide
    · omega

theorem fields_readlink (p : ByteArray) (hp : Fld p) (hps : p.size ≤ 3000) : fieldsOf ([⟨#[114, 101, 97, 100, 108, 105, 110, 107]⟩, p] : List ByteArray) = some ⟨1, 21, p, ⟨#[]⟩, 0, 0, 0, ⟨#[]⟩, []⟩ ∧ (∀ y ∈ ([⟨#[114, 101, 97, 100, 108, 105, 110, 107]⟩, p] : List ByteArray), NoB y) ∧ (∀ y ∈ ([⟨#[114, 101, 97, 100, 108, 105, 110, 107]⟩, p] : List ByteArray), y.size ≤ 10000) := by
  have hN : ∀ y ∈ ([⟨#[114, 101, 97, 100, 108, 105, 110, 107]⟩, p] : List ByteArray), NoB y := by
    intro x hx
    simp only [List.mem_cons, List.not_mem_nil, or_false] at hx
    rcases hx with rfl | rfl
    · exact ⟨by decide, by decide⟩
    · exact nob_fld hp
  refine ⟨?_, hN, ?_⟩
  · have hc : cmdOf ⟨#[114, 101, 97, 100, 108, 105, 110, 107]⟩ theCmds = some ⟨⟨#[114, 101, 97, 100, 108, 105, 110, 107]⟩, 1, 21, [32], 0⟩ := by kernel_rfl
    unfold fieldsOf
    show (match cmdOf ⟨#[114, 101, 97, 100, 108, 105, 110, 107]⟩ theCmds with | none => none | some c => _) = _
    rw [hc]
    show (if containsS ([⟨#[114, 101, 97, 100, 108, 105, 110, 107]⟩, p] : List ByteArray) ⟨#[]⟩ = true then none else if 1 ≤ ([⟨#[114, 101, 97, 100, 108, 105, 110, 107]⟩, p] : List ByteArray).tail.length ∧ (([⟨#[114, 101, 97, 100, 108, 105, 110, 107]⟩, p] : List ByteArray).tail.length : Int) ≤ ((1 : Nat) : Int) + 0 then takeAll [32] 0 [p] ⟨1, 21, ⟨#[]⟩, ⟨#[]⟩, 0, 0, 0, ⟨#[]⟩, []⟩ else none) = _
    rw [if_neg (not_empty hN), if_pos (by constructor <;> simp)]
    rw [takes1]
    simp only [tk_Path]
    all_goals rfl
  · intro x hx
    simp only [List.mem_cons, List.not_mem_nil, or_false] at hx
    rcases hx with rfl | rfl
    · decide
    · omega

theorem fields_rename (p : ByteArray) (hp : Fld p) (hps : p.size ≤ 3000) (t : ByteArray) (ht : Fld t) (hts : t.size ≤ 3000) : fieldsOf ([⟨#[114, 101, 110, 97, 109, 101]⟩, p, t] : List ByteArray) = some ⟨1, 5, p, t, 0, 0, 0, ⟨#[]⟩, []⟩ ∧ (∀ y ∈ ([⟨#[114, 101, 110, 97, 109, 101]⟩, p, t] : List ByteArray), NoB y) ∧ (∀ y ∈ ([⟨#[114, 101, 110, 97, 109, 101]⟩, p, t] : List ByteArray), y.size ≤ 10000) := by
  have hN : ∀ y ∈ ([⟨#[114, 101, 110, 97, 109, 101]⟩, p, t] : List ByteArray), NoB y := by
    intro x hx
    simp only [List.mem_cons, List.not_mem_nil, or_false] at hx
    rcases hx with rfl | rfl | rfl
    · exact ⟨by decide, by decide⟩
    · exact nob_fld hp
    · exact nob_fld ht
  refine ⟨?_, hN, ?_⟩
  · have hc : cmdOf ⟨#[114, 101, 110, 97, 109, 101]⟩ theCmds = some ⟨⟨#[114, 101, 110, 97, 109, 101]⟩, 1, 5, [32, 33], 0⟩ := by kernel_rfl
    unfold fieldsOf
    show (match cmdOf ⟨#[114, 101, 110, 97, 109, 101]⟩ theCmds with | none => none | some c => _) = _
    rw [hc]
    show (if containsS ([⟨#[114, 101, 110, 97, 109, 101]⟩, p, t] : List ByteArray) ⟨#[]⟩ = true then none else if 2 ≤ ([⟨#[114, 101, 110, 97, 109, 101]⟩, p, t] : List ByteArray).tail.length ∧ (([⟨#[114, 101, 110, 97, 109, 101]⟩, p, t] : List ByteArray).tail.length : Int) ≤ ((2 : Nat) : Int) + 0 then takeAll [32, 33] 0 [p, t] ⟨1, 5, ⟨#[]⟩, ⟨#[]⟩, 0, 0, 0, ⟨#[]⟩, []⟩ else none) = _
    rw [if_neg (not_empty hN), if_pos (by constructor <;> simp)]
    rw [takes2]
    simp only [tk_Path, tk_To]
    all_goals rfl
  · intro x hx
    simp only [List.mem_cons, List.not_mem_nil, or_false] at hx
    rcases hx with rfl | rfl | rfl
    · decide
    · omega
    · omega

theorem fields_link (p : ByteArray) (hp : Fld p) (hps : p.size ≤ 3000) (t : ByteArray) (ht : Fld t) (hts : t.size ≤ 3000) : fieldsOf ([⟨#[108, 105, 110, 107]⟩, p, t] : List ByteArray) = some ⟨1, 9, p, t, 0, 0, 0, ⟨#[]⟩, []⟩ ∧ (∀ y ∈ ([⟨#[108, 105, 110, 107]⟩, p, t] : List ByteArray), NoB y) ∧ (∀ y ∈ ([⟨#[108, 105, 110, 107]⟩, p, t] : List ByteArray), y.size ≤ 10000) := by
  have hN : ∀ y ∈ ([⟨#[108, 105, 110, 107]⟩, p, t] : List ByteArray), NoB y := by
    intro x hx
    simp only [List.mem_cons, List.not_mem_nil, or_false] at hx
    rcases hx with rfl | rfl | rfl
    · exact ⟨by decide, by decide⟩
    · exact nob_fld hp
    · exact nob_fld ht
  refine ⟨?_, hN, ?_⟩
  · have hc : cmdOf ⟨#[108, 105, 110, 107]⟩ theCmds = some ⟨⟨#[108, 105, 110, 107]⟩, 1, 9, [32, 33], 0⟩ := by kernel_rfl
    unfold fieldsOf
    show (match cmdOf ⟨#[108, 105, 110, 107]⟩ theCmds with | none => none | some c => _) = _
    rw [hc]
    show (if containsS ([⟨#[108, 105, 110, 107]⟩, p, t] : List ByteArray) ⟨#[]⟩ = true then none else if 2 ≤ ([⟨#[108, 105, 110, 107]⟩, p, t] : List ByteArray).tail.length ∧ (([⟨#[108, 105, 110, 107]⟩, p, t] : List ByteArray).tail.length : Int) ≤ ((2 : Nat) : Int) + 0 then takeAll [32, 33] 0 [p, t] ⟨1, 9, ⟨#[]⟩, ⟨#[]⟩, 0, 0, 0, ⟨#[]⟩, []⟩ else none) = _
    rw [if_neg (not_empty hN), if_pos (by constructor <;> simp)]
    rw [takes2]
    simp only [tk_Path, tk_To]
    all_goals rfl
  · intro x hx
    simp only [List.mem_cons, List.not_mem_nil, or_false] at hx
    rcases hx with rfl | rfl | rfl
    · decide
    · omega
    · omega

theorem fields_symlink (p : ByteArray) (hp : Fld p) (hps : p.size ≤ 3000) (t : ByteArray) (ht : Fld t) (hts : t.size ≤ 3000) : fieldsOf ([⟨#[115, 121, 109, 108, 105, 110, 107]⟩, p, t] : List ByteArray) = some ⟨1, 10, p, t, 0, 0, 0, ⟨#[]⟩, []⟩ ∧ (∀ y ∈ ([⟨#[115, 121, 109, 108, 105, 110, 107]⟩, p, t] : List ByteArray), NoB y) ∧ (∀ y ∈ ([⟨#[115, 121, 109, 108, 105, 110, 107]⟩, p, t] : List ByteArray), y.size ≤ 10000) := by
  have hN : ∀ y ∈ ([⟨#[115, 121, 109, 108, 105, 110, 107]⟩, p, t] : List ByteArray), NoB y := by
    intro x hx
    simp only [List.mem_cons, List.not_mem_nil, or_false] at hx
    rcases hx with rfl | rfl | rfl
    · exact ⟨by decide, by decide⟩
    · exact nob_fld hp
    · exact nob_fld ht
  refine ⟨?_, hN, ?_⟩
  · have hc : cmdOf ⟨#[115, 121, 109, 108, 105, 110, 107]⟩ theCmds = some ⟨⟨#[115, 121, 109, 108, 105, 110, 107]⟩, 1, 10, [32, 33], 0⟩ := by kernel_rfl
    unfold fieldsOf
    show (match cmdOf ⟨#[115, 121, 109, 108, 105, 110, 107]⟩ theCmds with | none => none | some c => _) = _
    rw [hc]
    show (if containsS ([⟨#[115, 121, 109, 108, 105, 110, 107]⟩, p, t] : List ByteArray) ⟨#[]⟩ = true then none else if 2 ≤ ([⟨#[115, 121, 109, 108, 105, 110, 107]⟩, p, t] : List ByteArray).tail.length ∧ (([⟨#[115, 121, 109, 108, 105, 110, 107]⟩, p, t] : List ByteArray).tail.length : Int) ≤ ((2 : Nat) : Int) + 0 then takeAll [32, 33] 0 [p, t] ⟨1, 10, ⟨#[]⟩, ⟨#[]⟩, 0, 0, 0, ⟨#[]⟩, []⟩ else none) = _
    rw [if_neg (not_empty hN), if_pos (by constructor <;> simp)]
    rw [takes2]
    simp only [tk_Path, tk_To]
    all_goals rfl
  · intro x hx
    simp only [List.mem_cons, List.not_mem_nil, or_false] at hx
    rcases hx with rfl | rfl | rfl
    · decide
    · omega
    · omega

theorem fields_append (p : ByteArray) (hp : Fld p) (hps : p.size ≤ 3000) (d : ByteArray) (hds : d.size ≤ 3000) : fieldsOf ([⟨#[97, 112, 112, 101, 110, 100]⟩, p, (quoV d)] : List ByteArray) = some ⟨1, 8, p, ⟨#[]⟩, 0, 0, 0, d, []⟩ ∧ (∀ y ∈ ([⟨#[97, 112, 112, 101, 110, 100]⟩, p, (quoV d)] : List ByteArray), NoB y) ∧ (∀ y ∈ ([⟨#[97, 112, 112, 101, 110, 100]⟩, p, (quoV d)] : List ByteArray), y.size ≤ 10000) := by
  have hN : ∀ y ∈ ([⟨#[97, 112, 112, 101, 110, 100]⟩, p, (quoV d)] : List ByteArray), NoB y := by
    intro x hx
    simp only [List.mem_cons, List.not_mem_nil, or_false] at hx
    rcases hx with rfl | rfl | rfl
    · exact ⟨by decide, by decide⟩
    · exact nob_fld hp
    · exact nob_quo hds
  refine ⟨?_, hN, ?_⟩
  · have hc : cmdOf ⟨#[97, 112, 112, 101, 110, 100]⟩ theCmds = some ⟨⟨#[97, 112, 112, 101, 110, 100]⟩, 1, 8, [32, 34], 0⟩ := by kernel_rfl
    unfold fieldsOf
    show (match cmdOf ⟨#[97, 112, 112, 101, 110, 100]⟩ theCmds with | none => none | some c => _) = _
    rw [hc]
    show (if containsS ([⟨#[97, 112, 112, 101, 110, 100]⟩, p, (quoV d)] : List ByteArray) ⟨#[]⟩ = true then none else if 2 ≤ ([⟨#[97, 112, 112, 101, 110, 100]⟩, p, (quoV d)] : List ByteArray).tail.length ∧ (([⟨#[97, 112, 112, 101, 110, 100]⟩, p, (quoV d)] : List ByteArray).tail.length : Int) ≤ ((2 : Nat) : Int) + 0 then takeAll [32, 34] 0 [p, (quoV d)] ⟨1, 8, ⟨#[]⟩, ⟨#[]⟩, 0, 0, 0, ⟨#[]⟩, []⟩ else none) = _
    rw [if_neg (not_empty hN), if_pos (by constructor <;> simp)]
    rw [takes2]
    simp only [tk_Data, tk_Path]
    rw [unqD_quo hds]
    rfl
  · intro x hx
    simp only [List.mem_cons, List.not_mem_nil, or_false] at hx
    rcases hx with rfl | rfl | rfl
    · decide
    · omega
    · have := quoV_bounds hds; omega

theorem fields_write (p : ByteArray) (hp : Fld p) (hps : p.size ≤ 3000) (o : Int) (ho : -1000000000 < o) (hos : o < 1000000000) (d : ByteArray) (hds : d.size ≤ 3000) : fieldsOf ([⟨#[119, 114, 105, 116, 101]⟩, p, (dec o), (quoV d)] : List ByteArray) = some ⟨1, 6, p, ⟨#[]⟩, 0, o, 0, d, []⟩ ∧ (∀ y ∈ ([⟨#[119, 114, 105, 116, 101]⟩, p, (dec o), (quoV d)] : List ByteArray), NoB y) ∧ (∀ y ∈ ([⟨#[119, 114, 105, 116, 101]⟩, p, (dec o), (quoV d)] : List ByteArray), y.size ≤ 10000) := by
  have hN : ∀ y ∈ ([⟨#[119, 114, 105, 116, 101]⟩, p, (dec o), (quoV d)] : List ByteArray), NoB y := by
    intro x hx
    simp only [List.mem_cons, List.not_mem_nil, or_false] at hx
    rcases hx with rfl | rfl | rfl | rfl
    · exact ⟨by decide, by decide⟩
    · exact nob_fld hp
    · exact nob_dec o ho hos
    · exact nob_quo hds
  refine ⟨?_, hN, ?_⟩
  · have hc : cmdOf ⟨#[119, 114, 105, 116, 101]⟩ theCmds = some ⟨⟨#[119, 114, 105, 116, 101]⟩, 1, 6, [32, 35, 34], 0⟩ := by kernel_rfl
    unfold fieldsOf
    show (match cmdOf ⟨#[119, 114, 105, 116, 101]⟩ theCmds with | none => none | some c => _) = _
    rw [hc]
    show (if containsS ([⟨#[119, 114, 105, 116, 101]⟩, p, (dec o), (quoV d)] : List ByteArray) ⟨#[]⟩ = true then none else if 3 ≤ ([⟨#[119, 114, 105, 116, 101]⟩, p, (dec o), (quoV d)] : List ByteArray).tail.length ∧ (([⟨#[119, 114, 105, 116, 101]⟩, p, (dec o), (quoV d)] : List ByteArray).tail.length : Int) ≤ ((3 : Nat) : Int) + 0 then takeAll [32, 35, 34] 0 [p, (dec o), (quoV d)] ⟨1, 6, ⟨#[]⟩, ⟨#[]⟩, 0, 0, 0, ⟨#[]⟩, []⟩ else none) = _
    rw [if_neg (not_empty hN), if_pos (by constructor <;> simp)]
    rw [takes3]
    simp only [tk_Data, tk_Offset, tk_Path]
    rw [numF_dec ho hos, unqD_quo hds]
    rfl
  · intro x hx
    simp only [List.mem_cons, List.not_mem_nil, or_false] at hx
    rcases hx with rfl | rfl | rfl | rfl
    · decide
    · omega
    · have := dec_size o (by omega) (by omega); omega
    · have := quoV_bounds hds; omega

theorem fields_trunc (p : ByteArray) (hp : Fld p) (hps : p.size ≤ 3000) (z : Int) (hz : -1000000000 < z) (hzs : z < 1000000000) : fieldsOf ([⟨#[116, 114, 117, 110, 99]⟩, p, (dec z)] : List ByteArray) = some ⟨1, 7, p, ⟨#[]⟩, 0, 0, z, ⟨#[]⟩, []⟩ ∧ (∀ y ∈ ([⟨#[116, 114, 117, 110, 99]⟩, p, (dec z)] : List ByteArray), NoB y) ∧ (∀ y ∈ ([⟨#[116, 114, 117, 110, 99]⟩, p, (dec z)] : List ByteArray), y.size ≤ 10000) := by
  have hN : ∀ y ∈ ([⟨#[116, 114, 117, 110, 99]⟩, p, (dec z)] : List ByteArray), NoB y := by
    intro x hx
    simp only [List.mem_cons, List.not_mem_nil, or_false] at hx
    rcases hx with rfl | rfl | rfl
    · exact ⟨by decide, by decide⟩
    · exact nob_fld hp
    · exact nob_dec z hz hzs
  refine ⟨?_, hN, ?_⟩
  · have hc : cmdOf ⟨#[116, 114, 117, 110, 99]⟩ theCmds = some ⟨⟨#[116, 114, 117, 110, 99]⟩, 1, 7, [32, 38], 0⟩ := by kernel_rfl
    unfold fieldsOf
    show (match cmdOf ⟨#[116, 114, 117, 110, 99]⟩ theCmds with | none => none | some c => _) = _
    rw [hc]
    show (if containsS ([⟨#[116, 114, 117, 110, 99]⟩, p, (dec z)] : List ByteArray) ⟨#[]⟩ = true then none else if 2 ≤ ([⟨#[116, 114, 117, 110, 99]⟩, p, (dec z)] : List ByteArray).tail.length ∧ (([⟨#[116, 114, 117, 110, 99]⟩, p, (dec z)] : List ByteArray).tail.length : Int) ≤ ((2 : Nat) : Int) + 0 then takeAll [32, 38] 0 [p, (dec z)] ⟨1, 7, ⟨#[]⟩, ⟨#[]⟩, 0, 0, 0, ⟨#[]⟩, []⟩ else none) = _
    rw [if_neg (not_empty hN), if_pos (by constructor <;> simp)]
    rw [takes2]
    simp only [tk_Path, tk_Size]
    rw [numF_dec hz hzs]
    rfl
  · intro x hx
    simp only [List.mem_cons, List.not_mem_nil, or_false] at hx
    rcases hx with rfl | rfl | rfl
    · decide
    · omega
    · have := dec_size z (by omega) (by omega); omega

theorem fields_read (p : ByteArray) (hp : Fld p) (hps : p.size ≤ 3000) (o : Int) (ho : -1000000000 < o) (hos : o < 1000000000) (z : Int) (hz : -1000000000 < z) (hzs : z < 1000000000) : fieldsOf ([⟨#[114, 101, 97, 100]⟩, p, (dec o), (dec z)] : List ByteArray) = some ⟨1, 17, p, ⟨#[]⟩, 0, o, z, ⟨#[]⟩, []⟩ ∧ (∀ y ∈ ([⟨#[114, 101, 97, 100]⟩, p, (dec o), (dec z)] : List ByteArray), NoB y) ∧ (∀ y ∈ ([⟨#[114, 101, 97, 100]⟩, p, (dec o), (dec z)] : List ByteArray), y.size ≤ 10000) := by
  have hN : ∀ y ∈ ([⟨#[114, 101, 97, 100]⟩, p, (dec o), (dec z)] : List ByteArray), NoB y := by
    intro x hx
    simp only [List.mem_cons, List.not_mem_nil, or_false] at hx
    rcases hx with rfl | rfl | rfl | rfl
    · exact ⟨by decide, by decide⟩
    · exact nob_fld hp
    · exact nob_dec o ho hos
    · exact nob_dec z hz hzs
  refine ⟨?_, hN, ?_⟩
  · have hc : cmdOf ⟨#[114, 101, 97, 100]⟩ theCmds = some ⟨⟨#[114, 101, 97, 100]⟩, 1, 17, [32, 35, 38], 0⟩ := by kernel_rfl
    unfold fieldsOf
    show (match cmdOf ⟨#[114, 101, 97, 100]⟩ theCmds with | none => none | some c => _) = _
    rw [hc]
    show (if containsS ([⟨#[114, 101, 97, 100]⟩, p, (dec o), (dec z)] : List ByteArray) ⟨#[]⟩ = true then none else if 3 ≤ ([⟨#[114, 101, 97, 100]⟩, p, (dec o), (dec z)] : List ByteArray).tail.length ∧ (([⟨#[114, 101, 97, 100]⟩, p, (dec o), (dec z)] : List ByteArray).tail.length : Int) ≤ ((3 : Nat) : Int) + 0 then takeAll [32, 35, 38] 0 [p, (dec o), (dec z)] ⟨1, 17, ⟨#[]⟩, ⟨#[]⟩, 0, 0, 0, ⟨#[]⟩, []⟩ else none) = _
    rw [if_neg (not_empty hN), if_pos (by constructor <;> simp)]
    rw [takes3]
    simp only [tk_Offset, tk_Path, tk_Size]
    rw [numF_dec ho hos, numF_dec hz hzs]
    rfl
  · intro x hx
    simp only [List.mem_cons, List.not_mem_nil, or_false] at hx
    rcases hx with rfl | rfl | rfl | rfl
    · decide
    · omega
    · have := dec_size o (by omega) (by omega); omega
    · have := dec_size z (by omega) (by omega); omega

theorem fields_close (h : Int) (hh : -1000000000 < h) (hhs : h < 1000000000) : fieldsOf ([⟨#[99, 108, 111, 115, 101]⟩, (dec h)] : List ByteArray) = some ⟨1, 13, ⟨#[]⟩, ⟨#[]⟩, h, 0, 0, ⟨#[]⟩, []⟩ ∧ (∀ y ∈ ([⟨#[99, 108, 111, 115, 101]⟩, (dec h)] : List ByteArray), NoB y) ∧ (∀ y ∈ ([⟨#[99, 108, 111, 115, 101]⟩, (dec h)] : List ByteArray), y.size ≤ 10000) := by
  have hN : ∀ y ∈ ([⟨#[99, 108, 111, 115, 101]⟩, (dec h)] : List ByteArray), NoB y := by
    intro x hx
    simp only [List.mem_cons, List.not_mem_nil, or_false] at hx
    rcases hx with rfl | rfl
    · exact ⟨by decide, by decide⟩
    · exact nob_dec h hh hhs
  refine ⟨?_, hN, ?_⟩
  · have hc : cmdOf ⟨#[99, 108, 111, 115, 101]⟩ theCmds = some ⟨⟨#[99, 108, 111, 115, 101]⟩, 1, 13, [39], 0⟩ := by kernel_rfl
    unfold fieldsOf
    show (match cmdOf ⟨#[99, 108, 111, 115, 101]⟩ theCmds with | none => none | some c => _) = _
    rw [hc]
    show (if containsS ([⟨#[99, 108, 111, 115, 101]⟩, (dec h)] : List ByteArray) ⟨#[]⟩ = true then none else if 1 ≤ ([⟨#[99, 108, 111, 115, 101]⟩, (dec h)] : List ByteArray).tail.length ∧ (([⟨#[99, 108, 111, 115, 101]⟩, (dec h)] : List ByteArray).tail.length : Int) ≤ ((1 : Nat) : Int) + 0 then takeAll [39] 0 [(dec h)] ⟨1, 13, ⟨#[]⟩, ⟨#[]⟩, 0, 0, 0, ⟨#[]⟩, []⟩ else none) = _
    rw [if_neg (not_empty hN), if_pos (by constructor <;> simp)]
    rw [takes1]
    simp only [tk_Handle]
    rw [numF_dec hh hhs]
    rfl
  · intro x hx
    simp only [List.mem_cons, List.not_mem_nil, or_false] at hx
    rcases hx with rfl | rfl
    · decide
    · have := dec_size h (by omega) (by omega); omega

theorem fields_fstat (h : Int) (hh : -1000000000 < h) (hhs : h < 1000000000) : fieldsOf ([⟨#[102, 115, 116, 97, 116]⟩, (dec h)] : List ByteArray) = some ⟨1, 16, ⟨#[]⟩, ⟨#[]⟩, h, 0, 0, ⟨#[]⟩, []⟩ ∧ (∀ y ∈ ([⟨#[102, 115, 116, 97, 116]⟩, (dec h)] : List ByteArray), NoB y) ∧ (∀ y ∈ ([⟨#[102, 115, 116, 97, 116]⟩, (dec h)] : List ByteArray), y.size ≤ 10000) := by
  have hN : ∀ y ∈ ([⟨#[102, 115, 116, 97, 116]⟩, (dec h)] : List ByteArray), NoB y := by
    intro x hx
    simp only [List.mem_cons, List.not_mem_nil, or_false] at hx
    rcases hx with rfl | rfl
    · exact ⟨by decide, by decide⟩
    · exact nob_dec h hh hhs
  refine ⟨?_, hN, ?_⟩
  · have hc : cmdOf ⟨#[102, 115, 116, 97, 116]⟩ theCmds = some ⟨⟨#[102, 115, 116, 97, 116]⟩, 1, 16, [39], 0⟩ := by kernel_rfl
    unfold fieldsOf
    show (match cmdOf ⟨#[102, 115, 116, 97, 116]⟩ theCmds with | none => none | some c => _) = _
    rw [hc]
    show (if containsS ([⟨#[102, 115, 116, 97, 116]⟩, (dec h)] : List ByteArray) ⟨#[]⟩ = true then none else if 1 ≤ ([⟨#[102, 115, 116, 97, 116]⟩, (dec h)] : List ByteArray).tail.length ∧ (([⟨#[102, 115, 116, 97, 116]⟩, (dec h)] : List ByteArray).tail.length : Int) ≤ ((1 : Nat) : Int) + 0 then takeAll [39] 0 [(dec h)] ⟨1, 16, ⟨#[]⟩, ⟨#[]⟩, 0, 0, 0, ⟨#[]⟩, []⟩ else none) = _
    rw [if_neg (not_empty hN), if_pos (by constructor <;> simp)]
    rw [takes1]
    simp only [tk_Handle]
    rw [numF_dec hh hhs]
    rfl
  · intro x hx
    simp only [List.mem_cons, List.not_mem_nil, or_false] at hx
    rcases hx with rfl | rfl
    · decide
    · have := dec_size h (by omega) (by omega); omega

theorem fields_ftrunc (h : Int) (hh : -1000000000 < h) (hhs : h < 1000000000) (z : Int) (hz : -1000000000 < z) (hzs : z < 1000000000) : fieldsOf ([⟨#[102, 116, 114, 117, 110, 99]⟩, (dec h), (dec z)] : List ByteArray) = some ⟨1, 12, ⟨#[]⟩, ⟨#[]⟩, h, 0, z, ⟨#[]⟩, []⟩ ∧ (∀ y ∈ ([⟨#[102, 116, 114, 117, 110, 99]⟩, (dec h), (dec z)] : List ByteArray), NoB y) ∧ (∀ y ∈ ([⟨#[102, 116, 114, 117, 110, 99]⟩, (dec h), (dec z)] : List ByteArray), y.size ≤ 10000) := by
  have hN : ∀ y ∈ ([⟨#[102, 116, 114, 117, 110, 99]⟩, (dec h), (dec z)] : List ByteArray), NoB y := by
    intro x hx
    simp only [List.mem_cons, List.not_mem_nil, or_false] at hx
    rcases hx with rfl | rfl | rfl
    · exact ⟨by decide, by decide⟩
    · exact nob_dec h hh hhs
    · exact nob_dec z hz hzs
  refine ⟨?_, hN, ?_⟩
  · have hc : cmdOf ⟨#[102, 116, 114, 117, 110, 99]⟩ theCmds = some ⟨⟨#[102, 116, 114, 117, 110, 99]⟩, 1, 12, [39, 38], 0⟩ := by kernel_rfl
    unfold fieldsOf
    show (match cmdOf ⟨#[102, 116, 114, 117, 110, 99]⟩ theCmds with | none => none | some c => _) = _
    rw [hc]
    show (if containsS ([⟨#[102, 116, 114, 117, 110, 99]⟩, (dec h), (dec z)] : List ByteArray) ⟨#[]⟩ = true then none else if 2 ≤ ([⟨#[102, 116, 114, 117, 110, 99]⟩, (dec h), (dec z)] : List ByteArray).tail.length ∧ (([⟨#[102, 116, 114, 117, 110, 99]⟩, (dec h), (dec z)] : List ByteArray).tail.length : Int) ≤ ((2 : Nat) : Int) + 0 then takeAll [39, 38] 0 [(dec h), (dec z)] ⟨1, 12, ⟨#[]⟩, ⟨#[]⟩, 0, 0, 0, ⟨#[]⟩, []⟩ else none) = _
    rw [if_neg (not_empty hN), if_pos (by constructor <;> simp)]
    rw [takes2]
    simp only [tk_Handle, tk_Size]
    rw [numF_dec hh hhs, numF_dec hz hzs]
    rfl
  · intro x hx
    simp only [List.mem_cons, List.not_mem_nil, or_false] at hx
    rcases hx with rfl | rfl | rfl
    · decide
    · have := dec_size h (by omega) (by omega); omega
    · have := dec_size z (by omega) (by omega); omega

theorem fields_pread (h : Int) (hh : -1000000000 < h) (hhs : h < 1000000000) (o : Int) (ho : -1000000000 < o) (hos : o < 1000000000) (z : Int) (hz : -1000000000 < z) (hzs : z < 1000000000) : fieldsOf ([⟨#[112, 114, 101, 97, 100]⟩, (dec h), (dec o), (dec z)] : List ByteArray) = some ⟨1, 15, ⟨#[]⟩, ⟨#[]⟩, h, o, z, ⟨#[]⟩, []⟩ ∧ (∀ y ∈ ([⟨#[112, 114, 101, 97, 100]⟩, (dec h), (dec o), (dec z)] : List ByteArray), NoB y) ∧ (∀ y ∈ ([⟨#[112, 114, 101, 97, 100]⟩, (dec h), (dec o), (dec z)] : List ByteArray), y.size ≤ 10000) := by
  have hN : ∀ y ∈ ([⟨#[112, 114, 101, 97, 100]⟩, (dec h), (dec o), (dec z)] : List ByteArray), NoB y := by
    intro x hx
    simp only [List.mem_cons, List.not_mem_nil, or_false] at hx
    rcases hx with rfl | rfl | rfl | rfl
    · exact ⟨by decide, by decide⟩
    · exact nob_dec h hh hhs
    · exact nob_dec o ho hos
    · exact nob_dec z hz hzs
  refine ⟨?_, hN, ?_⟩
  · have hc : cmdOf ⟨#[112, 114, 101, 97, 100]⟩ theCmds = some ⟨⟨#[112, 114, 101, 97, 100]⟩, 1, 15, [39, 35, 38], 0⟩ := by kernel_rfl
    unfold fieldsOf
    show (match cmdOf ⟨#[112, 114, 101, 97, 100]⟩ theCmds with | none => none | some c => _) = _
    rw [hc]
    show (if containsS ([⟨#[112, 114, 101, 97, 100]⟩, (dec h), (dec o), (dec z)] : List ByteArray) ⟨#[]⟩ = true then none else if 3 ≤ ([⟨#[112, 114, 101, 97, 100]⟩, (dec h), (dec o), (dec z)] : List ByteArray).tail.length ∧ (([⟨#[112, 114, 101, 97, 100]⟩, (dec h), (dec o), (dec z)] : List ByteArray).tail.length : Int) ≤ ((3 : Nat) : Int) + 0 then takeAll [39, 35, 38] 0 [(dec h), (dec o), (dec z)] ⟨1, 15, ⟨#[]⟩, ⟨#[]⟩, 0, 0, 0, ⟨#[]⟩, []⟩ else none) = _
    rw [if_neg (not_empty hN), if_pos (by constructor <;> simp)]
    rw [takes3]
    simp only [tk_Handle, tk_Offset, tk_Size]
    rw [numF_dec hh hhs, numF_dec ho hos, numF_dec hz hzs]
    rfl
  · intro x hx
    simp only [List.mem_cons, List.not_mem_nil, or_false] at hx
    rcases hx with rfl | rfl | rfl | rfl
    · decide
    · have := dec_size h (by omega) (by omega); omega
    · have := dec_size o (by omega) (by omega); omega
    · have := dec_size z (by omega) (by omega); omega

theorem fields_pwrite (h : Int) (hh : -1000000000 < h) (hhs : h < 1000000000) (o : Int) (ho : -1000000000 < o) (hos : o < 1000000000) (d : ByteArray) (hds : d.size ≤ 3000) : fieldsOf ([⟨#[112, 119, 114, 105, 116, 101]⟩, (dec h), (dec o), (quoV d)] : List ByteArray) = some ⟨1, 11, ⟨#[]⟩, ⟨#[]⟩, h, o, 0, d, []⟩ ∧ (∀ y ∈ ([⟨#[112, 119, 114, 105, 116, 101]⟩, (dec h), (dec o), (quoV d)] : List ByteArray), NoB y) ∧ (∀ y ∈ ([⟨#[112, 119, 114, 105, 116, 101]⟩, (dec h), (dec o), (quoV d)] : List ByteArray), y.size ≤ 10000) := by
  have hN : ∀ y ∈ ([⟨#[112, 119, 114, 105, 116, 101]⟩, (dec h), (dec o), (quoV d)] : List ByteArray), NoB y := by
    intro x hx
    simp only [List.mem_cons, List.not_mem_nil, or_false] at hx
    rcases hx with rfl | rfl | rfl | rfl
    · exact ⟨by decide, by decide⟩
    · exact nob_dec h hh hhs
    · exact nob_dec o ho hos
    · exact nob_quo hds
  refine ⟨?_, hN, ?_⟩
  · have hc : cmdOf ⟨#[112, 119, 114, 105, 116, 101]⟩ theCmds = some ⟨⟨#[112, 119, 114, 105, 116, 101]⟩, 1, 11, [39, 35, 34], 0⟩ := by kernel_rfl
    unfold fieldsOf
    show (match cmdOf ⟨#[112, 119, 114, 105, 116, 101]⟩ theCmds with | none => none | some c => _) = _
    rw [hc]
    show (if containsS ([⟨#[112, 119, 114, 105, 116, 101]⟩, (dec h), (dec o), (quoV d)] : List ByteArray) ⟨#[]⟩ = true then none else if 3 ≤ ([⟨#[112, 119, 114, 105, 116, 101]⟩, (dec h), (dec o), (quoV d)] : List ByteArray).tail.length ∧ (([⟨#[112, 119, 114, 105, 116, 101]⟩, (dec h), (dec o), (quoV d)] : List ByteArray).tail.length : Int) ≤ ((3 : Nat) : Int) + 0 then takeAll [39, 35, 34] 0 [(dec h), (dec o), (quoV d)] ⟨1, 11, ⟨#[]⟩, ⟨#[]⟩, 0, 0, 0, ⟨#[]⟩, []⟩ else none) = _
    rw [if_neg (not_empty hN), if_pos (by constructor <;> simp)]
    rw [takes3]
    simp only [tk_Data, tk_Handle, tk_Offset]
    rw [numF_dec hh hhs, numF_dec ho hos, unqD_quo hds]
    rfl
  · intro x hx
    simp only [List.mem_cons, List.not_mem_nil, or_false] at hx
    rcases hx with rfl | rfl | rfl | rfl
    · decide
    · have := dec_size h (by omega) (by omega); omega
    · have := dec_size o (by omega) (by omega); omega
    · have := quoV_bounds hds; omega

theorem good_fields {d : Lst} {F : List ByteArray} (h : GoodC d F) : fieldsOf F = some { d with kind := 1 } ∧ (∀ t ∈ F, NoB t) ∧ (∀ t ∈ F, t.size ≤ 10000) ∧ F ≠ [] ∧ F.length ≤ 4 := by
  refine GoodC.el (P := fun d F => fieldsOf F = some { d with kind := 1 } ∧ (∀ t ∈ F, NoB t) ∧ (∀ t ∈ F, t.size ≤ 10000) ∧ F ≠ [] ∧ F.length ≤ 4) h ?sync' ?checkpoint' ?space' ?log' ?create' ?mkdir' ?unlink' ?rmdir' ?open' ?stat' ?lstat' ?list' ?readlink' ?rename' ?link' ?symlink' ?append' ?write' ?trunc' ?read' ?close' ?fstat' ?ftrunc' ?pread' ?pwrite'
  case sync' => obtain ⟨h1, h2, h3⟩ := fields_sync ; exact ⟨h1, h2, h3, by simp, by simp⟩
  case checkpoint' => obtain ⟨h1, h2, h3⟩ := fields_checkpoint ; exact ⟨h1, h2, h3, by simp, by simp⟩
  case space' => obtain ⟨h1, h2, h3⟩ := fields_space ; exact ⟨h1, h2, h3, by simp, by simp⟩
  case log' => obtain ⟨h1, h2, h3⟩ := fields_log ; exact ⟨h1, h2, h3, by simp, by simp⟩
  case create' => intro p hp hps; obtain ⟨h1, h2, h3⟩ := fields_create p hp hps; exact ⟨h1, h2, h3, by simp, by simp⟩
  case mkdir' => intro p hp hps; obtain ⟨h1, h2, h3⟩ := fields_mkdir p hp hps; exact ⟨h1, h2, h3, by simp, by simp⟩
  case unlink' => intro p hp hps; obtain ⟨h1, h2, h3⟩ := fields_unlink p hp hps; exact ⟨h1, h2, h3, by simp, by simp⟩
  case rmdir' => intro p hp hps; obtain ⟨h1, h2, h3⟩ := fields_rmdir p hp hps; exact ⟨h1, h2, h3, by simp, by simp⟩
  case open' => intro p hp hps; obtain ⟨h1, h2, h3⟩ := fields_open p hp hps; exact ⟨h1, h2, h3, by simp, by simp⟩
  case stat' => intro p hp hps; obtain ⟨h1, h2, h3⟩ := fields_stat p hp hps; exact ⟨h1, h2, h3, by simp, by simp⟩
  case lstat' => intro p hp hps; obtain ⟨h1, h2, h3⟩ := fields_lstat p hp hps; exact ⟨h1, h2, h3, by simp, by simp⟩
  case list' => intro p hp hps; obtain ⟨h1, h2, h3⟩ := fields_list p hp hps; exact ⟨h1, h2, h3, by simp, by simp⟩
  case readlink' => intro p hp hps; obtain ⟨h1, h2, h3⟩ := fields_readlink p hp hps; exact ⟨h1, h2, h3, by simp, by simp⟩
  case rename' => intro p hp hps t ht hts; obtain ⟨h1, h2, h3⟩ := fields_rename p hp hps t ht hts; exact ⟨h1, h2, h3, by simp, by simp⟩
  case link' => intro p hp hps t ht hts; obtain ⟨h1, h2, h3⟩ := fields_link p hp hps t ht hts; exact ⟨h1, h2, h3, by simp, by simp⟩
  case symlink' => intro p hp hps t ht hts; obtain ⟨h1, h2, h3⟩ := fields_symlink p hp hps t ht hts; exact ⟨h1, h2, h3, by simp, by simp⟩
  case append' => intro p hp hps d hds; obtain ⟨h1, h2, h3⟩ := fields_append p hp hps d hds; exact ⟨h1, h2, h3, by simp, by simp⟩
  case write' => intro p hp hps o ho hos d hds; obtain ⟨h1, h2, h3⟩ := fields_write p hp hps o ho hos d hds; exact ⟨h1, h2, h3, by simp, by simp⟩
  case trunc' => intro p hp hps z hz hzs; obtain ⟨h1, h2, h3⟩ := fields_trunc p hp hps z hz hzs; exact ⟨h1, h2, h3, by simp, by simp⟩
  case read' => intro p hp hps o ho hos z hz hzs; obtain ⟨h1, h2, h3⟩ := fields_read p hp hps o ho hos z hz hzs; exact ⟨h1, h2, h3, by simp, by simp⟩
  case close' => intro h hh hhs; obtain ⟨h1, h2, h3⟩ := fields_close h hh hhs; exact ⟨h1, h2, h3, by simp, by simp⟩
  case fstat' => intro h hh hhs; obtain ⟨h1, h2, h3⟩ := fields_fstat h hh hhs; exact ⟨h1, h2, h3, by simp, by simp⟩
  case ftrunc' => intro h hh hhs z hz hzs; obtain ⟨h1, h2, h3⟩ := fields_ftrunc h hh hhs z hz hzs; exact ⟨h1, h2, h3, by simp, by simp⟩
  case pread' => intro h hh hhs o ho hos z hz hzs; obtain ⟨h1, h2, h3⟩ := fields_pread h hh hhs o ho hos z hz hzs; exact ⟨h1, h2, h3, by simp, by simp⟩
  case pwrite' => intro h hh hhs o ho hos d hds; obtain ⟨h1, h2, h3⟩ := fields_pwrite h hh hhs o ho hos d hds; exact ⟨h1, h2, h3, by simp, by simp⟩

theorem good_line {d : Lst} {F : List ByteArray} (h : GoodC d F) : lineOf (J F) = some { d with kind := 1 } := by
  obtain ⟨h1, h2, h3, h4, h5⟩ := good_fields h
  have hz := J_size F h3
  unfold lineOf
  rw [if_neg (by omega), cut_J h4 h2, h1]
theorem bad_cut {s : ByteArray} (h : ⟨#[]⟩ ∈ cutD s 32) : lineOf s = none := by
  unfold lineOf
  split
  · rfl
  · unfold fieldsOf
    split
    · rfl
    · rw [if_pos ((containsS_iff _ _).2 h)]
theorem mem_cut {s : ByteArray} (h : ([] : List UInt8) ∈ cutL [] s.data.toList) : ⟨#[]⟩ ∈ cutD s 32 := by
  rw [← cut_map] at h
  obtain ⟨t, ht, e⟩ := List.mem_map.1 h
  have : t = ⟨#[]⟩ := by apply ByteArray.ext; exact Array.toList_inj.1 e
  rw [← this]; exact ht
theorem cutL_end : ∀ (l acc : List UInt8), ([] : List UInt8) ∈ cutL acc (l ++ [32])
  | [], acc => by show [] ∈ cutL acc [32]; rw [cutL_cons, if_pos rfl]; show [] ∈ [acc, []]; simp
  | c :: r, acc => by
    show [] ∈ cutL acc (c :: (r ++ [32]))
    rw [cutL_cons]
    split
    · exact List.mem_cons_of_mem _ (cutL_end r [])
    · exact cutL_end r _
theorem bad_behind (s : ByteArray) : lineOf (s ++ ⟨#[32]⟩) = none := bad_cut (mem_cut (by
  have e : (s ++ ⟨#[32]⟩).data.toList = s.data.toList ++ [32] := by simp [ByteArray.data_append]
  rw [e]; exact cutL_end _ _))
theorem bad_ahead (s : ByteArray) : lineOf (⟨#[32]⟩ ++ s) = none := bad_cut (mem_cut (by
  have e : ((⟨#[32]⟩ : ByteArray) ++ s).data.toList = 32 :: s.data.toList := by simp [ByteArray.data_append]
  rw [e, cutL_cons, if_pos rfl]; exact List.mem_cons_self ..))
theorem arm_line (n : Int) (h0 : 1 ≤ n) (h1 : n ≤ 99) : lineOf (J [⟨#[97, 114, 109]⟩, dec n, dec 0, dec (-n)]) = some ⟨4, 0, ⟨#[]⟩, ⟨#[]⟩, 0, 0, 0, ⟨#[]⟩, [n, 0, -n]⟩ := by
  have hN : ∀ t ∈ [⟨#[97, 114, 109]⟩, dec n, dec 0, dec (-n)], NoB t := by
    intro x hx
    simp only [List.mem_cons, List.not_mem_nil, or_false] at hx
    rcases hx with rfl | rfl | rfl | rfl
    · exact ⟨by decide, by decide⟩
    · exact nob_dec n (by omega) (by omega)
    · exact nob_dec 0 (by omega) (by omega)
    · exact nob_dec (-n) (by omega) (by omega)
  have hz := J_size [⟨#[97, 114, 109]⟩, dec n, dec 0, dec (-n)] (by
    intro x hx
    simp only [List.mem_cons, List.not_mem_nil, or_false] at hx
    rcases hx with rfl | rfl | rfl | rfl
    · decide
    · have := dec_size n (by omega) (by omega); omega
    · have := dec_size 0 (by omega) (by omega); omega
    · have := dec_size (-n) (by omega) (by omega); omega)
  unfold lineOf
  rw [if_neg (by simp at hz; omega), cut_J (by simp) hN, fields_eq _ (by simp)]
  have ha : armF [⟨#[97, 114, 109]⟩, dec n, dec 0, dec (-n)] = some ⟨4, 0, ⟨#[]⟩, ⟨#[]⟩, 0, 0, 0, ⟨#[]⟩, [n, 0, -n]⟩ := by
    have hg : numsG [] (List.drop 1 [⟨#[97, 114, 109]⟩, dec n, dec 0, dec (-n)]) = ([n, 0, -n], true) := by
      show numsG [] [dec n, dec 0, dec (-n)] = _
      unfold numsG; rw [numF_dec (n := n) (by omega) (by omega)]
      show numsG [n] [dec 0, dec (-n)] = _
      unfold numsG; rw [numF_dec (n := 0) (by omega) (by omega)]
      show numsG [n, 0] [dec (-n)] = _
      unfold numsG; rw [numF_dec (n := -n) (by omega) (by omega)]
      rfl
    unfold armF
    rw [hg]
    exact if_pos ⟨rfl, by simp, by simp, h0⟩
  have hne : ¬ ([⟨#[97, 114, 109]⟩, dec n, dec 0, dec (-n)] : List ByteArray).getD 0 noText = ⟨#[99, 114, 97, 115, 104]⟩ := by show ¬ (⟨#[97, 114, 109]⟩ : ByteArray) = ⟨#[99, 114, 97, 115, 104]⟩; decide
  have hye : ([⟨#[97, 114, 109]⟩, dec n, dec 0, dec (-n)] : List ByteArray).getD 0 noText = ⟨#[97, 114, 109]⟩ := rfl
  unfold modelF
  rw [if_neg (not_empty hN), if_neg (fun h => absurd h.1 (by simp)), if_neg (fun h => absurd h.1 (by simp)), if_neg (fun h => absurd h.1 (by simp)), if_neg (fun h => absurd h.1 (by simp)), if_neg (fun h => absurd h.1 (by simp)), if_neg hne, if_pos hye, ha]

end Go.Proofs.YtacfkgfemmgpkaaGreatDoor
