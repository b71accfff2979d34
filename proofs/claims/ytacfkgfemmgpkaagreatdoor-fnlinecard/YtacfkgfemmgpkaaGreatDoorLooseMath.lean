/- Several short texts in one: UnqSpec, QuoteMath, LooseMath. -/
import Derived.Test.YtacfkgfemmgpkaaGreatDoorQuoteSpec
import Derived.Test.YtacfkgfemmgpkaaGreatDoorNumImpl
namespace Go.Proofs.YtacfkgfemmgpkaaGreatDoor
open Go.RowKit Go.Lib

/-- A digit's value, or -1. -/
def digC (c : Nat) : Int := if 48 ≤ c ∧ c ≤ 57 then (c : Int) - 48 else if 97 ≤ c ∧ c ≤ 102 then (c : Int) - 87 else -1
theorem digC_hex {v : Nat} (h : v < 16) : digC (hexC v) = (v : Int) := by unfold digC hexC; split <;> (split <;> (try split) <;> omega)
theorem digC_none {c : Nat} (h : ∀ v, v < 16 → hexC v ≠ c) : digC c = -1 := by
  unfold digC
  by_cases h1 : 48 ≤ c ∧ c ≤ 57
  · exact absurd (show hexC (c - 48) = c by unfold hexC; rw [if_pos (by omega)]; omega) (h (c - 48) (by omega))
  · rw [if_neg h1]
    by_cases h2 : 97 ≤ c ∧ c ≤ 102
    · exact absurd (show hexC (c - 87) = c by unfold hexC; rw [if_neg (by omega)]; omega) (h (c - 87) (by omega))
    · rw [if_neg h2]
theorem digC_range (c : Nat) : -1 ≤ digC c ∧ digC c ≤ 15 := by unfold digC; split <;> (try split) <;> omega

/-- What is unquoted from k on. -/
def unqF (s : ByteArray) : Nat → Nat → List Int → Option (List Int)
  | 0, _, _ => none
  | f + 1, k, acc =>
    if s.size ≤ k then some acc
    else if plainC (chr s k) = true then unqF s f (k + 1) (acc ++ [(chr s k : Int)])
    else if chr s k ≠ 37 ∨ s.size ≤ k + 2 then none
    else if digC (chr s (k + 1)) < 0 ∨ digC (chr s (k + 2)) < 0 ∨ plainC (digC (chr s (k + 1)) * 16 + digC (chr s (k + 2))).toNat = true then none
    else unqF s f (k + 3) (acc ++ [digC (chr s (k + 1)) * 16 + digC (chr s (k + 2))])
def unqR (s : ByteArray) : Option (List Int) := if s.toList = [37] then some [] else
  match unqF s (s.size + 1) 0 [] with
  | none => none
  | some acc => if acc.length = 0 ∨ 65536 < acc.length then none else some acc
abbrev unqO (g : Bool) (d : ByteArray) : Value := .agg #[.bool g, .string d]
def unqV (s : ByteArray) : Value := match unqR s with
  | none => unqO false ⟨#[]⟩
  | some acc => unqO true (strOfNums acc)

end Go.Proofs.YtacfkgfemmgpkaaGreatDoor

namespace Go.Proofs.YtacfkgfemmgpkaaGreatDoor
open Go.RowKit Go.Lib

/-- A text's bytes; bytes quoted. -/
def bytN (s : ByteArray) : List Nat := (List.range s.size).map fun i => chr s i
def quoN (xs : List Nat) : List Int := (xs.map quo1).flatten
theorem bytN_len (s : ByteArray) : (bytN s).length = s.size := by unfold bytN; simp
theorem quoL_all (s : ByteArray) : quoL s s.size = quoN (bytN s) := by unfold quoL quoN bytN; rw [List.map_map]; rfl
theorem quoN_app (xs ys : List Nat) : quoN (xs ++ ys) = quoN xs ++ quoN ys := by unfold quoN; rw [List.map_append, List.flatten_append]
theorem quoN_cons (x : Nat) (xs : List Nat) : quoN (x :: xs) = quo1 x ++ quoN xs := by unfold quoN; simp
theorem bytN_lt (s : ByteArray) : ∀ x ∈ bytN s, x < 256 := fun x hx => by
  unfold bytN at hx
  obtain ⟨i, _, rfl⟩ := List.mem_map.1 hx
  exact chr_256 s i
theorem hexC_set (v : Nat) (h : v < 16) : 33 ≤ hexC v ∧ hexC v ≤ 126 := by unfold hexC; split <;> omega
theorem quo1_set {x : Nat} (h : x < 256) : ∀ y ∈ quo1 x, 33 ≤ y ∧ y ≤ 126 := by
  intro y hy
  unfold quo1 at hy
  split at hy
  · rename_i hp
    unfold plainC at hp
    rw [decide_eq_true_eq] at hp
    simp at hy
    omega
  · have h1 := hexC_set (x / 16) (by omega)
    have h2 := hexC_set (x % 16) (by omega)
    simp at hy
    omega
theorem quoN_set {xs : List Nat} (h : ∀ x ∈ xs, x < 256) : ∀ y ∈ quoN xs, 33 ≤ y ∧ y ≤ 126 := by
  intro y hy
  unfold quoN at hy
  obtain ⟨l, hl, hy'⟩ := List.mem_flatten.1 hy
  obtain ⟨x, hx, rfl⟩ := List.mem_map.1 hl
  exact quo1_set (h x hx) y hy'

theorem chr_nums {xs : List Int} (h : ∀ y ∈ xs, 0 ≤ y ∧ y < 256) {i : Nat} {y : Int} (hi : xs[i]? = some y) : (chr (strOfNums xs) i : Int) = y := by
  have hlt : i < xs.length := (List.getElem?_eq_some_iff.1 hi).1
  have hsz : (strOfNums xs).size = xs.length := strOfNums_size xs
  obtain ⟨_, hy⟩ := List.getElem?_eq_some_iff.1 hi
  have hr := h y (by rw [← hy]; exact List.getElem_mem hlt)
  rw [chr_lt (by omega)]
  have e : (strOfNums xs)[i]'(by omega) = UInt8.ofNat y.toNat := by
    show (strOfNums xs).data[i]'(by rw [← hy] at *; simpa [strOfNums] using hlt) = _
    simp [strOfNums, hy]
  rw [e, UInt8.toNat_ofNat']
  omega

theorem plain37 : plainC 37 = false := by decide

/-- Quoted, they come back. -/
theorem unq_quo (xs : List Nat) (hb : ∀ x ∈ xs, x < 256) : ∀ (post pre : List Nat) (acc : List Int) (f : Nat), xs = pre ++ post → post.length + 1 ≤ f →
    unqF (strOfNums (quoN xs)) f (quoN pre).length acc = some (acc ++ post.map fun (x : Nat) => (x : Int)) := by
  have hset : ∀ y ∈ quoN xs, 0 ≤ y ∧ y < 256 := fun y hy => by have := quoN_set hb y hy; omega
  have hsz : (strOfNums (quoN xs)).size = (quoN xs).length := strOfNums_size _
  intro post
  induction post with
  | nil =>
    intro pre acc f hx hf
    obtain ⟨f', rfl⟩ : ∃ f', f = f' + 1 := ⟨f - 1, by simp at hf; omega⟩
    rw [unqF, if_pos (by rw [hsz, hx, List.append_nil]; exact Nat.le_refl _)]
    simp
  | cons x post ih =>
    intro pre acc f hx hf
    obtain ⟨f', rfl⟩ : ∃ f', f = f' + 1 := ⟨f - 1, by simp at hf; omega⟩
    have hq : quoN xs = quoN pre ++ (quo1 x ++ quoN post) := by rw [hx, quoN_app, quoN_cons]
    have hx256 : x < 256 := hb x (by rw [hx]; simp)
    have hat : ∀ j y, (quo1 x)[j]? = some y → (chr (strOfNums (quoN xs)) ((quoN pre).length + j) : Int) = y := fun j y hj => by
      refine chr_nums hset ?_
      rw [hq, List.getElem?_append_right (by omega), Nat.add_sub_cancel_left, List.getElem?_append_left (List.getElem?_eq_some_iff.1 hj).1]
      exact hj
    have hlen : (quoN xs).length = (quoN pre).length + ((quo1 x).length + (quoN post).length) := by rw [hq, List.length_append, List.length_append]
    have hnext := ih (pre ++ [x]) (acc ++ [(x : Int)]) f' (by rw [hx]; simp) (by simp at hf ⊢; omega)
    rw [quoN_app, List.length_append] at hnext
    have hone : quoN [x] = quo1 x := by rw [quoN_cons]; simp [quoN]
    rw [hone] at hnext
    by_cases hp : plainC x = true
    · have h1 : quo1 x = [(x : Int)] := by unfold quo1; rw [if_pos hp]
      rw [h1] at hat hlen hnext
      have hc := hat 0 _ rfl
      rw [Nat.add_zero] at hc
      have hc' : chr (strOfNums (quoN xs)) (quoN pre).length = x := by omega
      rw [unqF, if_neg (by rw [hsz, hlen]; simp; omega), hc', if_pos hp]
      simp only [List.length_cons, List.length_nil] at hnext
      rw [hnext]
      simp
    · have h1 : quo1 x = [37, (hexC (x / 16) : Int), (hexC (x % 16) : Int)] := by unfold quo1; rw [if_neg hp]
      rw [h1] at hat hlen hnext
      have hc0 := hat 0 _ rfl
      have hc1 := hat 1 _ rfl
      have hc2 := hat 2 _ rfl
      rw [Nat.add_zero] at hc0
      have e0 : chr (strOfNums (quoN xs)) (quoN pre).length = 37 := by omega
      have e1 : chr (strOfNums (quoN xs)) ((quoN pre).length + 1) = hexC (x / 16) := by omega
      have e2 : chr (strOfNums (quoN xs)) ((quoN pre).length + 2) = hexC (x % 16) := by omega
      simp only [List.length_cons, List.length_nil] at hlen hnext
      rw [unqF, if_neg (by rw [hsz, hlen]; omega), e0, if_neg (by rw [plain37]; simp), if_neg (by rw [hsz, hlen]; omega), e1, e2, digC_hex (by omega), digC_hex (by omega)]
      have ex : (((x / 16 : Nat) : Int) * 16 + ((x % 16 : Nat) : Int)) = (x : Int) := by omega
      rw [ex, Int.toNat_natCast, if_neg (by rw [Bool.not_eq_true] at hp; rw [hp]; simp; omega), hnext]
      simp

theorem hexC_dig {c : Nat} (h : 0 ≤ digC c) : hexC (digC c).toNat = c ∧ (digC c).toNat < 16 := by
  unfold digC at h ⊢
  by_cases h1 : 48 ≤ c ∧ c ≤ 57
  · rw [if_pos h1]; unfold hexC; rw [if_pos (by omega)]; omega
  · rw [if_neg h1] at h ⊢
    by_cases h2 : 97 ≤ c ∧ c ≤ 102
    · rw [if_pos h2]; unfold hexC; rw [if_neg (by omega)]; omega
    · rw [if_neg h2] at h; omega

theorem bytN_drop {s : ByteArray} {k : Nat} (h : k < s.size) : (bytN s).drop k = chr s k :: (bytN s).drop (k + 1) := by
  rw [List.drop_eq_getElem_cons (by rw [bytN_len]; exact h)]
  simp [bytN]

/-- What is unquoted is quoted as it stood. -/
theorem quo_unq (s : ByteArray) : ∀ (f k : Nat) (acc res : List Int), k ≤ s.size → unqF s f k acc = some res →
    ∃ ys : List Nat, (∀ y ∈ ys, y < 256) ∧ res = acc ++ (ys.map fun (y : Nat) => (y : Int)) ∧ quoN ys = ((bytN s).drop k).map fun (y : Nat) => (y : Int) := by
  intro f
  induction f with
  | zero => intro k acc res _ h; rw [unqF] at h; cases h
  | succ f ih =>
    intro k acc res hk h
    rw [unqF] at h
    by_cases hsz : s.size ≤ k
    · rw [if_pos hsz] at h
      injection h with h
      exact ⟨[], by simp, by simp [h], by rw [List.drop_of_length_le (by rw [bytN_len]; exact hsz)]; rfl⟩
    rw [if_neg hsz] at h
    have hd := bytN_drop (s := s) (k := k) (by omega)
    by_cases hp : plainC (chr s k) = true
    · rw [if_pos hp] at h
      obtain ⟨ys, h1, h2, h3⟩ := ih (k + 1) _ res (by omega) h
      refine ⟨chr s k :: ys, fun y hy => ?_, by rw [h2]; simp, ?_⟩
      · rcases List.mem_cons.1 hy with rfl | hy
        · exact chr_256 s k
        · exact h1 y hy
      · rw [quoN_cons, h3, hd]
        have : quo1 (chr s k) = [(chr s k : Int)] := by unfold quo1; rw [if_pos hp]
        rw [this]; simp
    rw [if_neg hp] at h
    by_cases hc : chr s k ≠ 37 ∨ s.size ≤ k + 2
    · rw [if_pos hc] at h; cases h
    rw [if_neg hc] at h
    by_cases hq : digC (chr s (k + 1)) < 0 ∨ digC (chr s (k + 2)) < 0 ∨ plainC (digC (chr s (k + 1)) * 16 + digC (chr s (k + 2))).toNat = true
    · rw [if_pos hq] at h; cases h
    rw [if_neg hq] at h
    have q1 : 0 ≤ digC (chr s (k + 1)) := by rcases Int.lt_or_le (digC (chr s (k + 1))) 0 with h' | h'; exact absurd (Or.inl h') hq; exact h'
    have q2 : 0 ≤ digC (chr s (k + 2)) := by rcases Int.lt_or_le (digC (chr s (k + 2))) 0 with h' | h'; exact absurd (Or.inr (Or.inl h')) hq; exact h'
    obtain ⟨e1, l1⟩ := hexC_dig q1
    obtain ⟨e2, l2⟩ := hexC_dig q2
    have hd1 := bytN_drop (s := s) (k := k + 1) (by omega)
    have hd2 := bytN_drop (s := s) (k := k + 2) (by omega)
    obtain ⟨ys, h1, h2, h3⟩ := ih (k + 3) _ res (by omega) h
    have hnp : plainC (digC (chr s (k + 1)) * 16 + digC (chr s (k + 2))).toNat = false := by
      rw [Bool.eq_false_iff]; exact fun h' => hq (Or.inr (Or.inr h'))
    obtain ⟨x, hx⟩ : ∃ x : Nat, digC (chr s (k + 1)) * 16 + digC (chr s (k + 2)) = (x : Int) := ⟨(digC (chr s (k + 1)) * 16 + digC (chr s (k + 2))).toNat, by omega⟩
    rw [hx, Int.toNat_natCast] at hnp
    rw [hx] at h2
    have hx1 : x / 16 = (digC (chr s (k + 1))).toNat := by omega
    have hx2 : x % 16 = (digC (chr s (k + 2))).toNat := by omega
    refine ⟨x :: ys, fun y hy => ?_, by rw [h2]; simp, ?_⟩
    · rcases List.mem_cons.1 hy with rfl | hy
      · omega
      · exact h1 y hy
    · have hqx : quo1 x = [37, (chr s (k + 1) : Int), (chr s (k + 2) : Int)] := by
        unfold quo1
        rw [if_neg (by rw [hnp]; simp), hx1, hx2, e1, e2]
      have h37 : chr s k = 37 := by omega
      rw [quoN_cons, h3, hqx, hd, hd1, hd2, h37]
      simp

theorem str_bytN (s : ByteArray) : strOfNums ((bytN s).map fun (y : Nat) => (y : Int)) = s := by
  have hl : ((bytN s).map fun (y : Nat) => (y : Int)).length = s.size := by rw [List.length_map, bytN_len]
  apply ByteArray.ext
  apply Array.ext
  · show (strOfNums _).size = s.size
    rw [strOfNums_size, hl]
  · intro i h1 h2
    have hi : i < s.size := h2
    simp [strOfNums, bytN]
    rw [chr_lt hi]
    have := UInt8.ofNat_toNat (x := s[i])
    rw [this]
    rfl
theorem bytN_str {ys : List Nat} (h : ∀ y ∈ ys, y < 256) : bytN (strOfNums (ys.map fun (y : Nat) => (y : Int))) = ys := by
  have hsz : (strOfNums (ys.map fun (y : Nat) => (y : Int))).size = ys.length := by rw [strOfNums_size, List.length_map]
  apply List.ext_getElem
  · rw [bytN_len, hsz]
  · intro i h1 h2
    have hc := chr_nums (xs := ys.map fun (y : Nat) => (y : Int)) (fun y hy => by
      obtain ⟨z, hz, rfl⟩ := List.mem_map.1 hy
      have := h z hz
      omega) (i := i) (y := (ys[i] : Int)) (by simp [h2])
    simp [bytN]
    omega
theorem quoN_37 {xs : List Nat} : quoN xs ≠ [37] := by
  intro h
  cases xs with
  | nil => simp [quoN] at h
  | cons x xs =>
    rw [quoN_cons] at h
    by_cases hp : plainC x = true
    · have h1 : quo1 x = [(x : Int)] := by unfold quo1; rw [if_pos hp]
      rw [h1] at h
      simp at h
      have : x = 37 := by omega
      rw [this, plain37] at hp
      cases hp
    · have h1 : quo1 x = [37, (hexC (x / 16) : Int), (hexC (x % 16) : Int)] := by unfold quo1; rw [if_neg hp]
      rw [h1] at h
      simp at h
theorem toList_eq37 {s : ByteArray} : s.toList = [37] ↔ s = ⟨#[37]⟩ := by
  rw [ByteArray.toList_eq]
  constructor
  · intro h
    apply ByteArray.ext
    apply Array.ext'
    rw [h]
  · rintro rfl; rfl

theorem str_37 {xs : List Int} (h : ∀ y ∈ xs, 0 ≤ y ∧ y < 256) (hs : strOfNums xs = ⟨#[37]⟩) : xs = [37] := by
  have hl : xs.length = 1 := by rw [← strOfNums_size, hs]; rfl
  match xs, hl with
  | [x], _ =>
    have hc := chr_nums (xs := [x]) h (i := 0) (y := x) rfl
    rw [hs] at hc
    have : chr ⟨#[37]⟩ 0 = 37 := by decide
    rw [this] at hc
    rw [← hc]
    rfl

/-- Unquote of Quote is the data. -/
theorem back {s : ByteArray} (h : s.size ≤ 65536) : unqV (quoV s) = unqO true s := by
  have hst := str_bytN s
  unfold quoV
  rw [if_neg (by omega)]
  by_cases h0 : s.size = 0
  · rw [if_pos h0]
    have e : unqR ⟨#[37]⟩ = some [] := by unfold unqR; rw [if_pos (toList_eq37.2 rfl)]
    unfold unqV
    rw [e]
    have : bytN s = [] := by unfold bytN; rw [h0]; rfl
    rw [this] at hst
    show unqO true (strOfNums []) = _
    rw [← hst]; rfl
  · rw [if_neg h0, quoL_all]
    have hset : ∀ y ∈ quoN (bytN s), 0 ≤ y ∧ y < 256 := fun y hy => by have := quoN_set (bytN_lt s) y hy; omega
    have hlen := (quoL_len s s.size).1
    rw [quoL_all] at hlen
    have e := unq_quo (bytN s) (bytN_lt s) (bytN s) [] [] ((strOfNums (quoN (bytN s))).size + 1) rfl (by rw [strOfNums_size, bytN_len]; omega)
    rw [show (quoN []).length = 0 from rfl, List.nil_append] at e
    have er : unqR (strOfNums (quoN (bytN s))) = some ((bytN s).map fun (y : Nat) => (y : Int)) := by
      unfold unqR
      rw [if_neg (fun h' => quoN_37 (str_37 hset (toList_eq37.1 h'))), e]
      simp only
      rw [if_neg (by rw [List.length_map, bytN_len]; omega)]
    unfold unqV
    rw [er]
    show unqO true (strOfNums _) = _
    rw [hst]

/-- What is unquoted is quoted as it stood. -/
theorem forth {t d : ByteArray} (h : unqV t = unqO true d) : quoV d = t := by
  have hr : ∃ acc, unqR t = some acc ∧ d = strOfNums acc := by
    unfold unqV at h
    cases hu : unqR t with
    | none => rw [hu] at h; simp [unqO] at h
    | some acc => rw [hu] at h; simp [unqO] at h; exact ⟨acc, rfl, h.symm⟩
  obtain ⟨acc, hr, rfl⟩ := hr
  unfold unqR at hr
  by_cases h37 : t.toList = [37]
  · rw [if_pos h37] at hr
    injection hr with hr
    subst hr
    rw [toList_eq37.1 h37]
    rfl
  rw [if_neg h37] at hr
  cases hu : unqF t (t.size + 1) 0 [] with
  | none => rw [hu] at hr; cases hr
  | some acc' =>
    rw [hu] at hr
    simp only at hr
    by_cases hb : acc'.length = 0 ∨ 65536 < acc'.length
    · rw [if_pos hb] at hr; cases hr
    rw [if_neg hb] at hr
    injection hr with hr
    subst hr
    obtain ⟨ys, h1, h2, h3⟩ := quo_unq t (t.size + 1) 0 [] acc' (Nat.zero_le _) hu
    rw [List.nil_append] at h2
    rw [List.drop_zero] at h3
    have hsz : (strOfNums acc').size = acc'.length := strOfNums_size _
    unfold quoV
    rw [if_neg (by omega), if_neg (by omega), quoL_all, h2, bytN_str h1, h3, str_bytN]

/-- All bytes of what is quoted are letters, digits and signs. -/
theorem quoV_set {s : ByteArray} {i : Nat} (h : i < (quoV s).size) : 33 ≤ chr (quoV s) i ∧ chr (quoV s) i ≤ 126 := by
  unfold quoV at h ⊢
  by_cases h1 : 65536 < s.size
  · rw [if_pos h1] at h; exact absurd h (Nat.not_lt_zero i)
  · rw [if_neg h1] at h ⊢
    by_cases h0 : s.size = 0
    · rw [if_pos h0] at h ⊢
      have : i = 0 := by have h' : i < 1 := h; omega
      subst this
      decide
    · rw [if_neg h0, quoL_all] at h ⊢
      rw [strOfNums_size] at h
      have hset := quoN_set (bytN_lt s)
      have hc := chr_nums (xs := quoN (bytN s)) (fun y hy => by have := hset y hy; omega) (i := i) (y := (quoN (bytN s))[i]) (by simp [h])
      have := hset _ (List.getElem_mem h)
      omega

end Go.Proofs.YtacfkgfemmgpkaaGreatDoor

namespace Go.Proofs.YtacfkgfemmgpkaaGreatDoor
open Go.RowKit Go.Lib

theorem puV_hex_all : ∀ x : Fin 256, puV [UInt8.ofNat (hexC (x.val / 16)), UInt8.ofNat (hexC (x.val % 16))] = x.val := by decide +kernel

theorem loose_quo : ∀ (xs : List Nat), (∀ x ∈ xs, x < 256) → ∀ f, (quoN xs).length ≤ f → looseN f ((quoN xs).map fun n => UInt8.ofNat n.toNat) = xs.map fun (x : Nat) => (x : Int)
  | [], _, f, _ => by cases f <;> rfl
  | x :: xs, hb, f, hf => by
    have hx : x < 256 := hb x (List.mem_cons_self ..)
    have ih := loose_quo xs (fun y hy => hb y (List.mem_cons_of_mem _ hy))
    rw [quoN_cons, List.length_append] at hf
    rw [quoN_cons, List.map_append, List.map_cons]
    unfold quo1 at hf ⊢
    by_cases hp : plainC x = true
    · rw [if_pos hp] at hf ⊢
      have h37 : x ≠ 37 := by rintro rfl; exact absurd hp (by decide)
      obtain ⟨f', rfl⟩ : ∃ f', f = f' + 1 := ⟨f - 1, by simp at hf; omega⟩
      have e : (UInt8.ofNat ((x : Nat) : Int).toNat).toNat = x := by rw [Int.toNat_natCast, UInt8.toNat_ofNat']; omega
      show looseN (f' + 1) (UInt8.ofNat ((x : Nat) : Int).toNat :: (quoN xs).map _) = _
      rw [looseN_c, e, if_neg (by omega), ih f' (by simp at hf; omega)]
    · rw [if_neg hp] at hf ⊢
      obtain ⟨f', rfl⟩ : ∃ f', f = f' + 1 := ⟨f - 1, by simp at hf; omega⟩
      show looseN (f' + 1) (UInt8.ofNat 37 :: UInt8.ofNat (hexC (x / 16)) :: UInt8.ofNat (hexC (x % 16)) :: (quoN xs).map _) = _
      rw [looseN_c, if_pos ⟨rfl, by simp⟩]
      show (puV [UInt8.ofNat (hexC (x / 16)), UInt8.ofNat (hexC (x % 16))] : Int) :: looseN f' ((quoN xs).map _) = _
      rw [puV_hex_all ⟨x, hx⟩, ih f' (by simp at hf; omega)]

/-- What the program takes a text for. -/
def looseV (s : ByteArray) : ByteArray := if s.toList = [37] then ⟨#[]⟩ else strOfNums (looseN s.size s.data.toList)

theorem loose_of {s d : ByteArray} (h : quoV d = s) (hd : d.size ≤ 65536) : looseV s = d := by
  subst h
  have hst := str_bytN d
  unfold quoV
  rw [if_neg (by omega)]
  by_cases h0 : d.size = 0
  · rw [if_pos h0]
    unfold looseV
    rw [if_pos (toList_eq37.2 rfl)]
    have : bytN d = [] := by unfold bytN; rw [h0]; rfl
    rw [this] at hst
    rw [← hst]; rfl
  · have hset : ∀ y ∈ quoN (bytN d), 0 ≤ y ∧ y < 256 := fun y hy => by have := quoN_set (bytN_lt d) y hy; omega
    rw [if_neg h0, quoL_all]
    unfold looseV
    rw [if_neg (fun h' => quoN_37 (str_37 hset (toList_eq37.1 h'))), strOfNums_data, strOfNums_size, loose_quo _ (bytN_lt d) _ (Nat.le_refl _), hst]

theorem unqV_is' (s : ByteArray) : (∃ d, unqV s = unqO true d) ∨ unqV s = unqO false ⟨#[]⟩ := by
  unfold unqV
  split
  · exact Or.inr rfl
  · exact Or.inl ⟨_, rfl⟩

theorem unqO_ne {d e : ByteArray} : unqO true d ≠ unqO false e := by
  intro h
  simp [unqO] at h

theorem nil_ne : ¬ (⟨#[]⟩ : ByteArray).toList = [37] := by
  rw [ByteArray.toList_eq]
  intro h
  cases h

theorem unq_nothing : unqV ⟨#[]⟩ = unqO false ⟨#[]⟩ := by
  have e : unqF ⟨#[]⟩ ((⟨#[]⟩ : ByteArray).size + 1) 0 [] = some [] := by
    unfold unqF
    rw [if_pos (show (⟨#[]⟩ : ByteArray).size ≤ 0 from Nat.le_refl 0)]
  have e2 : unqR ⟨#[]⟩ = none := by
    unfold unqR
    rw [if_neg nil_ne, e]
    rfl
  unfold unqV
  rw [e2]

theorem unq_loose (s : ByteArray) : unqV s = if quoV (looseV s) = s then unqO true (looseV s) else unqO false ⟨#[]⟩ := by
  rcases unqV_is' s with ⟨d, h⟩ | h
  · have hf := forth h
    by_cases hd : d.size ≤ 65536
    · rw [loose_of hf hd, if_pos hf, h]
    · exfalso
      unfold quoV at hf
      rw [if_pos (by omega)] at hf
      subst hf
      rw [unq_nothing] at h
      exact unqO_ne h.symm
  · rw [h]
    split
    · rename_i hq
      exfalso
      by_cases hd : (looseV s).size ≤ 65536
      · have hb := back hd
        rw [hq, h] at hb
        exact unqO_ne hb.symm
      · unfold quoV at hq
        rw [if_pos (by omega)] at hq
        subst hq
        exact hd (by unfold looseV; rw [if_neg nil_ne]; exact Nat.zero_le _)
    · rfl

end Go.Proofs.YtacfkgfemmgpkaaGreatDoor
