/- What the model makes of the fields of a line is what the program makes of them. (made by tools/mkmodel.py) -/
import Derived.Test.YtacfkgfemmgpkaaGreatDoorLineF
import Derived.Test.YtacfkgfemmgpkaaGreatDoorImplParse
namespace Go.Proofs.YtacfkgfemmgpkaaGreatDoor
open Go.RowKit Go.Lib

theorem tk_Path (s : Lst) (x : ByteArray) : tk 32 s x = some { s with path := x } := rfl
theorem tk_To (s : Lst) (x : ByteArray) : tk 33 s x = some { s with to' := x } := rfl
theorem tk_Handle (s : Lst) (x : ByteArray) : tk 39 s x = (numF x).map fun n => { s with han := n } := rfl
theorem tk_Offset (s : Lst) (x : ByteArray) : tk 35 s x = (numF x).map fun n => { s with off := n } := rfl
theorem tk_Size (s : Lst) (x : ByteArray) : tk 38 s x = (numF x).map fun n => { s with siz := n } := rfl
theorem tk_Data (s : Lst) (x : ByteArray) : tk 34 s x = (unqD x).map fun d => { s with data := d } := rfl
theorem tk_Length (s : Lst) (x : ByteArray) : tk 36 s x = lenF s x := rfl
theorem tk_Letter (s : Lst) (x : ByteArray) : tk 37 s x = letF s x := rfl
theorem tk_Count (s : Lst) (x : ByteArray) : tk 40 s x = countF s x := rfl
theorem tk_Number (s : Lst) (x : ByteArray) : tk 46 s x = (numF x).map fun n => { s with nums := s.nums ++ [n] } := rfl
theorem takes1 (a : Nat) (x : ByteArray) (s : Lst) : takeAll [a] 0 [x] s = tk a s x := by show (tk a s x).bind some = _; cases tk a s x <;> rfl
theorem takes2 (a b : Nat) (x y : ByteArray) (s : Lst) : takeAll [a, b] 0 [x, y] s = (tk a s x).bind fun t => tk b t y := by
  show (tk a s x).bind (fun t => (tk b t y).bind some) = _
  congr 1; funext t; cases tk b t y <;> rfl
theorem takes3 (a b c : Nat) (x y z : ByteArray) (s : Lst) : takeAll [a, b, c] 0 [x, y, z] s = (tk a s x).bind fun t => (tk b t y).bind fun u => tk c u z := by
  show (tk a s x).bind (fun t => (tk b t y).bind fun u => (tk c u z).bind some) = _
  congr 1; funext t; congr 1; funext u; cases tk c u z <;> rfl
theorem takes4 (a b c d : Nat) (x y z q : ByteArray) (s : Lst) : takeAll [a, b, c, d] 0 [x, y, z, q] s = (tk a s x).bind fun t => (tk b t y).bind fun u => (tk c u z).bind fun v => tk d v q := by
  show (tk a s x).bind (fun t => (tk b t y).bind fun u => (tk c u z).bind fun v => (tk d v q).bind some) = _
  congr 1; funext t; congr 1; funext u; congr 1; funext v; cases tk d v q <;> rfl
theorem list1 {F : List ByteArray} (h : F.length = 1) : ∃ a, F = [a] := match F, h with | [a], _ => ⟨a, rfl⟩
theorem list2 {F : List ByteArray} (h : F.length = 2) : ∃ a b, F = [a, b] := match F, h with | [a, b], _ => ⟨a, b, rfl⟩
theorem list3 {F : List ByteArray} (h : F.length = 3) : ∃ a b c, F = [a, b, c] := match F, h with | [a, b, c], _ => ⟨a, b, c, rfl⟩
theorem list4 {F : List ByteArray} (h : F.length = 4) : ∃ a b c d, F = [a, b, c, d] := match F, h with | [a, b, c, d], _ => ⟨a, b, c, d, rfl⟩
theorem list5 {F : List ByteArray} (h : F.length = 5) : ∃ a b c d e, F = [a, b, c, d, e] := match F, h with | [a, b, c, d, e], _ => ⟨a, b, c, d, e, rfl⟩
theorem takeAll_nums {fns : List Nat} : ∀ (r : List ByteArray) (i : Nat), (∀ j, i ≤ j → fnAt fns j = 46) → ∀ s : Lst, takeAll fns i r s = if (numsG s.nums r).2 = true then some { s with nums := (numsG s.nums r).1 } else none
  | [], i, _, s => by rw [takeAll_nil]; rfl
  | x :: r, i, h, s => by
    rw [takeAll_cons, h i (Nat.le_refl _), tk_Number]
    unfold numsG
    cases hx : numF x with
    | none => rfl
    | some n =>
      show takeAll fns (i + 1) r { s with nums := s.nums ++ [n] } = _
      rw [takeAll_nums r (i + 1) (fun j hj => h j (by omega))]
theorem numsG_len : ∀ (r : List ByteArray) (acc : List Int), (numsG acc r).2 = true → (numsG acc r).1.length = acc.length + r.length
  | [], acc, _ => by simp [numsG]
  | x :: r, acc, h => by
    unfold numsG at h ⊢
    cases hx : numF x with
    | none => rw [hx] at h; cases h
    | some n =>
      rw [hx] at h
      have := numsG_len r (acc ++ [n]) h
      simp only [List.length_append, List.length_cons, List.length_nil] at this ⊢
      omega
theorem numsG_head : ∀ (r : List ByteArray) (a : Int) (acc : List Int), (numsG (a :: acc) r).1.getD 0 0 = a
  | [], a, acc => by simp [numsG]
  | x :: r, a, acc => by
    unfold numsG
    cases hx : numF x with
    | none => simp
    | some n => exact numsG_head r a (acc ++ [n])

theorem longF_none (F : List ByteArray) (h_rename : (F.getD 0 noText) ≠ ⟨#[114, 101, 110, 97, 109, 101]⟩) (h_link : (F.getD 0 noText) ≠ ⟨#[108, 105, 110, 107]⟩) (h_symlink : (F.getD 0 noText) ≠ ⟨#[115, 121, 109, 108, 105, 110, 107]⟩) (h_append : (F.getD 0 noText) ≠ ⟨#[97, 112, 112, 101, 110, 100]⟩) (h_write : (F.getD 0 noText) ≠ ⟨#[119, 114, 105, 116, 101]⟩) (h_fill : (F.getD 0 noText) ≠ ⟨#[102, 105, 108, 108]⟩) (h_trunc : (F.getD 0 noText) ≠ ⟨#[116, 114, 117, 110, 99]⟩) (h_read : (F.getD 0 noText) ≠ ⟨#[114, 101, 97, 100]⟩) : longF F = none := by
  unfold longF
  rw [if_neg h_rename, if_neg h_link, if_neg h_symlink, if_neg h_append, if_neg h_write, if_neg h_fill, if_neg h_trunc, if_neg h_read]
theorem hanF_none (F : List ByteArray) (h_close : (F.getD 0 noText) ≠ ⟨#[99, 108, 111, 115, 101]⟩) (h_fstat : (F.getD 0 noText) ≠ ⟨#[102, 115, 116, 97, 116]⟩) (h_ftrunc : (F.getD 0 noText) ≠ ⟨#[102, 116, 114, 117, 110, 99]⟩) (h_pread : (F.getD 0 noText) ≠ ⟨#[112, 114, 101, 97, 100]⟩) (h_pwrite : (F.getD 0 noText) ≠ ⟨#[112, 119, 114, 105, 116, 101]⟩) : hanF F = none := by
  unfold hanF
  rw [if_neg h_close, if_neg h_fstat, if_neg h_ftrunc, if_neg h_pread, if_neg h_pwrite]

theorem cmdOf_no (key : ByteArray) (c : Cmd) (r : List Cmd) (h : c.key ≠ key) : cmdOf key (c :: r) = cmdOf key r := if_neg h
theorem restF_long (F : List ByteArray) (h : hanF F = none) : restF F = longF F := by unfold restF; rw [h]; cases longF F <;> rfl
theorem restF_han (F : List ByteArray) (h : longF F = none) : restF F = hanF F := by unfold restF; rw [h]; rfl
theorem restF_none (F : List ByteArray) (h_rename : (F.getD 0 noText) ≠ ⟨#[114, 101, 110, 97, 109, 101]⟩) (h_link : (F.getD 0 noText) ≠ ⟨#[108, 105, 110, 107]⟩) (h_symlink : (F.getD 0 noText) ≠ ⟨#[115, 121, 109, 108, 105, 110, 107]⟩) (h_append : (F.getD 0 noText) ≠ ⟨#[97, 112, 112, 101, 110, 100]⟩) (h_write : (F.getD 0 noText) ≠ ⟨#[119, 114, 105, 116, 101]⟩) (h_fill : (F.getD 0 noText) ≠ ⟨#[102, 105, 108, 108]⟩) (h_trunc : (F.getD 0 noText) ≠ ⟨#[116, 114, 117, 110, 99]⟩) (h_read : (F.getD 0 noText) ≠ ⟨#[114, 101, 97, 100]⟩) (h_close : (F.getD 0 noText) ≠ ⟨#[99, 108, 111, 115, 101]⟩) (h_fstat : (F.getD 0 noText) ≠ ⟨#[102, 115, 116, 97, 116]⟩) (h_ftrunc : (F.getD 0 noText) ≠ ⟨#[102, 116, 114, 117, 110, 99]⟩) (h_pread : (F.getD 0 noText) ≠ ⟨#[112, 114, 101, 97, 100]⟩) (h_pwrite : (F.getD 0 noText) ≠ ⟨#[112, 119, 114, 105, 116, 101]⟩) : restF F = none := by
  unfold restF
  rw [longF_none F h_rename h_link h_symlink h_append h_write h_fill h_trunc h_read]
  show hanF F = none
  exact hanF_none F h_close h_fstat h_ftrunc h_pread h_pwrite

theorem eq_create (F : List ByteArray) (h1 : 1 ≤ F.length) (hk : (F.getD 0 noText) = ⟨#[99, 114, 101, 97, 116, 101]⟩) : fieldsOf F = modelF F := by
  have hc : cmdOf ⟨#[99, 114, 101, 97, 116, 101]⟩ theCmds = some ⟨⟨#[99, 114, 101, 97, 116, 101]⟩, 1, 1, [32], 0⟩ := by kernel_rfl
  have hw : wordN ⟨#[99, 114, 101, 97, 116, 101]⟩ = 1 := by kernel_rfl
  have hl : loneN ⟨#[99, 114, 101, 97, 116, 101]⟩ = 0 := by kernel_rfl
  unfold fieldsOf modelF
  rw [hk, hc, hw, hl]
  show (if containsS F ⟨#[]⟩ = true then none else if 1 ≤ F.tail.length ∧ (F.tail.length : Int) ≤ ((1 : Nat) : Int) + 0 then takeAll [32] 0 F.tail ⟨1, 1, ⟨#[]⟩, ⟨#[]⟩, 0, 0, 0, ⟨#[]⟩, []⟩ else none) = _
  by_cases he : containsS F ⟨#[]⟩ = true
  · rw [if_pos he, if_pos he]
  rw [if_neg he, if_neg he]
  by_cases hn : F.length = 2
  · rw [if_pos (by rw [List.length_tail, hn]; constructor <;> decide : (1 ≤ F.tail.length ∧ (F.tail.length : Int) ≤ ((1 : Nat) : Int) + 0)), if_neg (fun h => absurd h.2 (by decide) : ¬ (F.length = 1 ∧ (⟨#[99, 114, 101, 97, 116, 101]⟩ : ByteArray) = ⟨#[116, 114, 101, 101]⟩)), if_neg (fun h => absurd h.2 (by decide) : ¬ (F.length = 1 ∧ (⟨#[99, 114, 101, 97, 116, 101]⟩ : ByteArray) = ⟨#[99, 104, 101, 99, 107]⟩)), if_neg (fun h => absurd h.2 (by decide) : ¬ (F.length = 1 ∧ (⟨#[99, 114, 101, 97, 116, 101]⟩ : ByteArray) = ⟨#[109, 111, 117, 110, 116]⟩)), if_neg (fun h => absurd h.2 (by decide) : ¬ (F.length = 1 ∧ (0 : Int) < 0)), if_pos (⟨hn, by decide⟩ : F.length = 2 ∧ (0 : Int) < 1)]
    obtain ⟨a, b, rfl⟩ := list2 hn
    rfl
  · rw [if_neg (by rw [List.length_tail]; omega : ¬ (1 ≤ F.tail.length ∧ (F.tail.length : Int) ≤ ((1 : Nat) : Int) + 0)), if_neg (fun h => absurd h.2 (by decide) : ¬ (F.length = 1 ∧ (⟨#[99, 114, 101, 97, 116, 101]⟩ : ByteArray) = ⟨#[116, 114, 101, 101]⟩)), if_neg (fun h => absurd h.2 (by decide) : ¬ (F.length = 1 ∧ (⟨#[99, 114, 101, 97, 116, 101]⟩ : ByteArray) = ⟨#[99, 104, 101, 99, 107]⟩)), if_neg (fun h => absurd h.2 (by decide) : ¬ (F.length = 1 ∧ (⟨#[99, 114, 101, 97, 116, 101]⟩ : ByteArray) = ⟨#[109, 111, 117, 110, 116]⟩)), if_neg (fun h => absurd h.2 (by decide) : ¬ (F.length = 1 ∧ (0 : Int) < 0)), if_neg (fun h => hn h.1 : ¬ (F.length = 2 ∧ (0 : Int) < 1)), if_neg (by decide : ¬ (⟨#[99, 114, 101, 97, 116, 101]⟩ : ByteArray) = ⟨#[99, 114, 97, 115, 104]⟩), if_neg (by decide : ¬ (⟨#[99, 114, 101, 97, 116, 101]⟩ : ByteArray) = ⟨#[97, 114, 109]⟩), restF_none F (by rw [hk]; decide) (by rw [hk]; decide) (by rw [hk]; decide) (by rw [hk]; decide) (by rw [hk]; decide) (by rw [hk]; decide) (by rw [hk]; decide) (by rw [hk]; decide) (by rw [hk]; decide) (by rw [hk]; decide) (by rw [hk]; decide) (by rw [hk]; decide) (by rw [hk]; decide)]

theorem eq_mkdir (F : List ByteArray) (h1 : 1 ≤ F.length) (hk : (F.getD 0 noText) = ⟨#[109, 107, 100, 105, 114]⟩) : fieldsOf F = modelF F := by
  have hc : cmdOf ⟨#[109, 107, 100, 105, 114]⟩ theCmds = some ⟨⟨#[109, 107, 100, 105, 114]⟩, 1, 2, [32], 0⟩ := by kernel_rfl
  have hw : wordN ⟨#[109, 107, 100, 105, 114]⟩ = 2 := by kernel_rfl
  have hl : loneN ⟨#[109, 107, 100, 105, 114]⟩ = 0 := by kernel_rfl
  unfold fieldsOf modelF
  rw [hk, hc, hw, hl]
  show (if containsS F ⟨#[]⟩ = true then none else if 1 ≤ F.tail.length ∧ (F.tail.length : Int) ≤ ((1 : Nat) : Int) + 0 then takeAll [32] 0 F.tail ⟨1, 2, ⟨#[]⟩, ⟨#[]⟩, 0, 0, 0, ⟨#[]⟩, []⟩ else none) = _
  by_cases he : containsS F ⟨#[]⟩ = true
  · rw [if_pos he, if_pos he]
  rw [if_neg he, if_neg he]
  by_cases hn : F.length = 2
  · rw [if_pos (by rw [List.length_tail, hn]; constructor <;> decide : (1 ≤ F.tail.length ∧ (F.tail.length : Int) ≤ ((1 : Nat) : Int) + 0)), if_neg (fun h => absurd h.2 (by decide) : ¬ (F.length = 1 ∧ (⟨#[109, 107, 100, 105, 114]⟩ : ByteArray) = ⟨#[116, 114, 101, 101]⟩)), if_neg (fun h => absurd h.2 (by decide) : ¬ (F.length = 1 ∧ (⟨#[109, 107, 100, 105, 114]⟩ : ByteArray) = ⟨#[99, 104, 101, 99, 107]⟩)), if_neg (fun h => absurd h.2 (by decide) : ¬ (F.length = 1 ∧ (⟨#[109, 107, 100, 105, 114]⟩ : ByteArray) = ⟨#[109, 111, 117, 110, 116]⟩)), if_neg (fun h => absurd h.2 (by decide) : ¬ (F.length = 1 ∧ (0 : Int) < 0)), if_pos (⟨hn, by decide⟩ : F.length = 2 ∧ (0 : Int) < 2)]
    obtain ⟨a, b, rfl⟩ := list2 hn
    rfl
  · rw [if_neg (by rw [List.length_tail]; omega : ¬ (1 ≤ F.tail.length ∧ (F.tail.length : Int) ≤ ((1 : Nat) : Int) + 0)), if_neg (fun h => absurd h.2 (by decide) : ¬ (F.length = 1 ∧ (⟨#[109, 107, 100, 105, 114]⟩ : ByteArray) = ⟨#[116, 114, 101, 101]⟩)), if_neg (fun h => absurd h.2 (by decide) : ¬ (F.length = 1 ∧ (⟨#[109, 107, 100, 105, 114]⟩ : ByteArray) = ⟨#[99, 104, 101, 99, 107]⟩)), if_neg (fun h => absurd h.2 (by decide) : ¬ (F.length = 1 ∧ (⟨#[109, 107, 100, 105, 114]⟩ : ByteArray) = ⟨#[109, 111, 117, 110, 116]⟩)), if_neg (fun h => absurd h.2 (by decide) : ¬ (F.length = 1 ∧ (0 : Int) < 0)), if_neg (fun h => hn h.1 : ¬ (F.length = 2 ∧ (0 : Int) < 2)), if_neg (by decide : ¬ (⟨#[109, 107, 100, 105, 114]⟩ : ByteArray) = ⟨#[99, 114, 97, 115, 104]⟩), if_neg (by decide : ¬ (⟨#[109, 107, 100, 105, 114]⟩ : ByteArray) = ⟨#[97, 114, 109]⟩), restF_none F (by rw [hk]; decide) (by rw [hk]; decide) (by rw [hk]; decide) (by rw [hk]; decide) (by rw [hk]; decide) (by rw [hk]; decide) (by rw [hk]; decide) (by rw [hk]; decide) (by rw [hk]; decide) (by rw [hk]; decide) (by rw [hk]; decide) (by rw [hk]; decide) (by rw [hk]; decide)]

theorem eq_unlink (F : List ByteArray) (h1 : 1 ≤ F.length) (hk : (F.getD 0 noText) = ⟨#[117, 110, 108, 105, 110, 107]⟩) : fieldsOf F = modelF F := by
  have hc : cmdOf ⟨#[117, 110, 108, 105, 110, 107]⟩ theCmds = some ⟨⟨#[117, 110, 108, 105, 110, 107]⟩, 1, 3, [32], 0⟩ := by kernel_rfl
  have hw : wordN ⟨#[117, 110, 108, 105, 110, 107]⟩ = 3 := by kernel_rfl
  have hl : loneN ⟨#[117, 110, 108, 105, 110, 107]⟩ = 0 := by kernel_rfl
  unfold fieldsOf modelF
  rw [hk, hc, hw, hl]
  show (if containsS F ⟨#[]⟩ = true then none else if 1 ≤ F.tail.length ∧ (F.tail.length : Int) ≤ ((1 : Nat) : Int) + 0 then takeAll [32] 0 F.tail ⟨1, 3, ⟨#[]⟩, ⟨#[]⟩, 0, 0, 0, ⟨#[]⟩, []⟩ else none) = _
  by_cases he : containsS F ⟨#[]⟩ = true
  · rw [if_pos he, if_pos he]
  rw [if_neg he, if_neg he]
  by_cases hn : F.length = 2
  · rw [if_pos (by rw [List.length_tail, hn]; constructor <;> decide : (1 ≤ F.tail.length ∧ (F.tail.length : Int) ≤ ((1 : Nat) : Int) + 0)), if_neg (fun h => absurd h.2 (by decide) : ¬ (F.length = 1 ∧ (⟨#[117, 110, 108, 105, 110, 107]⟩ : ByteArray) = ⟨#[116, 114, 101, 101]⟩)), if_neg (fun h => absurd h.2 (by decide) : ¬ (F.length = 1 ∧ (⟨#[117, 110, 108, 105, 110, 107]⟩ : ByteArray) = ⟨#[99, 104, 101, 99, 107]⟩)), if_neg (fun h => absurd h.2 (by decide) : ¬ (F.length = 1 ∧ (⟨#[117, 110, 108, 105, 110, 107]⟩ : ByteArray) = ⟨#[109, 111, 117, 110, 116]⟩)), if_neg (fun h => absurd h.2 (by decide) : ¬ (F.length = 1 ∧ (0 : Int) < 0)), if_pos (⟨hn, by decide⟩ : F.length = 2 ∧ (0 : Int) < 3)]
    obtain ⟨a, b, rfl⟩ := list2 hn
    rfl
  · rw [if_neg (by rw [List.length_tail]; omega : ¬ (1 ≤ F.tail.length ∧ (F.tail.length : Int) ≤ ((1 : Nat) : Int) + 0)), if_neg (fun h => absurd h.2 (by decide) : ¬ (F.length = 1 ∧ (⟨#[117, 110, 108, 105, 110, 107]⟩ : ByteArray) = ⟨#[116, 114, 101, 101]⟩)), if_neg (fun h => absurd h.2 (by decide) : ¬ (F.length = 1 ∧ (⟨#[117, 110, 108, 105, 110, 107]⟩ : ByteArray) = ⟨#[99, 104, 101, 99, 107]⟩)), if_neg (fun h => absurd h.2 (by decide) : ¬ (F.length = 1 ∧ (⟨#[117, 110, 108, 105, 110, 107]⟩ : ByteArray) = ⟨#[109, 111, 117, 110, 116]⟩)), if_neg (fun h => absurd h.2 (by decide) : ¬ (F.length = 1 ∧ (0 : Int) < 0)), if_neg (fun h => hn h.1 : ¬ (F.length = 2 ∧ (0 : Int) < 3)), if_neg (by decide : ¬ (⟨#[117, 110, 108, 105, 110, 107]⟩ : ByteArray) = ⟨#[99, 114, 97, 115, 104]⟩), if_neg (by decide : ¬ (⟨#[117, 110, 108, 105, 110, 107]⟩ : ByteArray) = ⟨#[97, 114, 109]⟩), restF_none F (by rw [hk]; decide) (by rw [hk]; decide) (by rw [hk]; decide) (by rw [hk]; decide) (by rw [hk]; decide) (by rw [hk]; decide) (by rw [hk]; decide) (by rw [hk]; decide) (by rw [hk]; decide) (by rw [hk]; decide) (by rw [hk]; decide) (by rw [hk]; decide) (by rw [hk]; decide)]

theorem eq_rmdir (F : List ByteArray) (h1 : 1 ≤ F.length) (hk : (F.getD 0 noText) = ⟨#[114, 109, 100, 105, 114]⟩) : fieldsOf F = modelF F := by
  have hc : cmdOf ⟨#[114, 109, 100, 105, 114]⟩ theCmds = some ⟨⟨#[114, 109, 100, 105, 114]⟩, 1, 4, [32], 0⟩ := by kernel_rfl
  have hw : wordN ⟨#[114, 109, 100, 105, 114]⟩ = 4 := by kernel_rfl
  have hl : loneN ⟨#[114, 109, 100, 105, 114]⟩ = 0 := by kernel_rfl
  unfold fieldsOf modelF
  rw [hk, hc, hw, hl]
  show (if containsS F ⟨#[]⟩ = true then none else if 1 ≤ F.tail.length ∧ (F.tail.length : Int) ≤ ((1 : Nat) : Int) + 0 then takeAll [32] 0 F.tail ⟨1, 4, ⟨#[]⟩, ⟨#[]⟩, 0, 0, 0, ⟨#[]⟩, []⟩ else none) = _
  by_cases he : containsS F ⟨#[]⟩ = true
  · rw [if_pos he, if_pos he]
  rw [if_neg he, if_neg he]
  by_cases hn : F.length = 2
  · rw [if_pos (by rw [List.length_tail, hn]; constructor <;> decide : (1 ≤ F.tail.length ∧ (F.tail.length : Int) ≤ ((1 : Nat) : Int) + 0)), if_neg (fun h => absurd h.2 (by decide) : ¬ (F.length = 1 ∧ (⟨#[114, 109, 100, 105, 114]⟩ : ByteArray) = ⟨#[116, 114, 101, 101]⟩)), if_neg (fun h => absurd h.2 (by decide) : ¬ (F.length = 1 ∧ (⟨#[114, 109, 100, 105, 114]⟩ : ByteArray) = ⟨#[99, 104, 101, 99, 107]⟩)), if_neg (fun h => absurd h.2 (by decide) : ¬ (F.length = 1 ∧ (⟨#[114, 109, 100, 105, 114]⟩ : ByteArray) = ⟨#[109, 111, 117, 110, 116]⟩)), if_neg (fun h => absurd h.2 (by decide) : ¬ (F.length = 1 ∧ (0 : Int) < 0)), if_pos (⟨hn, by decide⟩ : F.length = 2 ∧ (0 : Int) < 4)]
    obtain ⟨a, b, rfl⟩ := list2 hn
    rfl
  · rw [if_neg (by rw [List.length_tail]; omega : ¬ (1 ≤ F.tail.length ∧ (F.tail.length : Int) ≤ ((1 : Nat) : Int) + 0)), if_neg (fun h => absurd h.2 (by decide) : ¬ (F.length = 1 ∧ (⟨#[114, 109, 100, 105, 114]⟩ : ByteArray) = ⟨#[116, 114, 101, 101]⟩)), if_neg (fun h => absurd h.2 (by decide) : ¬ (F.length = 1 ∧ (⟨#[114, 109, 100, 105, 114]⟩ : ByteArray) = ⟨#[99, 104, 101, 99, 107]⟩)), if_neg (fun h => absurd h.2 (by decide) : ¬ (F.length = 1 ∧ (⟨#[114, 109, 100, 105, 114]⟩ : ByteArray) = ⟨#[109, 111, 117, 110, 116]⟩)), if_neg (fun h => absurd h.2 (by decide) : ¬ (F.length = 1 ∧ (0 : Int) < 0)), if_neg (fun h => hn h.1 : ¬ (F.length = 2 ∧ (0 : Int) < 4)), if_neg (by decide : ¬ (⟨#[114, 109, 100, 105, 114]⟩ : ByteArray) = ⟨#[99, 114, 97, 115, 104]⟩), if_neg (by decide : ¬ (⟨#[114, 109, 100, 105, 114]⟩ : ByteArray) = ⟨#[97, 114, 109]⟩), restF_none F (by rw [hk]; decide) (by rw [hk]; decide) (by rw [hk]; decide) (by rw [hk]; decide) (by rw [hk]; decide) (by rw [hk]; decide) (by rw [hk]; decide) (by rw [hk]; decide) (by rw [hk]; decide) (by rw [hk]; decide) (by rw [hk]; decide) (by rw [hk]; decide) (by rw [hk]; decide)]

theorem eq_open (F : List ByteArray) (h1 : 1 ≤ F.length) (hk : (F.getD 0 noText) = ⟨#[111, 112, 101, 110]⟩) : fieldsOf F = modelF F := by
  have hc : cmdOf ⟨#[111, 112, 101, 110]⟩ theCmds = some ⟨⟨#[111, 112, 101, 110]⟩, 1, 14, [32], 0⟩ := by kernel_rfl
  have hw : wordN ⟨#[111, 112, 101, 110]⟩ = 14 := by kernel_rfl
  have hl : loneN ⟨#[111, 112, 101, 110]⟩ = 0 := by kernel_rfl
  unfold fieldsOf modelF
  rw [hk, hc, hw, hl]
  show (if containsS F ⟨#[]⟩ = true then none else if 1 ≤ F.tail.length ∧ (F.tail.length : Int) ≤ ((1 : Nat) : Int) + 0 then takeAll [32] 0 F.tail ⟨1, 14, ⟨#[]⟩, ⟨#[]⟩, 0, 0, 0, ⟨#[]⟩, []⟩ else none) = _
  by_cases he : containsS F ⟨#[]⟩ = true
  · rw [if_pos he, if_pos he]
  rw [if_neg he, if_neg he]
  by_cases hn : F.length = 2
  · rw [if_pos (by rw [List.length_tail, hn]; constructor <;> decide : (1 ≤ F.tail.length ∧ (F.tail.length : Int) ≤ ((1 : Nat) : Int) + 0)), if_neg (fun h => absurd h.2 (by decide) : ¬ (F.length = 1 ∧ (⟨#[111, 112, 101, 110]⟩ : ByteArray) = ⟨#[116, 114, 101, 101]⟩)), if_neg (fun h => absurd h.2 (by decide) : ¬ (F.length = 1 ∧ (⟨#[111, 112, 101, 110]⟩ : ByteArray) = ⟨#[99, 104, 101, 99, 107]⟩)), if_neg (fun h => absurd h.2 (by decide) : ¬ (F.length = 1 ∧ (⟨#[111, 112, 101, 110]⟩ : ByteArray) = ⟨#[109, 111, 117, 110, 116]⟩)), if_neg (fun h => absurd h.2 (by decide) : ¬ (F.length = 1 ∧ (0 : Int) < 0)), if_pos (⟨hn, by decide⟩ : F.length = 2 ∧ (0 : Int) < 14)]
    obtain ⟨a, b, rfl⟩ := list2 hn
    rfl
  · rw [if_neg (by rw [List.length_tail]; omega : ¬ (1 ≤ F.tail.length ∧ (F.tail.length : Int) ≤ ((1 : Nat) : Int) + 0)), if_neg (fun h => absurd h.2 (by decide) : ¬ (F.length = 1 ∧ (⟨#[111, 112, 101, 110]⟩ : ByteArray) = ⟨#[116, 114, 101, 101]⟩)), if_neg (fun h => absurd h.2 (by decide) : ¬ (F.length = 1 ∧ (⟨#[111, 112, 101, 110]⟩ : ByteArray) = ⟨#[99, 104, 101, 99, 107]⟩)), if_neg (fun h => absurd h.2 (by decide) : ¬ (F.length = 1 ∧ (⟨#[111, 112, 101, 110]⟩ : ByteArray) = ⟨#[109, 111, 117, 110, 116]⟩)), if_neg (fun h => absurd h.2 (by decide) : ¬ (F.length = 1 ∧ (0 : Int) < 0)), if_neg (fun h => hn h.1 : ¬ (F.length = 2 ∧ (0 : Int) < 14)), if_neg (by decide : ¬ (⟨#[111, 112, 101, 110]⟩ : ByteArray) = ⟨#[99, 114, 97, 115, 104]⟩), if_neg (by decide : ¬ (⟨#[111, 112, 101, 110]⟩ : ByteArray) = ⟨#[97, 114, 109]⟩), restF_none F (by rw [hk]; decide) (by rw [hk]; decide) (by rw [hk]; decide) (by rw [hk]; decide) (by rw [hk]; decide) (by rw [hk]; decide) (by rw [hk]; decide) (by rw [hk]; decide) (by rw [hk]; decide) (by rw [hk]; decide) (by rw [hk]; decide) (by rw [hk]; decide) (by rw [hk]; decide)]

theorem eq_stat (F : List ByteArray) (h1 : 1 ≤ F.length) (hk : (F.getD 0 noText) = ⟨#[115, 116, 97, 116]⟩) : fieldsOf F = modelF F := by
  have hc : cmdOf ⟨#[115, 116, 97, 116]⟩ theCmds = some ⟨⟨#[115, 116, 97, 116]⟩, 1, 18, [32], 0⟩ := by kernel_rfl
  have hw : wordN ⟨#[115, 116, 97, 116]⟩ = 18 := by kernel_rfl
  have hl : loneN ⟨#[115, 116, 97, 116]⟩ = 0 := by kernel_rfl
  unfold fieldsOf modelF
  rw [hk, hc, hw, hl]
  show (if containsS F ⟨#[]⟩ = true then none else if 1 ≤ F.tail.length ∧ (F.tail.length : Int) ≤ ((1 : Nat) : Int) + 0 then takeAll [32] 0 F.tail ⟨1, 18, ⟨#[]⟩, ⟨#[]⟩, 0, 0, 0, ⟨#[]⟩, []⟩ else none) = _
  by_cases he : containsS F ⟨#[]⟩ = true
  · rw [if_pos he, if_pos he]
  rw [if_neg he, if_neg he]
  by_cases hn : F.length = 2
  · rw [if_pos (by rw [List.length_tail, hn]; constructor <;> decide : (1 ≤ F.tail.length ∧ (F.tail.length : Int) ≤ ((1 : Nat) : Int) + 0)), if_neg (fun h => absurd h.2 (by decide) : ¬ (F.length = 1 ∧ (⟨#[115, 116, 97, 116]⟩ : ByteArray) = ⟨#[116, 114, 101, 101]⟩)), if_neg (fun h => absurd h.2 (by decide) : ¬ (F.length = 1 ∧ (⟨#[115, 116, 97, 116]⟩ : ByteArray) = ⟨#[99, 104, 101, 99, 107]⟩)), if_neg (fun h => absurd h.2 (by decide) : ¬ (F.length = 1 ∧ (⟨#[115, 116, 97, 116]⟩ : ByteArray) = ⟨#[109, 111, 117, 110, 116]⟩)), if_neg (fun h => absurd h.2 (by decide) : ¬ (F.length = 1 ∧ (0 : Int) < 0)), if_pos (⟨hn, by decide⟩ : F.length = 2 ∧ (0 : Int) < 18)]
    obtain ⟨a, b, rfl⟩ := list2 hn
    rfl
  · rw [if_neg (by rw [List.length_tail]; omega : ¬ (1 ≤ F.tail.length ∧ (F.tail.length : Int) ≤ ((1 : Nat) : Int) + 0)), if_neg (fun h => absurd h.2 (by decide) : ¬ (F.length = 1 ∧ (⟨#[115, 116, 97, 116]⟩ : ByteArray) = ⟨#[116, 114, 101, 101]⟩)), if_neg (fun h => absurd h.2 (by decide) : ¬ (F.length = 1 ∧ (⟨#[115, 116, 97, 116]⟩ : ByteArray) = ⟨#[99, 104, 101, 99, 107]⟩)), if_neg (fun h => absurd h.2 (by decide) : ¬ (F.length = 1 ∧ (⟨#[115, 116, 97, 116]⟩ : ByteArray) = ⟨#[109, 111, 117, 110, 116]⟩)), if_neg (fun h => absurd h.2 (by decide) : ¬ (F.length = 1 ∧ (0 : Int) < 0)), if_neg (fun h => hn h.1 : ¬ (F.length = 2 ∧ (0 : Int) < 18)), if_neg (by decide : ¬ (⟨#[115, 116, 97, 116]⟩ : ByteArray) = ⟨#[99, 114, 97, 115, 104]⟩), if_neg (by decide : ¬ (⟨#[115, 116, 97, 116]⟩ : ByteArray) = ⟨#[97, 114, 109]⟩), restF_none F (by rw [hk]; decide) (by rw [hk]; decide) (by rw [hk]; decide) (by rw [hk]; decide) (by rw [hk]; decide) (by rw [hk]; decide) (by rw [hk]; decide) (by rw [hk]; decide) (by rw [hk]; decide) (by rw [hk]; decide) (by rw [hk]; decide) (by rw [hk]; decide) (by rw [hk]; decide)]

theorem eq_lstat (F : List ByteArray) (h1 : 1 ≤ F.length) (hk : (F.getD 0 noText) = ⟨#[108, 115, 116, 97, 116]⟩) : fieldsOf F = modelF F := by
  have hc : cmdOf ⟨#[108, 115, 116, 97, 116]⟩ theCmds = some ⟨⟨#[108, 115, 116, 97, 116]⟩, 1, 19, [32], 0⟩ := by kernel_rfl
  have hw : wordN ⟨#[108, 115, 116, 97, 116]⟩ = 19 := by kernel_rfl
  have hl : loneN ⟨#[108, 115, 116, 97, 116]⟩ = 0 := by kernel_rfl
  unfold fieldsOf modelF
  rw [hk, hc, hw, hl]
  show (if containsS F ⟨#[]⟩ = true then none else if 1 ≤ F.tail.length ∧ (F.tail.length : Int) ≤ ((1 : Nat) : Int) + 0 then takeAll [32] 0 F.tail ⟨1, 19, ⟨#[]⟩, ⟨#[]⟩, 0, 0, 0, ⟨#[]⟩, []⟩ else none) = _
  by_cases he : containsS F ⟨#[]⟩ = true
  · rw [if_pos he, if_pos he]
  rw [if_neg he, if_neg he]
  by_cases hn : F.length = 2
  · rw [if_pos (by rw [List.length_tail, hn]; constructor <;> decide : (1 ≤ F.tail.length ∧ (F.tail.length : Int) ≤ ((1 : Nat) : Int) + 0)), if_neg (fun h => absurd h.2 (by decide) : ¬ (F.length = 1 ∧ (⟨#[108, 115, 116, 97, 116]⟩ : ByteArray) = ⟨#[116, 114, 101, 101]⟩)), if_neg (fun h => absurd h.2 (by decide) : ¬ (F.length = 1 ∧ (⟨#[108, 115, 116, 97, 116]⟩ : ByteArray) = ⟨#[99, 104, 101, 99, 107]⟩)), if_neg (fun h => absurd h.2 (by decide) : ¬ (F.length = 1 ∧ (⟨#[108, 115, 116, 97, 116]⟩ : ByteArray) = ⟨#[109, 111, 117, 110, 116]⟩)), if_neg (fun h => absurd h.2 (by decide) : ¬ (F.length = 1 ∧ (0 : Int) < 0)), if_pos (⟨hn, by decide⟩ : F.length = 2 ∧ (0 : Int) < 19)]
    obtain ⟨a, b, rfl⟩ := list2 hn
    rfl
  · rw [if_neg (by rw [List.length_tail]; omega : ¬ (1 ≤ F.tail.length ∧ (F.tail.length : Int) ≤ ((1 : Nat) : Int) + 0)), if_neg (fun h => absurd h.2 (by decide) : ¬ (F.length = 1 ∧ (⟨#[108, 115, 116, 97, 116]⟩ : ByteArray) = ⟨#[116, 114, 101, 101]⟩)), if_neg (fun h => absurd h.2 (by decide) : ¬ (F.length = 1 ∧ (⟨#[108, 115, 116, 97, 116]⟩ : ByteArray) = ⟨#[99, 104, 101, 99, 107]⟩)), if_neg (fun h => absurd h.2 (by decide) : ¬ (F.length = 1 ∧ (⟨#[108, 115, 116, 97, 116]⟩ : ByteArray) = ⟨#[109, 111, 117, 110, 116]⟩)), if_neg (fun h => absurd h.2 (by decide) : ¬ (F.length = 1 ∧ (0 : Int) < 0)), if_neg (fun h => hn h.1 : ¬ (F.length = 2 ∧ (0 : Int) < 19)), if_neg (by decide : ¬ (⟨#[108, 115, 116, 97, 116]⟩ : ByteArray) = ⟨#[99, 114, 97, 115, 104]⟩), if_neg (by decide : ¬ (⟨#[108, 115, 116, 97, 116]⟩ : ByteArray) = ⟨#[97, 114, 109]⟩), restF_none F (by rw [hk]; decide) (by rw [hk]; decide) (by rw [hk]; decide) (by rw [hk]; decide) (by rw [hk]; decide) (by rw [hk]; decide) (by rw [hk]; decide) (by rw [hk]; decide) (by rw [hk]; decide) (by rw [hk]; decide) (by rw [hk]; decide) (by rw [hk]; decide) (by rw [hk]; decide)]

theorem eq_list (F : List ByteArray) (h1 : 1 ≤ F.length) (hk : (F.getD 0 noText) = ⟨#[108, 105, 115, 116]⟩) : fieldsOf F = modelF F := by
  have hc : cmdOf ⟨#[108, 105, 115, 116]⟩ theCmds = some ⟨⟨#[108, 105, 115, 116]⟩, 1, 20, [32], 0⟩ := by kernel_rfl
  have hw : wordN ⟨#[108, 105, 115, 116]⟩ = 20 := by kernel_rfl
  have hl : loneN ⟨#[108, 105, 115, 116]⟩ = 0 := by kernel_rfl
  unfold fieldsOf modelF
  rw [hk, hc, hw, hl]
  show (if containsS F ⟨#[]⟩ = true then none else if 1 ≤ F.tail.length ∧ (F.tail.length : Int) ≤ ((1 : Nat) : Int) + 0 then takeAll [32] 0 F.tail ⟨1, 20, ⟨#[]⟩, ⟨#[]⟩, 0, 0, 0, ⟨#[]⟩, []⟩ else none) = _
  by_cases he : containsS F ⟨#[]⟩ = true
  · rw [if_pos he, if_pos he]
  rw [if_neg he, if_neg he]
  by_cases hn : F.length = 2
  · rw [if_pos (by rw [List.length_tail, hn]; constructor <;> decide : (1 ≤ F.tail.length ∧ (F.tail.length : Int) ≤ ((1 : Nat) : Int) + 0)), if_neg (fun h => absurd h.2 (by decide) : ¬ (F.length = 1 ∧ (⟨#[108, 105, 115, 116]⟩ : ByteArray) = ⟨#[116, 114, 101, 101]⟩)), if_neg (fun h => absurd h.2 (by decide) : ¬ (F.length = 1 ∧ (⟨#[108, 105, 115, 116]⟩ : ByteArray) = ⟨#[99, 104, 101, 99, 107]⟩)), if_neg (fun h => absurd h.2 (by decide) : ¬ (F.length = 1 ∧ (⟨#[108, 105, 115, 116]⟩ : ByteArray) = ⟨#[109, 111, 117, 110, 116]⟩)), if_neg (fun h => absurd h.2 (by decide) : ¬ (F.length = 1 ∧ (0 : Int) < 0)), if_pos (⟨hn, by decide⟩ : F.length = 2 ∧ (0 : Int) < 20)]
    obtain ⟨a, b, rfl⟩ := list2 hn
    rfl
  · rw [if_neg (by rw [List.length_tail]; omega : ¬ (1 ≤ F.tail.length ∧ (F.tail.length : Int) ≤ ((1 : Nat) : Int) + 0)), if_neg (fun h => absurd h.2 (by decide) : ¬ (F.length = 1 ∧ (⟨#[108, 105, 115, 116]⟩ : ByteArray) = ⟨#[116, 114, 101, 101]⟩)), if_neg (fun h => absurd h.2 (by decide) : ¬ (F.length = 1 ∧ (⟨#[108, 105, 115, 116]⟩ : ByteArray) = ⟨#[99, 104, 101, 99, 107]⟩)), if_neg (fun h => absurd h.2 (by decide) : ¬ (F.length = 1 ∧ (⟨#[108, 105, 115, 116]⟩ : ByteArray) = ⟨#[109, 111, 117, 110, 116]⟩)), if_neg (fun h => absurd h.2 (by decide) : ¬ (F.length = 1 ∧ (0 : Int) < 0)), if_neg (fun h => hn h.1 : ¬ (F.length = 2 ∧ (0 : Int) < 20)), if_neg (by decide : ¬ (⟨#[108, 105, 115, 116]⟩ : ByteArray) = ⟨#[99, 114, 97, 115, 104]⟩), if_neg (by decide : ¬ (⟨#[108, 105, 115, 116]⟩ : ByteArray) = ⟨#[97, 114, 109]⟩), restF_none F (by rw [hk]; decide) (by rw [hk]; decide) (by rw [hk]; decide) (by rw [hk]; decide) (by rw [hk]; decide) (by rw [hk]; decide) (by rw [hk]; decide) (by rw [hk]; decide) (by rw [hk]; decide) (by rw [hk]; decide) (by rw [hk]; decide) (by rw [hk]; decide) (by rw [hk]; decide)]

theorem eq_readlink (F : List ByteArray) (h1 : 1 ≤ F.length) (hk : (F.getD 0 noText) = ⟨#[114, 101, 97, 100, 108, 105, 110, 107]⟩) : fieldsOf F = modelF F := by
  have hc : cmdOf ⟨#[114, 101, 97, 100, 108, 105, 110, 107]⟩ theCmds = some ⟨⟨#[114, 101, 97, 100, 108, 105, 110, 107]⟩, 1, 21, [32], 0⟩ := by kernel_rfl
  have hw : wordN ⟨#[114, 101, 97, 100, 108, 105, 110, 107]⟩ = 21 := by kernel_rfl
  have hl : loneN ⟨#[114, 101, 97, 100, 108, 105, 110, 107]⟩ = 0 := by kernel_rfl
  unfold fieldsOf modelF
  rw [hk, hc, hw, hl]
  show (if containsS F ⟨#[]⟩ = true then none else if 1 ≤ F.tail.length ∧ (F.tail.length : Int) ≤ ((1 : Nat) : Int) + 0 then takeAll [32] 0 F.tail ⟨1, 21, ⟨#[]⟩, ⟨#[]⟩, 0, 0, 0, ⟨#[]⟩, []⟩ else none) = _
  by_cases he : containsS F ⟨#[]⟩ = true
  · rw [if_pos he, if_pos he]
  rw [if_neg he, if_neg he]
  by_cases hn : F.length = 2
  · rw [if_pos (by rw [List.length_tail, hn]; constructor <;> decide : (1 ≤ F.tail.length ∧ (F.tail.length : Int) ≤ ((1 : Nat) : Int) + 0)), if_neg (fun h => absurd h.2 (by decide) : ¬ (F.length = 1 ∧ (⟨#[114, 101, 97, 100, 108, 105, 110, 107]⟩ : ByteArray) = ⟨#[116, 114, 101, 101]⟩)), if_neg (fun h => absurd h.2 (by decide) : ¬ (F.length = 1 ∧ (⟨#[114, 101, 97, 100, 108, 105, 110, 107]⟩ : ByteArray) = ⟨#[99, 104, 101, 99, 107]⟩)), if_neg (fun h => absurd h.2 (by decide) : ¬ (F.length = 1 ∧ (⟨#[114, 101, 97, 100, 108, 105, 110, 107]⟩ : ByteArray) = ⟨#[109, 111, 117, 110, 116]⟩)), if_neg (fun h => absurd h.2 (by decide) : ¬ (F.length = 1 ∧ (0 : Int) < 0)), if_pos (⟨hn, by decide⟩ : F.length = 2 ∧ (0 : Int) < 21)]
    obtain ⟨a, b, rfl⟩ := list2 hn
    rfl
  · rw [if_neg (by rw [List.length_tail]; omega : ¬ (1 ≤ F.tail.length ∧ (F.tail.length : Int) ≤ ((1 : Nat) : Int) + 0)), if_neg (fun h => absurd h.2 (by decide) : ¬ (F.length = 1 ∧ (⟨#[114, 101, 97, 100, 108, 105, 110, 107]⟩ : ByteArray) = ⟨#[116, 114, 101, 101]⟩)), if_neg (fun h => absurd h.2 (by decide) : ¬ (F.length = 1 ∧ (⟨#[114, 101, 97, 100, 108, 105, 110, 107]⟩ : ByteArray) = ⟨#[99, 104, 101, 99, 107]⟩)), if_neg (fun h => absurd h.2 (by decide) : ¬ (F.length = 1 ∧ (⟨#[114, 101, 97, 100, 108, 105, 110, 107]⟩ : ByteArray) = ⟨#[109, 111, 117, 110, 116]⟩)), if_neg (fun h => absurd h.2 (by decide) : ¬ (F.length = 1 ∧ (0 : Int) < 0)), if_neg (fun h => hn h.1 : ¬ (F.length = 2 ∧ (0 : Int) < 21)), if_neg (by decide : ¬ (⟨#[114, 101, 97, 100, 108, 105, 110, 107]⟩ : ByteArray) = ⟨#[99, 114, 97, 115, 104]⟩), if_neg (by decide : ¬ (⟨#[114, 101, 97, 100, 108, 105, 110, 107]⟩ : ByteArray) = ⟨#[97, 114, 109]⟩), restF_none F (by rw [hk]; decide) (by rw [hk]; decide) (by rw [hk]; decide) (by rw [hk]; decide) (by rw [hk]; decide) (by rw [hk]; decide) (by rw [hk]; decide) (by rw [hk]; decide) (by rw [hk]; decide) (by rw [hk]; decide) (by rw [hk]; decide) (by rw [hk]; decide) (by rw [hk]; decide)]

theorem eq_rename (F : List ByteArray) (h1 : 1 ≤ F.length) (hk : (F.getD 0 noText) = ⟨#[114, 101, 110, 97, 109, 101]⟩) : fieldsOf F = modelF F := by
  have hc : cmdOf ⟨#[114, 101, 110, 97, 109, 101]⟩ theCmds = some ⟨⟨#[114, 101, 110, 97, 109, 101]⟩, 1, 5, [32, 33], 0⟩ := by kernel_rfl
  have hw : wordN ⟨#[114, 101, 110, 97, 109, 101]⟩ = 0 := by kernel_rfl
  have hl : loneN ⟨#[114, 101, 110, 97, 109, 101]⟩ = 0 := by kernel_rfl
  unfold fieldsOf modelF
  rw [hk, hc, hw, hl]
  show (if containsS F ⟨#[]⟩ = true then none else if 2 ≤ F.tail.length ∧ (F.tail.length : Int) ≤ ((2 : Nat) : Int) + 0 then takeAll [32, 33] 0 F.tail ⟨1, 5, ⟨#[]⟩, ⟨#[]⟩, 0, 0, 0, ⟨#[]⟩, []⟩ else none) = _
  by_cases he : containsS F ⟨#[]⟩ = true
  · rw [if_pos he, if_pos he]
  rw [if_neg he, if_neg he]
  rw [if_neg (fun h => absurd h.2 (by decide) : ¬ (F.length = 1 ∧ (⟨#[114, 101, 110, 97, 109, 101]⟩ : ByteArray) = ⟨#[116, 114, 101, 101]⟩)), if_neg (fun h => absurd h.2 (by decide) : ¬ (F.length = 1 ∧ (⟨#[114, 101, 110, 97, 109, 101]⟩ : ByteArray) = ⟨#[99, 104, 101, 99, 107]⟩)), if_neg (fun h => absurd h.2 (by decide) : ¬ (F.length = 1 ∧ (⟨#[114, 101, 110, 97, 109, 101]⟩ : ByteArray) = ⟨#[109, 111, 117, 110, 116]⟩)), if_neg (fun h => absurd h.2 (by decide) : ¬ (F.length = 1 ∧ (0 : Int) < 0)), if_neg (fun h => absurd h.2 (by decide) : ¬ (F.length = 2 ∧ (0 : Int) < 0)), if_neg (by decide : ¬ (⟨#[114, 101, 110, 97, 109, 101]⟩ : ByteArray) = ⟨#[99, 114, 97, 115, 104]⟩), if_neg (by decide : ¬ (⟨#[114, 101, 110, 97, 109, 101]⟩ : ByteArray) = ⟨#[97, 114, 109]⟩)]
  rw [restF_long F (hanF_none F (by rw [hk]; decide) (by rw [hk]; decide) (by rw [hk]; decide) (by rw [hk]; decide) (by rw [hk]; decide))]
  unfold longF
  rw [if_pos hk]
  by_cases hn : F.length = 3
  · rw [if_pos (by rw [List.length_tail, hn]; constructor <;> decide : (2 ≤ F.tail.length ∧ (F.tail.length : Int) ≤ ((2 : Nat) : Int) + 0)), if_pos hn]
    obtain ⟨a, b, c, rfl⟩ := list3 hn
    show takeAll _ 0 [b, c] _ = some ⟨1, 5, b, c, 0, 0, 0, ⟨#[]⟩, []⟩
    rw [takes2]
    simp only [tk_Path, tk_To]
    all_goals (rfl)
  · rw [if_neg (by rw [List.length_tail]; omega : ¬ (2 ≤ F.tail.length ∧ (F.tail.length : Int) ≤ ((2 : Nat) : Int) + 0)), if_neg hn]

theorem eq_link (F : List ByteArray) (h1 : 1 ≤ F.length) (hk : (F.getD 0 noText) = ⟨#[108, 105, 110, 107]⟩) : fieldsOf F = modelF F := by
  have hc : cmdOf ⟨#[108, 105, 110, 107]⟩ theCmds = some ⟨⟨#[108, 105, 110, 107]⟩, 1, 9, [32, 33], 0⟩ := by kernel_rfl
  have hw : wordN ⟨#[108, 105, 110, 107]⟩ = 0 := by kernel_rfl
  have hl : loneN ⟨#[108, 105, 110, 107]⟩ = 0 := by kernel_rfl
  unfold fieldsOf modelF
  rw [hk, hc, hw, hl]
  show (if containsS F ⟨#[]⟩ = true then none else if 2 ≤ F.tail.length ∧ (F.tail.length : Int) ≤ ((2 : Nat) : Int) + 0 then takeAll [32, 33] 0 F.tail ⟨1, 9, ⟨#[]⟩, ⟨#[]⟩, 0, 0, 0, ⟨#[]⟩, []⟩ else none) = _
  by_cases he : containsS F ⟨#[]⟩ = true
  · rw [if_pos he, if_pos he]
  rw [if_neg he, if_neg he]
  rw [if_neg (fun h => absurd h.2 (by decide) : ¬ (F.length = 1 ∧ (⟨#[108, 105, 110, 107]⟩ : ByteArray) = ⟨#[116, 114, 101, 101]⟩)), if_neg (fun h => absurd h.2 (by decide) : ¬ (F.length = 1 ∧ (⟨#[108, 105, 110, 107]⟩ : ByteArray) = ⟨#[99, 104, 101, 99, 107]⟩)), if_neg (fun h => absurd h.2 (by decide) : ¬ (F.length = 1 ∧ (⟨#[108, 105, 110, 107]⟩ : ByteArray) = ⟨#[109, 111, 117, 110, 116]⟩)), if_neg (fun h => absurd h.2 (by decide) : ¬ (F.length = 1 ∧ (0 : Int) < 0)), if_neg (fun h => absurd h.2 (by decide) : ¬ (F.length = 2 ∧ (0 : Int) < 0)), if_neg (by decide : ¬ (⟨#[108, 105, 110, 107]⟩ : ByteArray) = ⟨#[99, 114, 97, 115, 104]⟩), if_neg (by decide : ¬ (⟨#[108, 105, 110, 107]⟩ : ByteArray) = ⟨#[97, 114, 109]⟩)]
  rw [restF_long F (hanF_none F (by rw [hk]; decide) (by rw [hk]; decide) (by rw [hk]; decide) (by rw [hk]; decide) (by rw [hk]; decide))]
  unfold longF
  rw [if_neg (by rw [hk]; decide : ¬ (F.getD 0 noText) = ⟨#[114, 101, 110, 97, 109, 101]⟩), if_pos hk]
  by_cases hn : F.length = 3
  · rw [if_pos (by rw [List.length_tail, hn]; constructor <;> decide : (2 ≤ F.tail.length ∧ (F.tail.length : Int) ≤ ((2 : Nat) : Int) + 0)), if_pos hn]
    obtain ⟨a, b, c, rfl⟩ := list3 hn
    show takeAll _ 0 [b, c] _ = some ⟨1, 9, b, c, 0, 0, 0, ⟨#[]⟩, []⟩
    rw [takes2]
    simp only [tk_Path, tk_To]
    all_goals (rfl)
  · rw [if_neg (by rw [List.length_tail]; omega : ¬ (2 ≤ F.tail.length ∧ (F.tail.length : Int) ≤ ((2 : Nat) : Int) + 0)), if_neg hn]

theorem eq_symlink (F : List ByteArray) (h1 : 1 ≤ F.length) (hk : (F.getD 0 noText) = ⟨#[115, 121, 109, 108, 105, 110, 107]⟩) : fieldsOf F = modelF F := by
  have hc : cmdOf ⟨#[115, 121, 109, 108, 105, 110, 107]⟩ theCmds = some ⟨⟨#[115, 121, 109, 108, 105, 110, 107]⟩, 1, 10, [32, 33], 0⟩ := by kernel_rfl
  have hw : wordN ⟨#[115, 121, 109, 108, 105, 110, 107]⟩ = 0 := by kernel_rfl
  have hl : loneN ⟨#[115, 121, 109, 108, 105, 110, 107]⟩ = 0 := by kernel_rfl
  unfold fieldsOf modelF
  rw [hk, hc, hw, hl]
  show (if containsS F ⟨#[]⟩ = true then none else if 2 ≤ F.tail.length ∧ (F.tail.length : Int) ≤ ((2 : Nat) : Int) + 0 then takeAll [32, 33] 0 F.tail ⟨1, 10, ⟨#[]⟩, ⟨#[]⟩, 0, 0, 0, ⟨#[]⟩, []⟩ else none) = _
  by_cases he : containsS F ⟨#[]⟩ = true
  · rw [if_pos he, if_pos he]
  rw [if_neg he, if_neg he]
  rw [if_neg (fun h => absurd h.2 (by decide) : ¬ (F.length = 1 ∧ (⟨#[115, 121, 109, 108, 105, 110, 107]⟩ : ByteArray) = ⟨#[116, 114, 101, 101]⟩)), if_neg (fun h => absurd h.2 (by decide) : ¬ (F.length = 1 ∧ (⟨#[115, 121, 109, 108, 105, 110, 107]⟩ : ByteArray) = ⟨#[99, 104, 101, 99, 107]⟩)), if_neg (fun h => absurd h.2 (by decide) : ¬ (F.length = 1 ∧ (⟨#[115, 121, 109, 108, 105, 110, 107]⟩ : ByteArray) = ⟨#[109, 111, 117, 110, 116]⟩)), if_neg (fun h => absurd h.2 (by decide) : ¬ (F.length = 1 ∧ (0 : Int) < 0)), if_neg (fun h => absurd h.2 (by decide) : ¬ (F.length = 2 ∧ (0 : Int) < 0)), if_neg (by decide : ¬ (⟨#[115, 121, 109, 108, 105, 110, 107]⟩ : ByteArray) = ⟨#[99, 114, 97, 115, 104]⟩), if_neg (by decide : ¬ (⟨#[115, 121, 109, 108, 105, 110, 107]⟩ : ByteArray) = ⟨#[97, 114, 109]⟩)]
  rw [restF_long F (hanF_none F (by rw [hk]; decide) (by rw [hk]; decide) (by rw [hk]; decide) (by rw [hk]; decide) (by rw [hk]; decide))]
  unfold longF
  rw [if_neg (by rw [hk]; decide : ¬ (F.getD 0 noText) = ⟨#[114, 101, 110, 97, 109, 101]⟩), if_neg (by rw [hk]; decide : ¬ (F.getD 0 noText) = ⟨#[108, 105, 110, 107]⟩), if_pos hk]
  by_cases hn : F.length = 3
  · rw [if_pos (by rw [List.length_tail, hn]; constructor <;> decide : (2 ≤ F.tail.length ∧ (F.tail.length : Int) ≤ ((2 : Nat) : Int) + 0)), if_pos hn]
    obtain ⟨a, b, c, rfl⟩ := list3 hn
    show takeAll _ 0 [b, c] _ = some ⟨1, 10, b, c, 0, 0, 0, ⟨#[]⟩, []⟩
    rw [takes2]
    simp only [tk_Path, tk_To]
    all_goals (rfl)
  · rw [if_neg (by rw [List.length_tail]; omega : ¬ (2 ≤ F.tail.length ∧ (F.tail.length : Int) ≤ ((2 : Nat) : Int) + 0)), if_neg hn]

theorem eq_append (F : List ByteArray) (h1 : 1 ≤ F.length) (hk : (F.getD 0 noText) = ⟨#[97, 112, 112, 101, 110, 100]⟩) : fieldsOf F = modelF F := by
  have hc : cmdOf ⟨#[97, 112, 112, 101, 110, 100]⟩ theCmds = some ⟨⟨#[97, 112, 112, 101, 110, 100]⟩, 1, 8, [32, 34], 0⟩ := by kernel_rfl
  have hw : wordN ⟨#[97, 112, 112, 101, 110, 100]⟩ = 0 := by kernel_rfl
  have hl : loneN ⟨#[97, 112, 112, 101, 110, 100]⟩ = 0 := by kernel_rfl
  unfold fieldsOf modelF
  rw [hk, hc, hw, hl]
  show (if containsS F ⟨#[]⟩ = true then none else if 2 ≤ F.tail.length ∧ (F.tail.length : Int) ≤ ((2 : Nat) : Int) + 0 then takeAll [32, 34] 0 F.tail ⟨1, 8, ⟨#[]⟩, ⟨#[]⟩, 0, 0, 0, ⟨#[]⟩, []⟩ else none) = _
  by_cases he : containsS F ⟨#[]⟩ = true
  · rw [if_pos he, if_pos he]
  rw [if_neg he, if_neg he]
  rw [if_neg (fun h => absurd h.2 (by decide) : ¬ (F.length = 1 ∧ (⟨#[97, 112, 112, 101, 110, 100]⟩ : ByteArray) = ⟨#[116, 114, 101, 101]⟩)), if_neg (fun h => absurd h.2 (by decide) : ¬ (F.length = 1 ∧ (⟨#[97, 112, 112, 101, 110, 100]⟩ : ByteArray) = ⟨#[99, 104, 101, 99, 107]⟩)), if_neg (fun h => absurd h.2 (by decide) : ¬ (F.length = 1 ∧ (⟨#[97, 112, 112, 101, 110, 100]⟩ : ByteArray) = ⟨#[109, 111, 117, 110, 116]⟩)), if_neg (fun h => absurd h.2 (by decide) : ¬ (F.length = 1 ∧ (0 : Int) < 0)), if_neg (fun h => absurd h.2 (by decide) : ¬ (F.length = 2 ∧ (0 : Int) < 0)), if_neg (by decide : ¬ (⟨#[97, 112, 112, 101, 110, 100]⟩ : ByteArray) = ⟨#[99, 114, 97, 115, 104]⟩), if_neg (by decide : ¬ (⟨#[97, 112, 112, 101, 110, 100]⟩ : ByteArray) = ⟨#[97, 114, 109]⟩)]
  rw [restF_long F (hanF_none F (by rw [hk]; decide) (by rw [hk]; decide) (by rw [hk]; decide) (by rw [hk]; decide) (by rw [hk]; decide))]
  unfold longF
  rw [if_neg (by rw [hk]; decide : ¬ (F.getD 0 noText) = ⟨#[114, 101, 110, 97, 109, 101]⟩), if_neg (by rw [hk]; decide : ¬ (F.getD 0 noText) = ⟨#[108, 105, 110, 107]⟩), if_neg (by rw [hk]; decide : ¬ (F.getD 0 noText) = ⟨#[115, 121, 109, 108, 105, 110, 107]⟩), if_pos hk]
  by_cases hn : F.length = 3
  · rw [if_pos (by rw [List.length_tail, hn]; constructor <;> decide : (2 ≤ F.tail.length ∧ (F.tail.length : Int) ≤ ((2 : Nat) : Int) + 0)), if_pos hn]
    obtain ⟨a, b, c, rfl⟩ := list3 hn
    show takeAll _ 0 [b, c] _ = (unqD c).map fun d => (⟨1, 8, b, ⟨#[]⟩, 0, 0, 0, d, []⟩ : Lst)
    rw [takes2]
    simp only [tk_Data, tk_Path]
    all_goals (cases unqD c <;> rfl)
  · rw [if_neg (by rw [List.length_tail]; omega : ¬ (2 ≤ F.tail.length ∧ (F.tail.length : Int) ≤ ((2 : Nat) : Int) + 0)), if_neg hn]

theorem eq_write (F : List ByteArray) (h1 : 1 ≤ F.length) (hk : (F.getD 0 noText) = ⟨#[119, 114, 105, 116, 101]⟩) : fieldsOf F = modelF F := by
  have hc : cmdOf ⟨#[119, 114, 105, 116, 101]⟩ theCmds = some ⟨⟨#[119, 114, 105, 116, 101]⟩, 1, 6, [32, 35, 34], 0⟩ := by kernel_rfl
  have hw : wordN ⟨#[119, 114, 105, 116, 101]⟩ = 0 := by kernel_rfl
  have hl : loneN ⟨#[119, 114, 105, 116, 101]⟩ = 0 := by kernel_rfl
  unfold fieldsOf modelF
  rw [hk, hc, hw, hl]
  show (if containsS F ⟨#[]⟩ = true then none else if 3 ≤ F.tail.length ∧ (F.tail.length : Int) ≤ ((3 : Nat) : Int) + 0 then takeAll [32, 35, 34] 0 F.tail ⟨1, 6, ⟨#[]⟩, ⟨#[]⟩, 0, 0, 0, ⟨#[]⟩, []⟩ else none) = _
  by_cases he : containsS F ⟨#[]⟩ = true
  · rw [if_pos he, if_pos he]
  rw [if_neg he, if_neg he]
  rw [if_neg (fun h => absurd h.2 (by decide) : ¬ (F.length = 1 ∧ (⟨#[119, 114, 105, 116, 101]⟩ : ByteArray) = ⟨#[116, 114, 101, 101]⟩)), if_neg (fun h => absurd h.2 (by decide) : ¬ (F.length = 1 ∧ (⟨#[119, 114, 105, 116, 101]⟩ : ByteArray) = ⟨#[99, 104, 101, 99, 107]⟩)), if_neg (fun h => absurd h.2 (by decide) : ¬ (F.length = 1 ∧ (⟨#[119, 114, 105, 116, 101]⟩ : ByteArray) = ⟨#[109, 111, 117, 110, 116]⟩)), if_neg (fun h => absurd h.2 (by decide) : ¬ (F.length = 1 ∧ (0 : Int) < 0)), if_neg (fun h => absurd h.2 (by decide) : ¬ (F.length = 2 ∧ (0 : Int) < 0)), if_neg (by decide : ¬ (⟨#[119, 114, 105, 116, 101]⟩ : ByteArray) = ⟨#[99, 114, 97, 115, 104]⟩), if_neg (by decide : ¬ (⟨#[119, 114, 105, 116, 101]⟩ : ByteArray) = ⟨#[97, 114, 109]⟩)]
  rw [restF_long F (hanF_none F (by rw [hk]; decide) (by rw [hk]; decide) (by rw [hk]; decide) (by rw [hk]; decide) (by rw [hk]; decide))]
  unfold longF
  rw [if_neg (by rw [hk]; decide : ¬ (F.getD 0 noText) = ⟨#[114, 101, 110, 97, 109, 101]⟩), if_neg (by rw [hk]; decide : ¬ (F.getD 0 noText) = ⟨#[108, 105, 110, 107]⟩), if_neg (by rw [hk]; decide : ¬ (F.getD 0 noText) = ⟨#[115, 121, 109, 108, 105, 110, 107]⟩), if_neg (by rw [hk]; decide : ¬ (F.getD 0 noText) = ⟨#[97, 112, 112, 101, 110, 100]⟩), if_pos hk]
  by_cases hn : F.length = 4
  · rw [if_pos (by rw [List.length_tail, hn]; constructor <;> decide : (3 ≤ F.tail.length ∧ (F.tail.length : Int) ≤ ((3 : Nat) : Int) + 0)), if_pos hn]
    obtain ⟨a, b, c, d, rfl⟩ := list4 hn
    show takeAll _ 0 [b, c, d] _ = (numF c).bind fun n => (unqD d).map fun d => (⟨1, 6, b, ⟨#[]⟩, 0, n, 0, d, []⟩ : Lst)
    rw [takes3]
    simp only [tk_Data, tk_Offset, tk_Path]
    all_goals (cases numF c <;> cases unqD d <;> rfl)
  · rw [if_neg (by rw [List.length_tail]; omega : ¬ (3 ≤ F.tail.length ∧ (F.tail.length : Int) ≤ ((3 : Nat) : Int) + 0)), if_neg hn]

theorem eq_fill (F : List ByteArray) (h1 : 1 ≤ F.length) (hk : (F.getD 0 noText) = ⟨#[102, 105, 108, 108]⟩) : fieldsOf F = modelF F := by
  have hc : cmdOf ⟨#[102, 105, 108, 108]⟩ theCmds = some ⟨⟨#[102, 105, 108, 108]⟩, 1, 6, [32, 35, 36, 37], 0⟩ := by kernel_rfl
  have hw : wordN ⟨#[102, 105, 108, 108]⟩ = 0 := by kernel_rfl
  have hl : loneN ⟨#[102, 105, 108, 108]⟩ = 0 := by kernel_rfl
  unfold fieldsOf modelF
  rw [hk, hc, hw, hl]
  show (if containsS F ⟨#[]⟩ = true then none else if 4 ≤ F.tail.length ∧ (F.tail.length : Int) ≤ ((4 : Nat) : Int) + 0 then takeAll [32, 35, 36, 37] 0 F.tail ⟨1, 6, ⟨#[]⟩, ⟨#[]⟩, 0, 0, 0, ⟨#[]⟩, []⟩ else none) = _
  by_cases he : containsS F ⟨#[]⟩ = true
  · rw [if_pos he, if_pos he]
  rw [if_neg he, if_neg he]
  rw [if_neg (fun h => absurd h.2 (by decide) : ¬ (F.length = 1 ∧ (⟨#[102, 105, 108, 108]⟩ : ByteArray) = ⟨#[116, 114, 101, 101]⟩)), if_neg (fun h => absurd h.2 (by decide) : ¬ (F.length = 1 ∧ (⟨#[102, 105, 108, 108]⟩ : ByteArray) = ⟨#[99, 104, 101, 99, 107]⟩)), if_neg (fun h => absurd h.2 (by decide) : ¬ (F.length = 1 ∧ (⟨#[102, 105, 108, 108]⟩ : ByteArray) = ⟨#[109, 111, 117, 110, 116]⟩)), if_neg (fun h => absurd h.2 (by decide) : ¬ (F.length = 1 ∧ (0 : Int) < 0)), if_neg (fun h => absurd h.2 (by decide) : ¬ (F.length = 2 ∧ (0 : Int) < 0)), if_neg (by decide : ¬ (⟨#[102, 105, 108, 108]⟩ : ByteArray) = ⟨#[99, 114, 97, 115, 104]⟩), if_neg (by decide : ¬ (⟨#[102, 105, 108, 108]⟩ : ByteArray) = ⟨#[97, 114, 109]⟩)]
  rw [restF_long F (hanF_none F (by rw [hk]; decide) (by rw [hk]; decide) (by rw [hk]; decide) (by rw [hk]; decide) (by rw [hk]; decide))]
  unfold longF
  rw [if_neg (by rw [hk]; decide : ¬ (F.getD 0 noText) = ⟨#[114, 101, 110, 97, 109, 101]⟩), if_neg (by rw [hk]; decide : ¬ (F.getD 0 noText) = ⟨#[108, 105, 110, 107]⟩), if_neg (by rw [hk]; decide : ¬ (F.getD 0 noText) = ⟨#[115, 121, 109, 108, 105, 110, 107]⟩), if_neg (by rw [hk]; decide : ¬ (F.getD 0 noText) = ⟨#[97, 112, 112, 101, 110, 100]⟩), if_neg (by rw [hk]; decide : ¬ (F.getD 0 noText) = ⟨#[119, 114, 105, 116, 101]⟩), if_pos hk]
  by_cases hn : F.length = 5
  · by_cases h4 : ((F.getD 4 noText)).size = 1 ∧ 97 ≤ chr (F.getD 4 noText) 0 ∧ chr (F.getD 4 noText) 0 ≤ 122
    · rw [if_pos (by rw [List.length_tail, hn]; constructor <;> decide : (4 ≤ F.tail.length ∧ (F.tail.length : Int) ≤ ((4 : Nat) : Int) + 0)), if_pos ⟨hn, h4⟩]
      obtain ⟨a, b, c, d, e, rfl⟩ := list5 hn
      replace h4 : e.size = 1 ∧ 97 ≤ chr e 0 ∧ chr e 0 ≤ 122 := h4
      show takeAll _ 0 [b, c, d, e] _ = (numF c).bind fun n => (numF d).bind fun m => if 0 ≤ m ∧ m ≤ 3000 then some (⟨1, 6, b, ⟨#[]⟩, 0, n, 0, (strOfNums (letL (chr e 0) m.toNat)), []⟩ : Lst) else none
      rw [takes4]
      simp only [tk_Length, tk_Letter, tk_Offset, tk_Path]
      cases numF c with
      | none => rfl
      | some n =>
        unfold lenF
        cases numF d with
        | none => rfl
        | some m =>
          show ((if 0 ≤ m ∧ m ≤ 3000 then some _ else none).bind _) = if 0 ≤ m ∧ m ≤ 3000 then _ else none
          by_cases hm : 0 ≤ m ∧ m ≤ 3000
          · rw [if_pos hm, if_pos hm]
            show letF _ e = _
            unfold letF
            rw [if_pos h4]
            show some (⟨_, _, _, _, _, _, _, strOfNums (letL (chr e 0) (aN m.toNat).size), _⟩ : Lst) = _
            rw [aN_size]
          · rw [if_neg hm, if_neg hm]
            rfl
    · rw [if_pos (by rw [List.length_tail, hn]; constructor <;> decide : (4 ≤ F.tail.length ∧ (F.tail.length : Int) ≤ ((4 : Nat) : Int) + 0)), if_neg (fun h => h4 h.2)]
      obtain ⟨a, b, c, d, e, rfl⟩ := list5 hn
      replace h4 : ¬ (e.size = 1 ∧ 97 ≤ chr e 0 ∧ chr e 0 ≤ 122) := h4
      show takeAll _ 0 [b, c, d, e] _ = none
      rw [takes4]
      simp only [tk_Length, tk_Letter, tk_Offset, tk_Path]
      cases numF c with
      | none => rfl
      | some n =>
        show (lenF _ d).bind (fun v => letF v e) = none
        cases lenF _ d with
        | none => rfl
        | some v => exact if_neg h4
  · rw [if_neg (by rw [List.length_tail]; omega : ¬ (4 ≤ F.tail.length ∧ (F.tail.length : Int) ≤ ((4 : Nat) : Int) + 0)), if_neg (fun h => hn h.1)]

theorem eq_trunc (F : List ByteArray) (h1 : 1 ≤ F.length) (hk : (F.getD 0 noText) = ⟨#[116, 114, 117, 110, 99]⟩) : fieldsOf F = modelF F := by
  have hc : cmdOf ⟨#[116, 114, 117, 110, 99]⟩ theCmds = some ⟨⟨#[116, 114, 117, 110, 99]⟩, 1, 7, [32, 38], 0⟩ := by kernel_rfl
  have hw : wordN ⟨#[116, 114, 117, 110, 99]⟩ = 0 := by kernel_rfl
  have hl : loneN ⟨#[116, 114, 117, 110, 99]⟩ = 0 := by kernel_rfl
  unfold fieldsOf modelF
  rw [hk, hc, hw, hl]
  show (if containsS F ⟨#[]⟩ = true then none else if 2 ≤ F.tail.length ∧ (F.tail.length : Int) ≤ ((2 : Nat) : Int) + 0 then takeAll [32, 38] 0 F.tail ⟨1, 7, ⟨#[]⟩, ⟨#[]⟩, 0, 0, 0, ⟨#[]⟩, []⟩ else none) = _
  by_cases he : containsS F ⟨#[]⟩ = true
  · rw [if_pos he, if_pos he]
  rw [if_neg he, if_neg he]
  rw [if_neg (fun h => absurd h.2 (by decide) : ¬ (F.length = 1 ∧ (⟨#[116, 114, 117, 110, 99]⟩ : ByteArray) = ⟨#[116, 114, 101, 101]⟩)), if_neg (fun h => absurd h.2 (by decide) : ¬ (F.length = 1 ∧ (⟨#[116, 114, 117, 110, 99]⟩ : ByteArray) = ⟨#[99, 104, 101, 99, 107]⟩)), if_neg (fun h => absurd h.2 (by decide) : ¬ (F.length = 1 ∧ (⟨#[116, 114, 117, 110, 99]⟩ : ByteArray) = ⟨#[109, 111, 117, 110, 116]⟩)), if_neg (fun h => absurd h.2 (by decide) : ¬ (F.length = 1 ∧ (0 : Int) < 0)), if_neg (fun h => absurd h.2 (by decide) : ¬ (F.length = 2 ∧ (0 : Int) < 0)), if_neg (by decide : ¬ (⟨#[116, 114, 117, 110, 99]⟩ : ByteArray) = ⟨#[99, 114, 97, 115, 104]⟩), if_neg (by decide : ¬ (⟨#[116, 114, 117, 110, 99]⟩ : ByteArray) = ⟨#[97, 114, 109]⟩)]
  rw [restF_long F (hanF_none F (by rw [hk]; decide) (by rw [hk]; decide) (by rw [hk]; decide) (by rw [hk]; decide) (by rw [hk]; decide))]
  unfold longF
  rw [if_neg (by rw [hk]; decide : ¬ (F.getD 0 noText) = ⟨#[114, 101, 110, 97, 109, 101]⟩), if_neg (by rw [hk]; decide : ¬ (F.getD 0 noText) = ⟨#[108, 105, 110, 107]⟩), if_neg (by rw [hk]; decide : ¬ (F.getD 0 noText) = ⟨#[115, 121, 109, 108, 105, 110, 107]⟩), if_neg (by rw [hk]; decide : ¬ (F.getD 0 noText) = ⟨#[97, 112, 112, 101, 110, 100]⟩), if_neg (by rw [hk]; decide : ¬ (F.getD 0 noText) = ⟨#[119, 114, 105, 116, 101]⟩), if_neg (by rw [hk]; decide : ¬ (F.getD 0 noText) = ⟨#[102, 105, 108, 108]⟩), if_pos hk]
  by_cases hn : F.length = 3
  · rw [if_pos (by rw [List.length_tail, hn]; constructor <;> decide : (2 ≤ F.tail.length ∧ (F.tail.length : Int) ≤ ((2 : Nat) : Int) + 0)), if_pos hn]
    obtain ⟨a, b, c, rfl⟩ := list3 hn
    show takeAll _ 0 [b, c] _ = (numF c).map fun n => (⟨1, 7, b, ⟨#[]⟩, 0, 0, n, ⟨#[]⟩, []⟩ : Lst)
    rw [takes2]
    simp only [tk_Path, tk_Size]
    all_goals (cases numF c <;> rfl)
  · rw [if_neg (by rw [List.length_tail]; omega : ¬ (2 ≤ F.tail.length ∧ (F.tail.length : Int) ≤ ((2 : Nat) : Int) + 0)), if_neg hn]

theorem eq_read (F : List ByteArray) (h1 : 1 ≤ F.length) (hk : (F.getD 0 noText) = ⟨#[114, 101, 97, 100]⟩) : fieldsOf F = modelF F := by
  have hc : cmdOf ⟨#[114, 101, 97, 100]⟩ theCmds = some ⟨⟨#[114, 101, 97, 100]⟩, 1, 17, [32, 35, 38], 0⟩ := by kernel_rfl
  have hw : wordN ⟨#[114, 101, 97, 100]⟩ = 0 := by kernel_rfl
  have hl : loneN ⟨#[114, 101, 97, 100]⟩ = 0 := by kernel_rfl
  unfold fieldsOf modelF
  rw [hk, hc, hw, hl]
  show (if containsS F ⟨#[]⟩ = true then none else if 3 ≤ F.tail.length ∧ (F.tail.length : Int) ≤ ((3 : Nat) : Int) + 0 then takeAll [32, 35, 38] 0 F.tail ⟨1, 17, ⟨#[]⟩, ⟨#[]⟩, 0, 0, 0, ⟨#[]⟩, []⟩ else none) = _
  by_cases he : containsS F ⟨#[]⟩ = true
  · rw [if_pos he, if_pos he]
  rw [if_neg he, if_neg he]
  rw [if_neg (fun h => absurd h.2 (by decide) : ¬ (F.length = 1 ∧ (⟨#[114, 101, 97, 100]⟩ : ByteArray) = ⟨#[116, 114, 101, 101]⟩)), if_neg (fun h => absurd h.2 (by decide) : ¬ (F.length = 1 ∧ (⟨#[114, 101, 97, 100]⟩ : ByteArray) = ⟨#[99, 104, 101, 99, 107]⟩)), if_neg (fun h => absurd h.2 (by decide) : ¬ (F.length = 1 ∧ (⟨#[114, 101, 97, 100]⟩ : ByteArray) = ⟨#[109, 111, 117, 110, 116]⟩)), if_neg (fun h => absurd h.2 (by decide) : ¬ (F.length = 1 ∧ (0 : Int) < 0)), if_neg (fun h => absurd h.2 (by decide) : ¬ (F.length = 2 ∧ (0 : Int) < 0)), if_neg (by decide : ¬ (⟨#[114, 101, 97, 100]⟩ : ByteArray) = ⟨#[99, 114, 97, 115, 104]⟩), if_neg (by decide : ¬ (⟨#[114, 101, 97, 100]⟩ : ByteArray) = ⟨#[97, 114, 109]⟩)]
  rw [restF_long F (hanF_none F (by rw [hk]; decide) (by rw [hk]; decide) (by rw [hk]; decide) (by rw [hk]; decide) (by rw [hk]; decide))]
  unfold longF
  rw [if_neg (by rw [hk]; decide : ¬ (F.getD 0 noText) = ⟨#[114, 101, 110, 97, 109, 101]⟩), if_neg (by rw [hk]; decide : ¬ (F.getD 0 noText) = ⟨#[108, 105, 110, 107]⟩), if_neg (by rw [hk]; decide : ¬ (F.getD 0 noText) = ⟨#[115, 121, 109, 108, 105, 110, 107]⟩), if_neg (by rw [hk]; decide : ¬ (F.getD 0 noText) = ⟨#[97, 112, 112, 101, 110, 100]⟩), if_neg (by rw [hk]; decide : ¬ (F.getD 0 noText) = ⟨#[119, 114, 105, 116, 101]⟩), if_neg (by rw [hk]; decide : ¬ (F.getD 0 noText) = ⟨#[102, 105, 108, 108]⟩), if_neg (by rw [hk]; decide : ¬ (F.getD 0 noText) = ⟨#[116, 114, 117, 110, 99]⟩), if_pos hk]
  by_cases hn : F.length = 4
  · rw [if_pos (by rw [List.length_tail, hn]; constructor <;> decide : (3 ≤ F.tail.length ∧ (F.tail.length : Int) ≤ ((3 : Nat) : Int) + 0)), if_pos hn]
    obtain ⟨a, b, c, d, rfl⟩ := list4 hn
    show takeAll _ 0 [b, c, d] _ = (numF c).bind fun n => (numF d).map fun m => (⟨1, 17, b, ⟨#[]⟩, 0, n, m, ⟨#[]⟩, []⟩ : Lst)
    rw [takes3]
    simp only [tk_Offset, tk_Path, tk_Size]
    all_goals (cases numF c <;> cases numF d <;> rfl)
  · rw [if_neg (by rw [List.length_tail]; omega : ¬ (3 ≤ F.tail.length ∧ (F.tail.length : Int) ≤ ((3 : Nat) : Int) + 0)), if_neg hn]

theorem eq_close (F : List ByteArray) (h1 : 1 ≤ F.length) (hk : (F.getD 0 noText) = ⟨#[99, 108, 111, 115, 101]⟩) : fieldsOf F = modelF F := by
  have hc : cmdOf ⟨#[99, 108, 111, 115, 101]⟩ theCmds = some ⟨⟨#[99, 108, 111, 115, 101]⟩, 1, 13, [39], 0⟩ := by kernel_rfl
  have hw : wordN ⟨#[99, 108, 111, 115, 101]⟩ = 0 := by kernel_rfl
  have hl : loneN ⟨#[99, 108, 111, 115, 101]⟩ = 0 := by kernel_rfl
  unfold fieldsOf modelF
  rw [hk, hc, hw, hl]
  show (if containsS F ⟨#[]⟩ = true then none else if 1 ≤ F.tail.length ∧ (F.tail.length : Int) ≤ ((1 : Nat) : Int) + 0 then takeAll [39] 0 F.tail ⟨1, 13, ⟨#[]⟩, ⟨#[]⟩, 0, 0, 0, ⟨#[]⟩, []⟩ else none) = _
  by_cases he : containsS F ⟨#[]⟩ = true
  · rw [if_pos he, if_pos he]
  rw [if_neg he, if_neg he]
  rw [if_neg (fun h => absurd h.2 (by decide) : ¬ (F.length = 1 ∧ (⟨#[99, 108, 111, 115, 101]⟩ : ByteArray) = ⟨#[116, 114, 101, 101]⟩)), if_neg (fun h => absurd h.2 (by decide) : ¬ (F.length = 1 ∧ (⟨#[99, 108, 111, 115, 101]⟩ : ByteArray) = ⟨#[99, 104, 101, 99, 107]⟩)), if_neg (fun h => absurd h.2 (by decide) : ¬ (F.length = 1 ∧ (⟨#[99, 108, 111, 115, 101]⟩ : ByteArray) = ⟨#[109, 111, 117, 110, 116]⟩)), if_neg (fun h => absurd h.2 (by decide) : ¬ (F.length = 1 ∧ (0 : Int) < 0)), if_neg (fun h => absurd h.2 (by decide) : ¬ (F.length = 2 ∧ (0 : Int) < 0)), if_neg (by decide : ¬ (⟨#[99, 108, 111, 115, 101]⟩ : ByteArray) = ⟨#[99, 114, 97, 115, 104]⟩), if_neg (by decide : ¬ (⟨#[99, 108, 111, 115, 101]⟩ : ByteArray) = ⟨#[97, 114, 109]⟩)]
  rw [restF_han F (longF_none F (by rw [hk]; decide) (by rw [hk]; decide) (by rw [hk]; decide) (by rw [hk]; decide) (by rw [hk]; decide) (by rw [hk]; decide) (by rw [hk]; decide) (by rw [hk]; decide))]
  unfold hanF
  rw [if_pos hk]
  by_cases hn : F.length = 2
  · rw [if_pos (by rw [List.length_tail, hn]; constructor <;> decide : (1 ≤ F.tail.length ∧ (F.tail.length : Int) ≤ ((1 : Nat) : Int) + 0)), if_pos hn]
    obtain ⟨a, b, rfl⟩ := list2 hn
    show takeAll _ 0 [b] _ = (numF b).map fun h => (⟨1, 13, ⟨#[]⟩, ⟨#[]⟩, h, 0, 0, ⟨#[]⟩, []⟩ : Lst)
    rw [takes1]
    simp only [tk_Handle]
    all_goals (cases numF b <;> rfl)
  · rw [if_neg (by rw [List.length_tail]; omega : ¬ (1 ≤ F.tail.length ∧ (F.tail.length : Int) ≤ ((1 : Nat) : Int) + 0)), if_neg hn]

theorem eq_fstat (F : List ByteArray) (h1 : 1 ≤ F.length) (hk : (F.getD 0 noText) = ⟨#[102, 115, 116, 97, 116]⟩) : fieldsOf F = modelF F := by
  have hc : cmdOf ⟨#[102, 115, 116, 97, 116]⟩ theCmds = some ⟨⟨#[102, 115, 116, 97, 116]⟩, 1, 16, [39], 0⟩ := by kernel_rfl
  have hw : wordN ⟨#[102, 115, 116, 97, 116]⟩ = 0 := by kernel_rfl
  have hl : loneN ⟨#[102, 115, 116, 97, 116]⟩ = 0 := by kernel_rfl
  unfold fieldsOf modelF
  rw [hk, hc, hw, hl]
  show (if containsS F ⟨#[]⟩ = true then none else if 1 ≤ F.tail.length ∧ (F.tail.length : Int) ≤ ((1 : Nat) : Int) + 0 then takeAll [39] 0 F.tail ⟨1, 16, ⟨#[]⟩, ⟨#[]⟩, 0, 0, 0, ⟨#[]⟩, []⟩ else none) = _
  by_cases he : containsS F ⟨#[]⟩ = true
  · rw [if_pos he, if_pos he]
  rw [if_neg he, if_neg he]
  rw [if_neg (fun h => absurd h.2 (by decide) : ¬ (F.length = 1 ∧ (⟨#[102, 115, 116, 97, 116]⟩ : ByteArray) = ⟨#[116, 114, 101, 101]⟩)), if_neg (fun h => absurd h.2 (by decide) : ¬ (F.length = 1 ∧ (⟨#[102, 115, 116, 97, 116]⟩ : ByteArray) = ⟨#[99, 104, 101, 99, 107]⟩)), if_neg (fun h => absurd h.2 (by decide) : ¬ (F.length = 1 ∧ (⟨#[102, 115, 116, 97, 116]⟩ : ByteArray) = ⟨#[109, 111, 117, 110, 116]⟩)), if_neg (fun h => absurd h.2 (by decide) : ¬ (F.length = 1 ∧ (0 : Int) < 0)), if_neg (fun h => absurd h.2 (by decide) : ¬ (F.length = 2 ∧ (0 : Int) < 0)), if_neg (by decide : ¬ (⟨#[102, 115, 116, 97, 116]⟩ : ByteArray) = ⟨#[99, 114, 97, 115, 104]⟩), if_neg (by decide : ¬ (⟨#[102, 115, 116, 97, 116]⟩ : ByteArray) = ⟨#[97, 114, 109]⟩)]
  rw [restF_han F (longF_none F (by rw [hk]; decide) (by rw [hk]; decide) (by rw [hk]; decide) (by rw [hk]; decide) (by rw [hk]; decide) (by rw [hk]; decide) (by rw [hk]; decide) (by rw [hk]; decide))]
  unfold hanF
  rw [if_neg (by rw [hk]; decide : ¬ (F.getD 0 noText) = ⟨#[99, 108, 111, 115, 101]⟩), if_pos hk]
  by_cases hn : F.length = 2
  · rw [if_pos (by rw [List.length_tail, hn]; constructor <;> decide : (1 ≤ F.tail.length ∧ (F.tail.length : Int) ≤ ((1 : Nat) : Int) + 0)), if_pos hn]
    obtain ⟨a, b, rfl⟩ := list2 hn
    show takeAll _ 0 [b] _ = (numF b).map fun h => (⟨1, 16, ⟨#[]⟩, ⟨#[]⟩, h, 0, 0, ⟨#[]⟩, []⟩ : Lst)
    rw [takes1]
    simp only [tk_Handle]
    all_goals (cases numF b <;> rfl)
  · rw [if_neg (by rw [List.length_tail]; omega : ¬ (1 ≤ F.tail.length ∧ (F.tail.length : Int) ≤ ((1 : Nat) : Int) + 0)), if_neg hn]

theorem eq_ftrunc (F : List ByteArray) (h1 : 1 ≤ F.length) (hk : (F.getD 0 noText) = ⟨#[102, 116, 114, 117, 110, 99]⟩) : fieldsOf F = modelF F := by
  have hc : cmdOf ⟨#[102, 116, 114, 117, 110, 99]⟩ theCmds = some ⟨⟨#[102, 116, 114, 117, 110, 99]⟩, 1, 12, [39, 38], 0⟩ := by kernel_rfl
  have hw : wordN ⟨#[102, 116, 114, 117, 110, 99]⟩ = 0 := by kernel_rfl
  have hl : loneN ⟨#[102, 116, 114, 117, 110, 99]⟩ = 0 := by kernel_rfl
  unfold fieldsOf modelF
  rw [hk, hc, hw, hl]
  show (if containsS F ⟨#[]⟩ = true then none else if 2 ≤ F.tail.length ∧ (F.tail.length : Int) ≤ ((2 : Nat) : Int) + 0 then takeAll [39, 38] 0 F.tail ⟨1, 12, ⟨#[]⟩, ⟨#[]⟩, 0, 0, 0, ⟨#[]⟩, []⟩ else none) = _
  by_cases he : containsS F ⟨#[]⟩ = true
  · rw [if_pos he, if_pos he]
  rw [if_neg he, if_neg he]
  rw [if_neg (fun h => absurd h.2 (by decide) : ¬ (F.length = 1 ∧ (⟨#[102, 116, 114, 117, 110, 99]⟩ : ByteArray) = ⟨#[116, 114, 101, 101]⟩)), if_neg (fun h => absurd h.2 (by decide) : ¬ (F.length = 1 ∧ (⟨#[102, 116, 114, 117, 110, 99]⟩ : ByteArray) = ⟨#[99, 104, 101, 99, 107]⟩)), if_neg (fun h => absurd h.2 (by decide) : ¬ (F.length = 1 ∧ (⟨#[102, 116, 114, 117, 110, 99]⟩ : ByteArray) = ⟨#[109, 111, 117, 110, 116]⟩)), if_neg (fun h => absurd h.2 (by decide) : ¬ (F.length = 1 ∧ (0 : Int) < 0)), if_neg (fun h => absurd h.2 (by decide) : ¬ (F.length = 2 ∧ (0 : Int) < 0)), if_neg (by decide : ¬ (⟨#[102, 116, 114, 117, 110, 99]⟩ : ByteArray) = ⟨#[99, 114, 97, 115, 104]⟩), if_neg (by decide : ¬ (⟨#[102, 116, 114, 117, 110, 99]⟩ : ByteArray) = ⟨#[97, 114, 109]⟩)]
  rw [restF_han F (longF_none F (by rw [hk]; decide) (by rw [hk]; decide) (by rw [hk]; decide) (by rw [hk]; decide) (by rw [hk]; decide) (by rw [hk]; decide) (by rw [hk]; decide) (by rw [hk]; decide))]
  unfold hanF
  rw [if_neg (by rw [hk]; decide : ¬ (F.getD 0 noText) = ⟨#[99, 108, 111, 115, 101]⟩), if_neg (by rw [hk]; decide : ¬ (F.getD 0 noText) = ⟨#[102, 115, 116, 97, 116]⟩), if_pos hk]
  by_cases hn : F.length = 3
  · rw [if_pos (by rw [List.length_tail, hn]; constructor <;> decide : (2 ≤ F.tail.length ∧ (F.tail.length : Int) ≤ ((2 : Nat) : Int) + 0)), if_pos hn]
    obtain ⟨a, b, c, rfl⟩ := list3 hn
    show takeAll _ 0 [b, c] _ = (numF b).bind fun h => (numF c).map fun n => (⟨1, 12, ⟨#[]⟩, ⟨#[]⟩, h, 0, n, ⟨#[]⟩, []⟩ : Lst)
    rw [takes2]
    simp only [tk_Handle, tk_Size]
    all_goals (cases numF b <;> cases numF c <;> rfl)
  · rw [if_neg (by rw [List.length_tail]; omega : ¬ (2 ≤ F.tail.length ∧ (F.tail.length : Int) ≤ ((2 : Nat) : Int) + 0)), if_neg hn]

theorem eq_pread (F : List ByteArray) (h1 : 1 ≤ F.length) (hk : (F.getD 0 noText) = ⟨#[112, 114, 101, 97, 100]⟩) : fieldsOf F = modelF F := by
  have hc : cmdOf ⟨#[112, 114, 101, 97, 100]⟩ theCmds = some ⟨⟨#[112, 114, 101, 97, 100]⟩, 1, 15, [39, 35, 38], 0⟩ := by kernel_rfl
  have hw : wordN ⟨#[112, 114, 101, 97, 100]⟩ = 0 := by kernel_rfl
  have hl : loneN ⟨#[112, 114, 101, 97, 100]⟩ = 0 := by kernel_rfl
  unfold fieldsOf modelF
  rw [hk, hc, hw, hl]
  show (if containsS F ⟨#[]⟩ = true then none else if 3 ≤ F.tail.length ∧ (F.tail.length : Int) ≤ ((3 : Nat) : Int) + 0 then takeAll [39, 35, 38] 0 F.tail ⟨1, 15, ⟨#[]⟩, ⟨#[]⟩, 0, 0, 0, ⟨#[]⟩, []⟩ else none) = _
  by_cases he : containsS F ⟨#[]⟩ = true
  · rw [if_pos he, if_pos he]
  rw [if_neg he, if_neg he]
  rw [if_neg (fun h => absurd h.2 (by decide) : ¬ (F.length = 1 ∧ (⟨#[112, 114, 101, 97, 100]⟩ : ByteArray) = ⟨#[116, 114, 101, 101]⟩)), if_neg (fun h => absurd h.2 (by decide) : ¬ (F.length = 1 ∧ (⟨#[112, 114, 101, 97, 100]⟩ : ByteArray) = ⟨#[99, 104, 101, 99, 107]⟩)), if_neg (fun h => absurd h.2 (by decide) : ¬ (F.length = 1 ∧ (⟨#[112, 114, 101, 97, 100]⟩ : ByteArray) = ⟨#[109, 111, 117, 110, 116]⟩)), if_neg (fun h => absurd h.2 (by decide) : ¬ (F.length = 1 ∧ (0 : Int) < 0)), if_neg (fun h => absurd h.2 (by decide) : ¬ (F.length = 2 ∧ (0 : Int) < 0)), if_neg (by decide : ¬ (⟨#[112, 114, 101, 97, 100]⟩ : ByteArray) = ⟨#[99, 114, 97, 115, 104]⟩), if_neg (by decide : ¬ (⟨#[112, 114, 101, 97, 100]⟩ : ByteArray) = ⟨#[97, 114, 109]⟩)]
  rw [restF_han F (longF_none F (by rw [hk]; decide) (by rw [hk]; decide) (by rw [hk]; decide) (by rw [hk]; decide) (by rw [hk]; decide) (by rw [hk]; decide) (by rw [hk]; decide) (by rw [hk]; decide))]
  unfold hanF
  rw [if_neg (by rw [hk]; decide : ¬ (F.getD 0 noText) = ⟨#[99, 108, 111, 115, 101]⟩), if_neg (by rw [hk]; decide : ¬ (F.getD 0 noText) = ⟨#[102, 115, 116, 97, 116]⟩), if_neg (by rw [hk]; decide : ¬ (F.getD 0 noText) = ⟨#[102, 116, 114, 117, 110, 99]⟩), if_pos hk]
  by_cases hn : F.length = 4
  · rw [if_pos (by rw [List.length_tail, hn]; constructor <;> decide : (3 ≤ F.tail.length ∧ (F.tail.length : Int) ≤ ((3 : Nat) : Int) + 0)), if_pos hn]
    obtain ⟨a, b, c, d, rfl⟩ := list4 hn
    show takeAll _ 0 [b, c, d] _ = (numF b).bind fun h => (numF c).bind fun n => (numF d).map fun m => (⟨1, 15, ⟨#[]⟩, ⟨#[]⟩, h, n, m, ⟨#[]⟩, []⟩ : Lst)
    rw [takes3]
    simp only [tk_Handle, tk_Offset, tk_Size]
    all_goals (cases numF b <;> cases numF c <;> cases numF d <;> rfl)
  · rw [if_neg (by rw [List.length_tail]; omega : ¬ (3 ≤ F.tail.length ∧ (F.tail.length : Int) ≤ ((3 : Nat) : Int) + 0)), if_neg hn]

theorem eq_pwrite (F : List ByteArray) (h1 : 1 ≤ F.length) (hk : (F.getD 0 noText) = ⟨#[112, 119, 114, 105, 116, 101]⟩) : fieldsOf F = modelF F := by
  have hc : cmdOf ⟨#[112, 119, 114, 105, 116, 101]⟩ theCmds = some ⟨⟨#[112, 119, 114, 105, 116, 101]⟩, 1, 11, [39, 35, 34], 0⟩ := by kernel_rfl
  have hw : wordN ⟨#[112, 119, 114, 105, 116, 101]⟩ = 0 := by kernel_rfl
  have hl : loneN ⟨#[112, 119, 114, 105, 116, 101]⟩ = 0 := by kernel_rfl
  unfold fieldsOf modelF
  rw [hk, hc, hw, hl]
  show (if containsS F ⟨#[]⟩ = true then none else if 3 ≤ F.tail.length ∧ (F.tail.length : Int) ≤ ((3 : Nat) : Int) + 0 then takeAll [39, 35, 34] 0 F.tail ⟨1, 11, ⟨#[]⟩, ⟨#[]⟩, 0, 0, 0, ⟨#[]⟩, []⟩ else none) = _
  by_cases he : containsS F ⟨#[]⟩ = true
  · rw [if_pos he, if_pos he]
  rw [if_neg he, if_neg he]
  rw [if_neg (fun h => absurd h.2 (by decide) : ¬ (F.length = 1 ∧ (⟨#[112, 119, 114, 105, 116, 101]⟩ : ByteArray) = ⟨#[116, 114, 101, 101]⟩)), if_neg (fun h => absurd h.2 (by decide) : ¬ (F.length = 1 ∧ (⟨#[112, 119, 114, 105, 116, 101]⟩ : ByteArray) = ⟨#[99, 104, 101, 99, 107]⟩)), if_neg (fun h => absurd h.2 (by decide) : ¬ (F.length = 1 ∧ (⟨#[112, 119, 114, 105, 116, 101]⟩ : ByteArray) = ⟨#[109, 111, 117, 110, 116]⟩)), if_neg (fun h => absurd h.2 (by decide) : ¬ (F.length = 1 ∧ (0 : Int) < 0)), if_neg (fun h => absurd h.2 (by decide) : ¬ (F.length = 2 ∧ (0 : Int) < 0)), if_neg (by decide : ¬ (⟨#[112, 119, 114, 105, 116, 101]⟩ : ByteArray) = ⟨#[99, 114, 97, 115, 104]⟩), if_neg (by decide : ¬ (⟨#[112, 119, 114, 105, 116, 101]⟩ : ByteArray) = ⟨#[97, 114, 109]⟩)]
  rw [restF_han F (longF_none F (by rw [hk]; decide) (by rw [hk]; decide) (by rw [hk]; decide) (by rw [hk]; decide) (by rw [hk]; decide) (by rw [hk]; decide) (by rw [hk]; decide) (by rw [hk]; decide))]
  unfold hanF
  rw [if_neg (by rw [hk]; decide : ¬ (F.getD 0 noText) = ⟨#[99, 108, 111, 115, 101]⟩), if_neg (by rw [hk]; decide : ¬ (F.getD 0 noText) = ⟨#[102, 115, 116, 97, 116]⟩), if_neg (by rw [hk]; decide : ¬ (F.getD 0 noText) = ⟨#[102, 116, 114, 117, 110, 99]⟩), if_neg (by rw [hk]; decide : ¬ (F.getD 0 noText) = ⟨#[112, 114, 101, 97, 100]⟩), if_pos hk]
  by_cases hn : F.length = 4
  · rw [if_pos (by rw [List.length_tail, hn]; constructor <;> decide : (3 ≤ F.tail.length ∧ (F.tail.length : Int) ≤ ((3 : Nat) : Int) + 0)), if_pos hn]
    obtain ⟨a, b, c, d, rfl⟩ := list4 hn
    show takeAll _ 0 [b, c, d] _ = (numF b).bind fun h => (numF c).bind fun n => (unqD d).map fun d => (⟨1, 11, ⟨#[]⟩, ⟨#[]⟩, h, n, 0, d, []⟩ : Lst)
    rw [takes3]
    simp only [tk_Data, tk_Handle, tk_Offset]
    all_goals (cases numF b <;> cases numF c <;> cases unqD d <;> rfl)
  · rw [if_neg (by rw [List.length_tail]; omega : ¬ (3 ≤ F.tail.length ∧ (F.tail.length : Int) ≤ ((3 : Nat) : Int) + 0)), if_neg hn]

theorem eq_sync (F : List ByteArray) (h1 : 1 ≤ F.length) (hk : (F.getD 0 noText) = ⟨#[115, 121, 110, 99]⟩) : fieldsOf F = modelF F := by
  have hc : cmdOf ⟨#[115, 121, 110, 99]⟩ theCmds = some ⟨⟨#[115, 121, 110, 99]⟩, 1, 22, [], 0⟩ := by kernel_rfl
  have hw : wordN ⟨#[115, 121, 110, 99]⟩ = 0 := by kernel_rfl
  have hl : loneN ⟨#[115, 121, 110, 99]⟩ = 22 := by kernel_rfl
  unfold fieldsOf modelF
  rw [hk, hc, hw, hl]
  show (if containsS F ⟨#[]⟩ = true then none else if 0 ≤ F.tail.length ∧ (F.tail.length : Int) ≤ ((0 : Nat) : Int) + 0 then takeAll [] 0 F.tail ⟨1, 22, ⟨#[]⟩, ⟨#[]⟩, 0, 0, 0, ⟨#[]⟩, []⟩ else none) = _
  by_cases he : containsS F ⟨#[]⟩ = true
  · rw [if_pos he, if_pos he]
  rw [if_neg he, if_neg he]
  by_cases hn : F.length = 1
  · rw [if_pos (by rw [List.length_tail, hn]; constructor <;> decide : (0 ≤ F.tail.length ∧ (F.tail.length : Int) ≤ ((0 : Nat) : Int) + 0)), if_neg (fun h => absurd h.2 (by decide) : ¬ (F.length = 1 ∧ (⟨#[115, 121, 110, 99]⟩ : ByteArray) = ⟨#[116, 114, 101, 101]⟩)), if_neg (fun h => absurd h.2 (by decide) : ¬ (F.length = 1 ∧ (⟨#[115, 121, 110, 99]⟩ : ByteArray) = ⟨#[99, 104, 101, 99, 107]⟩)), if_neg (fun h => absurd h.2 (by decide) : ¬ (F.length = 1 ∧ (⟨#[115, 121, 110, 99]⟩ : ByteArray) = ⟨#[109, 111, 117, 110, 116]⟩)), if_pos (⟨hn, by decide⟩ : F.length = 1 ∧ (0 : Int) < 22)]
    obtain ⟨a, rfl⟩ := list1 hn
    rfl
  · rw [if_neg (by rw [List.length_tail]; omega : ¬ (0 ≤ F.tail.length ∧ (F.tail.length : Int) ≤ ((0 : Nat) : Int) + 0)), if_neg (fun h => absurd h.2 (by decide) : ¬ (F.length = 1 ∧ (⟨#[115, 121, 110, 99]⟩ : ByteArray) = ⟨#[116, 114, 101, 101]⟩)), if_neg (fun h => absurd h.2 (by decide) : ¬ (F.length = 1 ∧ (⟨#[115, 121, 110, 99]⟩ : ByteArray) = ⟨#[99, 104, 101, 99, 107]⟩)), if_neg (fun h => absurd h.2 (by decide) : ¬ (F.length = 1 ∧ (⟨#[115, 121, 110, 99]⟩ : ByteArray) = ⟨#[109, 111, 117, 110, 116]⟩)), if_neg (fun h => hn h.1 : ¬ (F.length = 1 ∧ (0 : Int) < 22)), if_neg (fun h => absurd h.2 (by decide) : ¬ (F.length = 2 ∧ (0 : Int) < 0)), if_neg (by decide : ¬ (⟨#[115, 121, 110, 99]⟩ : ByteArray) = ⟨#[99, 114, 97, 115, 104]⟩), if_neg (by decide : ¬ (⟨#[115, 121, 110, 99]⟩ : ByteArray) = ⟨#[97, 114, 109]⟩), restF_none F (by rw [hk]; decide) (by rw [hk]; decide) (by rw [hk]; decide) (by rw [hk]; decide) (by rw [hk]; decide) (by rw [hk]; decide) (by rw [hk]; decide) (by rw [hk]; decide) (by rw [hk]; decide) (by rw [hk]; decide) (by rw [hk]; decide) (by rw [hk]; decide) (by rw [hk]; decide)]

theorem eq_checkpoint (F : List ByteArray) (h1 : 1 ≤ F.length) (hk : (F.getD 0 noText) = ⟨#[99, 104, 101, 99, 107, 112, 111, 105, 110, 116]⟩) : fieldsOf F = modelF F := by
  have hc : cmdOf ⟨#[99, 104, 101, 99, 107, 112, 111, 105, 110, 116]⟩ theCmds = some ⟨⟨#[99, 104, 101, 99, 107, 112, 111, 105, 110, 116]⟩, 1, 23, [], 0⟩ := by kernel_rfl
  have hw : wordN ⟨#[99, 104, 101, 99, 107, 112, 111, 105, 110, 116]⟩ = 0 := by kernel_rfl
  have hl : loneN ⟨#[99, 104, 101, 99, 107, 112, 111, 105, 110, 116]⟩ = 23 := by kernel_rfl
  unfold fieldsOf modelF
  rw [hk, hc, hw, hl]
  show (if containsS F ⟨#[]⟩ = true then none else if 0 ≤ F.tail.length ∧ (F.tail.length : Int) ≤ ((0 : Nat) : Int) + 0 then takeAll [] 0 F.tail ⟨1, 23, ⟨#[]⟩, ⟨#[]⟩, 0, 0, 0, ⟨#[]⟩, []⟩ else none) = _
  by_cases he : containsS F ⟨#[]⟩ = true
  · rw [if_pos he, if_pos he]
  rw [if_neg he, if_neg he]
  by_cases hn : F.length = 1
  · rw [if_pos (by rw [List.length_tail, hn]; constructor <;> decide : (0 ≤ F.tail.length ∧ (F.tail.length : Int) ≤ ((0 : Nat) : Int) + 0)), if_neg (fun h => absurd h.2 (by decide) : ¬ (F.length = 1 ∧ (⟨#[99, 104, 101, 99, 107, 112, 111, 105, 110, 116]⟩ : ByteArray) = ⟨#[116, 114, 101, 101]⟩)), if_neg (fun h => absurd h.2 (by decide) : ¬ (F.length = 1 ∧ (⟨#[99, 104, 101, 99, 107, 112, 111, 105, 110, 116]⟩ : ByteArray) = ⟨#[99, 104, 101, 99, 107]⟩)), if_neg (fun h => absurd h.2 (by decide) : ¬ (F.length = 1 ∧ (⟨#[99, 104, 101, 99, 107, 112, 111, 105, 110, 116]⟩ : ByteArray) = ⟨#[109, 111, 117, 110, 116]⟩)), if_pos (⟨hn, by decide⟩ : F.length = 1 ∧ (0 : Int) < 23)]
    obtain ⟨a, rfl⟩ := list1 hn
    rfl
  · rw [if_neg (by rw [List.length_tail]; omega : ¬ (0 ≤ F.tail.length ∧ (F.tail.length : Int) ≤ ((0 : Nat) : Int) + 0)), if_neg (fun h => absurd h.2 (by decide) : ¬ (F.length = 1 ∧ (⟨#[99, 104, 101, 99, 107, 112, 111, 105, 110, 116]⟩ : ByteArray) = ⟨#[116, 114, 101, 101]⟩)), if_neg (fun h => absurd h.2 (by decide) : ¬ (F.length = 1 ∧ (⟨#[99, 104, 101, 99, 107, 112, 111, 105, 110, 116]⟩ : ByteArray) = ⟨#[99, 104, 101, 99, 107]⟩)), if_neg (fun h => absurd h.2 (by decide) : ¬ (F.length = 1 ∧ (⟨#[99, 104, 101, 99, 107, 112, 111, 105, 110, 116]⟩ : ByteArray) = ⟨#[109, 111, 117, 110, 116]⟩)), if_neg (fun h => hn h.1 : ¬ (F.length = 1 ∧ (0 : Int) < 23)), if_neg (fun h => absurd h.2 (by decide) : ¬ (F.length = 2 ∧ (0 : Int) < 0)), if_neg (by decide : ¬ (⟨#[99, 104, 101, 99, 107, 112, 111, 105, 110, 116]⟩ : ByteArray) = ⟨#[99, 114, 97, 115, 104]⟩), if_neg (by decide : ¬ (⟨#[99, 104, 101, 99, 107, 112, 111, 105, 110, 116]⟩ : ByteArray) = ⟨#[97, 114, 109]⟩), restF_none F (by rw [hk]; decide) (by rw [hk]; decide) (by rw [hk]; decide) (by rw [hk]; decide) (by rw [hk]; decide) (by rw [hk]; decide) (by rw [hk]; decide) (by rw [hk]; decide) (by rw [hk]; decide) (by rw [hk]; decide) (by rw [hk]; decide) (by rw [hk]; decide) (by rw [hk]; decide)]

theorem eq_space (F : List ByteArray) (h1 : 1 ≤ F.length) (hk : (F.getD 0 noText) = ⟨#[115, 112, 97, 99, 101]⟩) : fieldsOf F = modelF F := by
  have hc : cmdOf ⟨#[115, 112, 97, 99, 101]⟩ theCmds = some ⟨⟨#[115, 112, 97, 99, 101]⟩, 1, 24, [], 0⟩ := by kernel_rfl
  have hw : wordN ⟨#[115, 112, 97, 99, 101]⟩ = 0 := by kernel_rfl
  have hl : loneN ⟨#[115, 112, 97, 99, 101]⟩ = 24 := by kernel_rfl
  unfold fieldsOf modelF
  rw [hk, hc, hw, hl]
  show (if containsS F ⟨#[]⟩ = true then none else if 0 ≤ F.tail.length ∧ (F.tail.length : Int) ≤ ((0 : Nat) : Int) + 0 then takeAll [] 0 F.tail ⟨1, 24, ⟨#[]⟩, ⟨#[]⟩, 0, 0, 0, ⟨#[]⟩, []⟩ else none) = _
  by_cases he : containsS F ⟨#[]⟩ = true
  · rw [if_pos he, if_pos he]
  rw [if_neg he, if_neg he]
  by_cases hn : F.length = 1
  · rw [if_pos (by rw [List.length_tail, hn]; constructor <;> decide : (0 ≤ F.tail.length ∧ (F.tail.length : Int) ≤ ((0 : Nat) : Int) + 0)), if_neg (fun h => absurd h.2 (by decide) : ¬ (F.length = 1 ∧ (⟨#[115, 112, 97, 99, 101]⟩ : ByteArray) = ⟨#[116, 114, 101, 101]⟩)), if_neg (fun h => absurd h.2 (by decide) : ¬ (F.length = 1 ∧ (⟨#[115, 112, 97, 99, 101]⟩ : ByteArray) = ⟨#[99, 104, 101, 99, 107]⟩)), if_neg (fun h => absurd h.2 (by decide) : ¬ (F.length = 1 ∧ (⟨#[115, 112, 97, 99, 101]⟩ : ByteArray) = ⟨#[109, 111, 117, 110, 116]⟩)), if_pos (⟨hn, by decide⟩ : F.length = 1 ∧ (0 : Int) < 24)]
    obtain ⟨a, rfl⟩ := list1 hn
    rfl
  · rw [if_neg (by rw [List.length_tail]; omega : ¬ (0 ≤ F.tail.length ∧ (F.tail.length : Int) ≤ ((0 : Nat) : Int) + 0)), if_neg (fun h => absurd h.2 (by decide) : ¬ (F.length = 1 ∧ (⟨#[115, 112, 97, 99, 101]⟩ : ByteArray) = ⟨#[116, 114, 101, 101]⟩)), if_neg (fun h => absurd h.2 (by decide) : ¬ (F.length = 1 ∧ (⟨#[115, 112, 97, 99, 101]⟩ : ByteArray) = ⟨#[99, 104, 101, 99, 107]⟩)), if_neg (fun h => absurd h.2 (by decide) : ¬ (F.length = 1 ∧ (⟨#[115, 112, 97, 99, 101]⟩ : ByteArray) = ⟨#[109, 111, 117, 110, 116]⟩)), if_neg (fun h => hn h.1 : ¬ (F.length = 1 ∧ (0 : Int) < 24)), if_neg (fun h => absurd h.2 (by decide) : ¬ (F.length = 2 ∧ (0 : Int) < 0)), if_neg (by decide : ¬ (⟨#[115, 112, 97, 99, 101]⟩ : ByteArray) = ⟨#[99, 114, 97, 115, 104]⟩), if_neg (by decide : ¬ (⟨#[115, 112, 97, 99, 101]⟩ : ByteArray) = ⟨#[97, 114, 109]⟩), restF_none F (by rw [hk]; decide) (by rw [hk]; decide) (by rw [hk]; decide) (by rw [hk]; decide) (by rw [hk]; decide) (by rw [hk]; decide) (by rw [hk]; decide) (by rw [hk]; decide) (by rw [hk]; decide) (by rw [hk]; decide) (by rw [hk]; decide) (by rw [hk]; decide) (by rw [hk]; decide)]

theorem eq_log (F : List ByteArray) (h1 : 1 ≤ F.length) (hk : (F.getD 0 noText) = ⟨#[108, 111, 103]⟩) : fieldsOf F = modelF F := by
  have hc : cmdOf ⟨#[108, 111, 103]⟩ theCmds = some ⟨⟨#[108, 111, 103]⟩, 1, 25, [], 0⟩ := by kernel_rfl
  have hw : wordN ⟨#[108, 111, 103]⟩ = 0 := by kernel_rfl
  have hl : loneN ⟨#[108, 111, 103]⟩ = 25 := by kernel_rfl
  unfold fieldsOf modelF
  rw [hk, hc, hw, hl]
  show (if containsS F ⟨#[]⟩ = true then none else if 0 ≤ F.tail.length ∧ (F.tail.length : Int) ≤ ((0 : Nat) : Int) + 0 then takeAll [] 0 F.tail ⟨1, 25, ⟨#[]⟩, ⟨#[]⟩, 0, 0, 0, ⟨#[]⟩, []⟩ else none) = _
  by_cases he : containsS F ⟨#[]⟩ = true
  · rw [if_pos he, if_pos he]
  rw [if_neg he, if_neg he]
  by_cases hn : F.length = 1
  · rw [if_pos (by rw [List.length_tail, hn]; constructor <;> decide : (0 ≤ F.tail.length ∧ (F.tail.length : Int) ≤ ((0 : Nat) : Int) + 0)), if_neg (fun h => absurd h.2 (by decide) : ¬ (F.length = 1 ∧ (⟨#[108, 111, 103]⟩ : ByteArray) = ⟨#[116, 114, 101, 101]⟩)), if_neg (fun h => absurd h.2 (by decide) : ¬ (F.length = 1 ∧ (⟨#[108, 111, 103]⟩ : ByteArray) = ⟨#[99, 104, 101, 99, 107]⟩)), if_neg (fun h => absurd h.2 (by decide) : ¬ (F.length = 1 ∧ (⟨#[108, 111, 103]⟩ : ByteArray) = ⟨#[109, 111, 117, 110, 116]⟩)), if_pos (⟨hn, by decide⟩ : F.length = 1 ∧ (0 : Int) < 25)]
    obtain ⟨a, rfl⟩ := list1 hn
    rfl
  · rw [if_neg (by rw [List.length_tail]; omega : ¬ (0 ≤ F.tail.length ∧ (F.tail.length : Int) ≤ ((0 : Nat) : Int) + 0)), if_neg (fun h => absurd h.2 (by decide) : ¬ (F.length = 1 ∧ (⟨#[108, 111, 103]⟩ : ByteArray) = ⟨#[116, 114, 101, 101]⟩)), if_neg (fun h => absurd h.2 (by decide) : ¬ (F.length = 1 ∧ (⟨#[108, 111, 103]⟩ : ByteArray) = ⟨#[99, 104, 101, 99, 107]⟩)), if_neg (fun h => absurd h.2 (by decide) : ¬ (F.length = 1 ∧ (⟨#[108, 111, 103]⟩ : ByteArray) = ⟨#[109, 111, 117, 110, 116]⟩)), if_neg (fun h => hn h.1 : ¬ (F.length = 1 ∧ (0 : Int) < 25)), if_neg (fun h => absurd h.2 (by decide) : ¬ (F.length = 2 ∧ (0 : Int) < 0)), if_neg (by decide : ¬ (⟨#[108, 111, 103]⟩ : ByteArray) = ⟨#[99, 114, 97, 115, 104]⟩), if_neg (by decide : ¬ (⟨#[108, 111, 103]⟩ : ByteArray) = ⟨#[97, 114, 109]⟩), restF_none F (by rw [hk]; decide) (by rw [hk]; decide) (by rw [hk]; decide) (by rw [hk]; decide) (by rw [hk]; decide) (by rw [hk]; decide) (by rw [hk]; decide) (by rw [hk]; decide) (by rw [hk]; decide) (by rw [hk]; decide) (by rw [hk]; decide) (by rw [hk]; decide) (by rw [hk]; decide)]

theorem eq_tree (F : List ByteArray) (h1 : 1 ≤ F.length) (hk : (F.getD 0 noText) = ⟨#[116, 114, 101, 101]⟩) : fieldsOf F = modelF F := by
  have hc : cmdOf ⟨#[116, 114, 101, 101]⟩ theCmds = some ⟨⟨#[116, 114, 101, 101]⟩, 2, 0, [], 0⟩ := by kernel_rfl
  have hw : wordN ⟨#[116, 114, 101, 101]⟩ = 0 := by kernel_rfl
  have hl : loneN ⟨#[116, 114, 101, 101]⟩ = 0 := by kernel_rfl
  unfold fieldsOf modelF
  rw [hk, hc, hw, hl]
  show (if containsS F ⟨#[]⟩ = true then none else if 0 ≤ F.tail.length ∧ (F.tail.length : Int) ≤ ((0 : Nat) : Int) + 0 then takeAll [] 0 F.tail ⟨2, 0, ⟨#[]⟩, ⟨#[]⟩, 0, 0, 0, ⟨#[]⟩, []⟩ else none) = _
  by_cases he : containsS F ⟨#[]⟩ = true
  · rw [if_pos he, if_pos he]
  rw [if_neg he, if_neg he]
  by_cases hn : F.length = 1
  · rw [if_pos (by rw [List.length_tail, hn]; constructor <;> decide : (0 ≤ F.tail.length ∧ (F.tail.length : Int) ≤ ((0 : Nat) : Int) + 0)), if_pos (⟨hn, rfl⟩ : F.length = 1 ∧ (⟨#[116, 114, 101, 101]⟩ : ByteArray) = ⟨#[116, 114, 101, 101]⟩)]
    obtain ⟨a, rfl⟩ := list1 hn
    rfl
  · rw [if_neg (by rw [List.length_tail]; omega : ¬ (0 ≤ F.tail.length ∧ (F.tail.length : Int) ≤ ((0 : Nat) : Int) + 0)), if_neg (fun h => hn h.1 : ¬ (F.length = 1 ∧ (⟨#[116, 114, 101, 101]⟩ : ByteArray) = ⟨#[116, 114, 101, 101]⟩)), if_neg (fun h => absurd h.2 (by decide) : ¬ (F.length = 1 ∧ (⟨#[116, 114, 101, 101]⟩ : ByteArray) = ⟨#[99, 104, 101, 99, 107]⟩)), if_neg (fun h => absurd h.2 (by decide) : ¬ (F.length = 1 ∧ (⟨#[116, 114, 101, 101]⟩ : ByteArray) = ⟨#[109, 111, 117, 110, 116]⟩)), if_neg (fun h => absurd h.2 (by decide) : ¬ (F.length = 1 ∧ (0 : Int) < 0)), if_neg (fun h => absurd h.2 (by decide) : ¬ (F.length = 2 ∧ (0 : Int) < 0)), if_neg (by decide : ¬ (⟨#[116, 114, 101, 101]⟩ : ByteArray) = ⟨#[99, 114, 97, 115, 104]⟩), if_neg (by decide : ¬ (⟨#[116, 114, 101, 101]⟩ : ByteArray) = ⟨#[97, 114, 109]⟩), restF_none F (by rw [hk]; decide) (by rw [hk]; decide) (by rw [hk]; decide) (by rw [hk]; decide) (by rw [hk]; decide) (by rw [hk]; decide) (by rw [hk]; decide) (by rw [hk]; decide) (by rw [hk]; decide) (by rw [hk]; decide) (by rw [hk]; decide) (by rw [hk]; decide) (by rw [hk]; decide)]

theorem eq_check (F : List ByteArray) (h1 : 1 ≤ F.length) (hk : (F.getD 0 noText) = ⟨#[99, 104, 101, 99, 107]⟩) : fieldsOf F = modelF F := by
  have hc : cmdOf ⟨#[99, 104, 101, 99, 107]⟩ theCmds = some ⟨⟨#[99, 104, 101, 99, 107]⟩, 3, 0, [], 0⟩ := by kernel_rfl
  have hw : wordN ⟨#[99, 104, 101, 99, 107]⟩ = 0 := by kernel_rfl
  have hl : loneN ⟨#[99, 104, 101, 99, 107]⟩ = 0 := by kernel_rfl
  unfold fieldsOf modelF
  rw [hk, hc, hw, hl]
  show (if containsS F ⟨#[]⟩ = true then none else if 0 ≤ F.tail.length ∧ (F.tail.length : Int) ≤ ((0 : Nat) : Int) + 0 then takeAll [] 0 F.tail ⟨3, 0, ⟨#[]⟩, ⟨#[]⟩, 0, 0, 0, ⟨#[]⟩, []⟩ else none) = _
  by_cases he : containsS F ⟨#[]⟩ = true
  · rw [if_pos he, if_pos he]
  rw [if_neg he, if_neg he]
  by_cases hn : F.length = 1
  · rw [if_pos (by rw [List.length_tail, hn]; constructor <;> decide : (0 ≤ F.tail.length ∧ (F.tail.length : Int) ≤ ((0 : Nat) : Int) + 0)), if_neg (fun h => absurd h.2 (by decide) : ¬ (F.length = 1 ∧ (⟨#[99, 104, 101, 99, 107]⟩ : ByteArray) = ⟨#[116, 114, 101, 101]⟩)), if_pos (⟨hn, rfl⟩ : F.length = 1 ∧ (⟨#[99, 104, 101, 99, 107]⟩ : ByteArray) = ⟨#[99, 104, 101, 99, 107]⟩)]
    obtain ⟨a, rfl⟩ := list1 hn
    rfl
  · rw [if_neg (by rw [List.length_tail]; omega : ¬ (0 ≤ F.tail.length ∧ (F.tail.length : Int) ≤ ((0 : Nat) : Int) + 0)), if_neg (fun h => absurd h.2 (by decide) : ¬ (F.length = 1 ∧ (⟨#[99, 104, 101, 99, 107]⟩ : ByteArray) = ⟨#[116, 114, 101, 101]⟩)), if_neg (fun h => hn h.1 : ¬ (F.length = 1 ∧ (⟨#[99, 104, 101, 99, 107]⟩ : ByteArray) = ⟨#[99, 104, 101, 99, 107]⟩)), if_neg (fun h => absurd h.2 (by decide) : ¬ (F.length = 1 ∧ (⟨#[99, 104, 101, 99, 107]⟩ : ByteArray) = ⟨#[109, 111, 117, 110, 116]⟩)), if_neg (fun h => absurd h.2 (by decide) : ¬ (F.length = 1 ∧ (0 : Int) < 0)), if_neg (fun h => absurd h.2 (by decide) : ¬ (F.length = 2 ∧ (0 : Int) < 0)), if_neg (by decide : ¬ (⟨#[99, 104, 101, 99, 107]⟩ : ByteArray) = ⟨#[99, 114, 97, 115, 104]⟩), if_neg (by decide : ¬ (⟨#[99, 104, 101, 99, 107]⟩ : ByteArray) = ⟨#[97, 114, 109]⟩), restF_none F (by rw [hk]; decide) (by rw [hk]; decide) (by rw [hk]; decide) (by rw [hk]; decide) (by rw [hk]; decide) (by rw [hk]; decide) (by rw [hk]; decide) (by rw [hk]; decide) (by rw [hk]; decide) (by rw [hk]; decide) (by rw [hk]; decide) (by rw [hk]; decide) (by rw [hk]; decide)]

theorem eq_mount (F : List ByteArray) (h1 : 1 ≤ F.length) (hk : (F.getD 0 noText) = ⟨#[109, 111, 117, 110, 116]⟩) : fieldsOf F = modelF F := by
  have hc : cmdOf ⟨#[109, 111, 117, 110, 116]⟩ theCmds = some ⟨⟨#[109, 111, 117, 110, 116]⟩, 6, 0, [], 0⟩ := by kernel_rfl
  have hw : wordN ⟨#[109, 111, 117, 110, 116]⟩ = 0 := by kernel_rfl
  have hl : loneN ⟨#[109, 111, 117, 110, 116]⟩ = 0 := by kernel_rfl
  unfold fieldsOf modelF
  rw [hk, hc, hw, hl]
  show (if containsS F ⟨#[]⟩ = true then none else if 0 ≤ F.tail.length ∧ (F.tail.length : Int) ≤ ((0 : Nat) : Int) + 0 then takeAll [] 0 F.tail ⟨6, 0, ⟨#[]⟩, ⟨#[]⟩, 0, 0, 0, ⟨#[]⟩, []⟩ else none) = _
  by_cases he : containsS F ⟨#[]⟩ = true
  · rw [if_pos he, if_pos he]
  rw [if_neg he, if_neg he]
  by_cases hn : F.length = 1
  · rw [if_pos (by rw [List.length_tail, hn]; constructor <;> decide : (0 ≤ F.tail.length ∧ (F.tail.length : Int) ≤ ((0 : Nat) : Int) + 0)), if_neg (fun h => absurd h.2 (by decide) : ¬ (F.length = 1 ∧ (⟨#[109, 111, 117, 110, 116]⟩ : ByteArray) = ⟨#[116, 114, 101, 101]⟩)), if_neg (fun h => absurd h.2 (by decide) : ¬ (F.length = 1 ∧ (⟨#[109, 111, 117, 110, 116]⟩ : ByteArray) = ⟨#[99, 104, 101, 99, 107]⟩)), if_pos (⟨hn, rfl⟩ : F.length = 1 ∧ (⟨#[109, 111, 117, 110, 116]⟩ : ByteArray) = ⟨#[109, 111, 117, 110, 116]⟩)]
    obtain ⟨a, rfl⟩ := list1 hn
    rfl
  · rw [if_neg (by rw [List.length_tail]; omega : ¬ (0 ≤ F.tail.length ∧ (F.tail.length : Int) ≤ ((0 : Nat) : Int) + 0)), if_neg (fun h => absurd h.2 (by decide) : ¬ (F.length = 1 ∧ (⟨#[109, 111, 117, 110, 116]⟩ : ByteArray) = ⟨#[116, 114, 101, 101]⟩)), if_neg (fun h => absurd h.2 (by decide) : ¬ (F.length = 1 ∧ (⟨#[109, 111, 117, 110, 116]⟩ : ByteArray) = ⟨#[99, 104, 101, 99, 107]⟩)), if_neg (fun h => hn h.1 : ¬ (F.length = 1 ∧ (⟨#[109, 111, 117, 110, 116]⟩ : ByteArray) = ⟨#[109, 111, 117, 110, 116]⟩)), if_neg (fun h => absurd h.2 (by decide) : ¬ (F.length = 1 ∧ (0 : Int) < 0)), if_neg (fun h => absurd h.2 (by decide) : ¬ (F.length = 2 ∧ (0 : Int) < 0)), if_neg (by decide : ¬ (⟨#[109, 111, 117, 110, 116]⟩ : ByteArray) = ⟨#[99, 114, 97, 115, 104]⟩), if_neg (by decide : ¬ (⟨#[109, 111, 117, 110, 116]⟩ : ByteArray) = ⟨#[97, 114, 109]⟩), restF_none F (by rw [hk]; decide) (by rw [hk]; decide) (by rw [hk]; decide) (by rw [hk]; decide) (by rw [hk]; decide) (by rw [hk]; decide) (by rw [hk]; decide) (by rw [hk]; decide) (by rw [hk]; decide) (by rw [hk]; decide) (by rw [hk]; decide) (by rw [hk]; decide) (by rw [hk]; decide)]

theorem eq_arm (F : List ByteArray) (_h1 : 1 ≤ F.length) (hk : (F.getD 0 noText) = ⟨#[97, 114, 109]⟩) : fieldsOf F = modelF F := by
  have hc : cmdOf ⟨#[97, 114, 109]⟩ theCmds = some ⟨⟨#[97, 114, 109]⟩, 4, 0, [40], 600⟩ := by kernel_rfl
  have hw : wordN ⟨#[97, 114, 109]⟩ = 0 := by kernel_rfl
  have hl : loneN ⟨#[97, 114, 109]⟩ = 0 := by kernel_rfl
  unfold fieldsOf modelF
  rw [hk, hc, hw, hl]
  show (if containsS F ⟨#[]⟩ = true then none else if 1 ≤ F.tail.length ∧ (F.tail.length : Int) ≤ ((1 : Nat) : Int) + 600 then takeAll [40] 0 F.tail ⟨4, 0, ⟨#[]⟩, ⟨#[]⟩, 0, 0, 0, ⟨#[]⟩, []⟩ else none) = _
  by_cases he : containsS F ⟨#[]⟩ = true
  · rw [if_pos he, if_pos he]
  rw [if_neg he, if_neg he]
  rw [if_neg (fun h => absurd h.2 (by decide) : ¬ (F.length = 1 ∧ (⟨#[97, 114, 109]⟩ : ByteArray) = ⟨#[116, 114, 101, 101]⟩)), if_neg (fun h => absurd h.2 (by decide) : ¬ (F.length = 1 ∧ (⟨#[97, 114, 109]⟩ : ByteArray) = ⟨#[99, 104, 101, 99, 107]⟩)), if_neg (fun h => absurd h.2 (by decide) : ¬ (F.length = 1 ∧ (⟨#[97, 114, 109]⟩ : ByteArray) = ⟨#[109, 111, 117, 110, 116]⟩)), if_neg (fun h => absurd h.2 (by decide) : ¬ (F.length = 1 ∧ (0 : Int) < 0)), if_neg (fun h => absurd h.2 (by decide) : ¬ (F.length = 2 ∧ (0 : Int) < 0)), if_neg (by decide : ¬ (⟨#[97, 114, 109]⟩ : ByteArray) = ⟨#[99, 114, 97, 115, 104]⟩), if_pos (rfl : (⟨#[97, 114, 109]⟩ : ByteArray) = ⟨#[97, 114, 109]⟩)]
  unfold armF
  rw [List.drop_one]
  cases hF : F.tail with
  | nil => rw [if_neg (fun h => absurd h.1 (by simp)), if_neg (fun h => absurd h.2.1 (by simp [numsG]))]
  | cons x r =>
    rw [takeAll_cons]
    show (if _ then (countF _ x).bind _ else _) = _
    unfold countF numsG
    cases hx : numF x with
    | none =>
      show (if _ then none else none) = (if (false = true ∧ _) then _ else none)
      split <;> exact (if_neg (fun h => absurd h.1 (by decide))).symm
    | some n =>
      show (if _ then (if (1 : Int) ≤ ([] ++ [n] : List Int).getD 0 0 then some _ else none).bind _ else _) = (if (numsG ([] ++ [n]) r).2 = true ∧ 1 ≤ (numsG ([] ++ [n]) r).1.length ∧ (numsG ([] ++ [n]) r).1.length ≤ 601 ∧ (1 : Int) ≤ (numsG ([] ++ [n]) r).1.getD 0 0 then _ else none)
      have hd : ((numsG ([] ++ [n]) r).1.getD 0 0 : Int) = n := numsG_head r n []
      have hd2 : (([] ++ [n] : List Int).getD 0 0) = n := rfl
      rw [hd, hd2]
      by_cases h0 : (1 : Int) ≤ n
      · rw [if_pos h0]
        show (if _ then takeAll _ 1 r _ else _) = _
        rw [takeAll_nums r 1 (fun j hj => by obtain ⟨k, rfl⟩ : ∃ k, j = k + 1 := ⟨j - 1, by omega⟩; rfl)]
        show (if _ then (if (numsG ([] ++ [n]) r).2 = true then _ else _) else _) = _
        by_cases hg : (numsG ([] ++ [n]) r).2 = true
        · have hl := numsG_len r ([] ++ [n]) hg
          simp only [List.length_append, List.length_cons, List.length_nil, Nat.zero_add] at hl
          by_cases h6 : r.length ≤ 600
          · rw [if_pos (⟨by simp, by simp only [List.length_cons]; omega⟩), if_pos hg, if_pos ⟨hg, by omega, by omega, h0⟩]
          · rw [if_neg (fun h => h6 (by simp only [List.length_cons] at h; omega)), if_neg (fun h => h6 (by omega))]
        · have hr : ¬ ((numsG ([] ++ [n]) r).2 = true ∧ 1 ≤ (numsG ([] ++ [n]) r).1.length ∧ (numsG ([] ++ [n]) r).1.length ≤ 601 ∧ (1 : Int) ≤ n) := fun h => hg h.1
          rw [if_neg hg, if_neg hr]
          split <;> rfl
      · have hr : ¬ ((numsG ([] ++ [n]) r).2 = true ∧ 1 ≤ (numsG ([] ++ [n]) r).1.length ∧ (numsG ([] ++ [n]) r).1.length ≤ 601 ∧ (1 : Int) ≤ n) := fun h => h0 h.2.2.2
        rw [if_neg h0, if_neg hr]
        split <;> rfl

theorem eq_crash (F : List ByteArray) (_h1 : 1 ≤ F.length) (hk : (F.getD 0 noText) = ⟨#[99, 114, 97, 115, 104]⟩) : fieldsOf F = modelF F := by
  have hc : cmdOf ⟨#[99, 114, 97, 115, 104]⟩ theCmds = some ⟨⟨#[99, 114, 97, 115, 104]⟩, 5, 0, [], 600⟩ := by kernel_rfl
  have hw : wordN ⟨#[99, 114, 97, 115, 104]⟩ = 0 := by kernel_rfl
  have hl : loneN ⟨#[99, 114, 97, 115, 104]⟩ = 0 := by kernel_rfl
  unfold fieldsOf modelF
  rw [hk, hc, hw, hl]
  show (if containsS F ⟨#[]⟩ = true then none else if 0 ≤ F.tail.length ∧ (F.tail.length : Int) ≤ ((0 : Nat) : Int) + 600 then takeAll [] 0 F.tail ⟨5, 0, ⟨#[]⟩, ⟨#[]⟩, 0, 0, 0, ⟨#[]⟩, []⟩ else none) = _
  by_cases he : containsS F ⟨#[]⟩ = true
  · rw [if_pos he, if_pos he]
  rw [if_neg he, if_neg he]
  rw [if_neg (fun h => absurd h.2 (by decide) : ¬ (F.length = 1 ∧ (⟨#[99, 114, 97, 115, 104]⟩ : ByteArray) = ⟨#[116, 114, 101, 101]⟩)), if_neg (fun h => absurd h.2 (by decide) : ¬ (F.length = 1 ∧ (⟨#[99, 114, 97, 115, 104]⟩ : ByteArray) = ⟨#[99, 104, 101, 99, 107]⟩)), if_neg (fun h => absurd h.2 (by decide) : ¬ (F.length = 1 ∧ (⟨#[99, 114, 97, 115, 104]⟩ : ByteArray) = ⟨#[109, 111, 117, 110, 116]⟩)), if_neg (fun h => absurd h.2 (by decide) : ¬ (F.length = 1 ∧ (0 : Int) < 0)), if_neg (fun h => absurd h.2 (by decide) : ¬ (F.length = 2 ∧ (0 : Int) < 0)), if_pos (rfl : (⟨#[99, 114, 97, 115, 104]⟩ : ByteArray) = ⟨#[99, 114, 97, 115, 104]⟩)]
  rw [takeAll_nums F.tail 0 (fun j _ => rfl)]
  unfold crashF
  rw [List.drop_one]
  show (if _ then (if (numsG [] F.tail).2 = true then _ else _) else _) = _
  by_cases hg : (numsG [] F.tail).2 = true
  · have hl := numsG_len F.tail [] hg
    simp only [List.length_nil, Nat.zero_add] at hl
    by_cases h6 : F.tail.length ≤ 600
    · rw [if_pos (⟨Nat.zero_le _, by omega⟩ : 0 ≤ F.tail.length ∧ (F.tail.length : Int) ≤ ((0 : Nat) : Int) + 600), if_pos hg, if_pos ⟨hg, by omega⟩]
    · rw [if_neg (fun h => h6 (by omega) : ¬ (0 ≤ F.tail.length ∧ (F.tail.length : Int) ≤ ((0 : Nat) : Int) + 600)), if_neg (fun h => h6 (by omega))]
  · have hr : ¬ ((numsG [] F.tail).2 = true ∧ (numsG [] F.tail).1.length ≤ 600) := fun h => hg h.1
    rw [if_neg hg, if_neg hr]
    split <;> rfl

set_option maxRecDepth 20000 in
theorem eq_no (F : List ByteArray) (h_create : (F.getD 0 noText) ≠ ⟨#[99, 114, 101, 97, 116, 101]⟩) (h_mkdir : (F.getD 0 noText) ≠ ⟨#[109, 107, 100, 105, 114]⟩) (h_unlink : (F.getD 0 noText) ≠ ⟨#[117, 110, 108, 105, 110, 107]⟩) (h_rmdir : (F.getD 0 noText) ≠ ⟨#[114, 109, 100, 105, 114]⟩) (h_open : (F.getD 0 noText) ≠ ⟨#[111, 112, 101, 110]⟩) (h_stat : (F.getD 0 noText) ≠ ⟨#[115, 116, 97, 116]⟩) (h_lstat : (F.getD 0 noText) ≠ ⟨#[108, 115, 116, 97, 116]⟩) (h_list : (F.getD 0 noText) ≠ ⟨#[108, 105, 115, 116]⟩) (h_readlink : (F.getD 0 noText) ≠ ⟨#[114, 101, 97, 100, 108, 105, 110, 107]⟩) (h_rename : (F.getD 0 noText) ≠ ⟨#[114, 101, 110, 97, 109, 101]⟩) (h_link : (F.getD 0 noText) ≠ ⟨#[108, 105, 110, 107]⟩) (h_symlink : (F.getD 0 noText) ≠ ⟨#[115, 121, 109, 108, 105, 110, 107]⟩) (h_append : (F.getD 0 noText) ≠ ⟨#[97, 112, 112, 101, 110, 100]⟩) (h_write : (F.getD 0 noText) ≠ ⟨#[119, 114, 105, 116, 101]⟩) (h_fill : (F.getD 0 noText) ≠ ⟨#[102, 105, 108, 108]⟩) (h_trunc : (F.getD 0 noText) ≠ ⟨#[116, 114, 117, 110, 99]⟩) (h_read : (F.getD 0 noText) ≠ ⟨#[114, 101, 97, 100]⟩) (h_close : (F.getD 0 noText) ≠ ⟨#[99, 108, 111, 115, 101]⟩) (h_fstat : (F.getD 0 noText) ≠ ⟨#[102, 115, 116, 97, 116]⟩) (h_ftrunc : (F.getD 0 noText) ≠ ⟨#[102, 116, 114, 117, 110, 99]⟩) (h_pread : (F.getD 0 noText) ≠ ⟨#[112, 114, 101, 97, 100]⟩) (h_pwrite : (F.getD 0 noText) ≠ ⟨#[112, 119, 114, 105, 116, 101]⟩) (h_sync : (F.getD 0 noText) ≠ ⟨#[115, 121, 110, 99]⟩) (h_checkpoint : (F.getD 0 noText) ≠ ⟨#[99, 104, 101, 99, 107, 112, 111, 105, 110, 116]⟩) (h_space : (F.getD 0 noText) ≠ ⟨#[115, 112, 97, 99, 101]⟩) (h_log : (F.getD 0 noText) ≠ ⟨#[108, 111, 103]⟩) (h_tree : (F.getD 0 noText) ≠ ⟨#[116, 114, 101, 101]⟩) (h_check : (F.getD 0 noText) ≠ ⟨#[99, 104, 101, 99, 107]⟩) (h_mount : (F.getD 0 noText) ≠ ⟨#[109, 111, 117, 110, 116]⟩) (h_arm : (F.getD 0 noText) ≠ ⟨#[97, 114, 109]⟩) (h_crash : (F.getD 0 noText) ≠ ⟨#[99, 114, 97, 115, 104]⟩) : fieldsOf F = modelF F := by
  have hw : wordN (F.getD 0 noText) = 0 := by unfold wordN; rw [if_neg h_create, if_neg h_mkdir, if_neg h_unlink, if_neg h_rmdir, if_neg h_open, if_neg h_stat, if_neg h_lstat, if_neg h_list, if_neg h_readlink]
  have hl : loneN (F.getD 0 noText) = 0 := by
    unfold loneN loneW loneF; rw [if_neg (Ne.symm h_sync)]; unfold loneF; rw [if_neg (Ne.symm h_checkpoint)]; unfold loneF; rw [if_neg (Ne.symm h_space)]; unfold loneF; rw [if_neg (Ne.symm h_log)]; rfl
  have hc : cmdOf (F.getD 0 noText) theCmds = none := by
    unfold theCmds
    rw [cmdOf_no _ _ _ (Ne.symm h_create)]
    rw [cmdOf_no _ _ _ (Ne.symm h_mkdir)]
    rw [cmdOf_no _ _ _ (Ne.symm h_unlink)]
    rw [cmdOf_no _ _ _ (Ne.symm h_rmdir)]
    rw [cmdOf_no _ _ _ (Ne.symm h_rename)]
    rw [cmdOf_no _ _ _ (Ne.symm h_link)]
    rw [cmdOf_no _ _ _ (Ne.symm h_symlink)]
    rw [cmdOf_no _ _ _ (Ne.symm h_append)]
    rw [cmdOf_no _ _ _ (Ne.symm h_write)]
    rw [cmdOf_no _ _ _ (Ne.symm h_fill)]
    rw [cmdOf_no _ _ _ (Ne.symm h_trunc)]
    rw [cmdOf_no _ _ _ (Ne.symm h_read)]
    rw [cmdOf_no _ _ _ (Ne.symm h_stat)]
    rw [cmdOf_no _ _ _ (Ne.symm h_lstat)]
    rw [cmdOf_no _ _ _ (Ne.symm h_list)]
    rw [cmdOf_no _ _ _ (Ne.symm h_readlink)]
    rw [cmdOf_no _ _ _ (Ne.symm h_open)]
    rw [cmdOf_no _ _ _ (Ne.symm h_close)]
    rw [cmdOf_no _ _ _ (Ne.symm h_fstat)]
    rw [cmdOf_no _ _ _ (Ne.symm h_pwrite)]
    rw [cmdOf_no _ _ _ (Ne.symm h_ftrunc)]
    rw [cmdOf_no _ _ _ (Ne.symm h_pread)]
    rw [cmdOf_no _ _ _ (Ne.symm h_sync)]
    rw [cmdOf_no _ _ _ (Ne.symm h_checkpoint)]
    rw [cmdOf_no _ _ _ (Ne.symm h_space)]
    rw [cmdOf_no _ _ _ (Ne.symm h_log)]
    rw [cmdOf_no _ _ _ (Ne.symm h_tree)]
    rw [cmdOf_no _ _ _ (Ne.symm h_check)]
    rw [cmdOf_no _ _ _ (Ne.symm h_mount)]
    rw [cmdOf_no _ _ _ (Ne.symm h_arm)]
    rw [cmdOf_no _ _ _ (Ne.symm h_crash)]
    rfl
  unfold fieldsOf modelF restF
  rw [hc, hw, hl, longF_none F h_rename h_link h_symlink h_append h_write h_fill h_trunc h_read, hanF_none F h_close h_fstat h_ftrunc h_pread h_pwrite, if_neg (fun h => h_tree h.2 : ¬ (F.length = 1 ∧ (F.getD 0 noText) = ⟨#[116, 114, 101, 101]⟩)), if_neg (fun h => h_check h.2 : ¬ (F.length = 1 ∧ (F.getD 0 noText) = ⟨#[99, 104, 101, 99, 107]⟩)), if_neg (fun h => h_mount h.2 : ¬ (F.length = 1 ∧ (F.getD 0 noText) = ⟨#[109, 111, 117, 110, 116]⟩)), if_neg (fun h => absurd h.2 (by decide) : ¬ (F.length = 1 ∧ (0 : Int) < 0)), if_neg (fun h => absurd h.2 (by decide) : ¬ (F.length = 2 ∧ (0 : Int) < 0)), if_neg h_crash, if_neg h_arm]
  show none = _
  split <;> rfl

theorem fields_eq (F : List ByteArray) (h1 : 1 ≤ F.length) : fieldsOf F = modelF F := by
  by_cases h_create : (F.getD 0 noText) = ⟨#[99, 114, 101, 97, 116, 101]⟩
  · exact eq_create F h1 h_create
  by_cases h_mkdir : (F.getD 0 noText) = ⟨#[109, 107, 100, 105, 114]⟩
  · exact eq_mkdir F h1 h_mkdir
  by_cases h_unlink : (F.getD 0 noText) = ⟨#[117, 110, 108, 105, 110, 107]⟩
  · exact eq_unlink F h1 h_unlink
  by_cases h_rmdir : (F.getD 0 noText) = ⟨#[114, 109, 100, 105, 114]⟩
  · exact eq_rmdir F h1 h_rmdir
  by_cases h_open : (F.getD 0 noText) = ⟨#[111, 112, 101, 110]⟩
  · exact eq_open F h1 h_open
  by_cases h_stat : (F.getD 0 noText) = ⟨#[115, 116, 97, 116]⟩
  · exact eq_stat F h1 h_stat
  by_cases h_lstat : (F.getD 0 noText) = ⟨#[108, 115, 116, 97, 116]⟩
  · exact eq_lstat F h1 h_lstat
  by_cases h_list : (F.getD 0 noText) = ⟨#[108, 105, 115, 116]⟩
  · exact eq_list F h1 h_list
  by_cases h_readlink : (F.getD 0 noText) = ⟨#[114, 101, 97, 100, 108, 105, 110, 107]⟩
  · exact eq_readlink F h1 h_readlink
  by_cases h_rename : (F.getD 0 noText) = ⟨#[114, 101, 110, 97, 109, 101]⟩
  · exact eq_rename F h1 h_rename
  by_cases h_link : (F.getD 0 noText) = ⟨#[108, 105, 110, 107]⟩
  · exact eq_link F h1 h_link
  by_cases h_symlink : (F.getD 0 noText) = ⟨#[115, 121, 109, 108, 105, 110, 107]⟩
  · exact eq_symlink F h1 h_symlink
  by_cases h_append : (F.getD 0 noText) = ⟨#[97, 112, 112, 101, 110, 100]⟩
  · exact eq_append F h1 h_append
  by_cases h_write : (F.getD 0 noText) = ⟨#[119, 114, 105, 116, 101]⟩
  · exact eq_write F h1 h_write
  by_cases h_fill : (F.getD 0 noText) = ⟨#[102, 105, 108, 108]⟩
  · exact eq_fill F h1 h_fill
  by_cases h_trunc : (F.getD 0 noText) = ⟨#[116, 114, 117, 110, 99]⟩
  · exact eq_trunc F h1 h_trunc
  by_cases h_read : (F.getD 0 noText) = ⟨#[114, 101, 97, 100]⟩
  · exact eq_read F h1 h_read
  by_cases h_close : (F.getD 0 noText) = ⟨#[99, 108, 111, 115, 101]⟩
  · exact eq_close F h1 h_close
  by_cases h_fstat : (F.getD 0 noText) = ⟨#[102, 115, 116, 97, 116]⟩
  · exact eq_fstat F h1 h_fstat
  by_cases h_ftrunc : (F.getD 0 noText) = ⟨#[102, 116, 114, 117, 110, 99]⟩
  · exact eq_ftrunc F h1 h_ftrunc
  by_cases h_pread : (F.getD 0 noText) = ⟨#[112, 114, 101, 97, 100]⟩
  · exact eq_pread F h1 h_pread
  by_cases h_pwrite : (F.getD 0 noText) = ⟨#[112, 119, 114, 105, 116, 101]⟩
  · exact eq_pwrite F h1 h_pwrite
  by_cases h_sync : (F.getD 0 noText) = ⟨#[115, 121, 110, 99]⟩
  · exact eq_sync F h1 h_sync
  by_cases h_checkpoint : (F.getD 0 noText) = ⟨#[99, 104, 101, 99, 107, 112, 111, 105, 110, 116]⟩
  · exact eq_checkpoint F h1 h_checkpoint
  by_cases h_space : (F.getD 0 noText) = ⟨#[115, 112, 97, 99, 101]⟩
  · exact eq_space F h1 h_space
  by_cases h_log : (F.getD 0 noText) = ⟨#[108, 111, 103]⟩
  · exact eq_log F h1 h_log
  by_cases h_tree : (F.getD 0 noText) = ⟨#[116, 114, 101, 101]⟩
  · exact eq_tree F h1 h_tree
  by_cases h_check : (F.getD 0 noText) = ⟨#[99, 104, 101, 99, 107]⟩
  · exact eq_check F h1 h_check
  by_cases h_mount : (F.getD 0 noText) = ⟨#[109, 111, 117, 110, 116]⟩
  · exact eq_mount F h1 h_mount
  by_cases h_arm : (F.getD 0 noText) = ⟨#[97, 114, 109]⟩
  · exact eq_arm F h1 h_arm
  by_cases h_crash : (F.getD 0 noText) = ⟨#[99, 114, 97, 115, 104]⟩
  · exact eq_crash F h1 h_crash
  exact eq_no F h_create h_mkdir h_unlink h_rmdir h_open h_stat h_lstat h_list h_readlink h_rename h_link h_symlink h_append h_write h_fill h_trunc h_read h_close h_fstat h_ftrunc h_pread h_pwrite h_sync h_checkpoint h_space h_log h_tree h_check h_mount h_arm h_crash

end Go.Proofs.YtacfkgfemmgpkaaGreatDoor
