/- What is left of the copies, one revoke more. -/
import Derived.Test.YtmfcaiadcmgjbaaSurvLook
namespace Go.Proofs.Ytmfcaiadcmgjbaa
open Go.RowKit

theorem leftC_new {f : Int → Option Cp} {r : Int → Option Nat} {S : Int → Bool} {x : Int} (hS : S x = false) : leftC f r S x = f x := by
  unfold leftC
  cases f x <;> simp [hS]
theorem leftC_drop {f : Int → Option Cp} {r : Int → Option Nat} {S S' : Int → Bool} {x : Int} {c : Cp} {q : Nat} (hf : f x = some c) (hr : r x = some q) (hc : c.1 < q) (hS : ∀ y, S' y = (S y || y == x)) (y : Int) : leftC f r S' y = if y = x then none else leftC f r S y := by
  by_cases e : y = x
  · subst e
    rw [if_pos rfl]
    unfold leftC
    rw [hf, hS]
    simp [hr, hc]
  · rw [if_neg e]
    unfold leftC
    have he : (y == x) = false := by simpa using e
    rw [hS, he, Bool.or_false]
theorem leftC_stay {f : Int → Option Cp} {r : Int → Option Nat} {S S' : Int → Bool} {x : Int} (h : ∀ c q, f x = some c → r x = some q → ¬ c.1 < q) (hS : ∀ y, S' y = (S y || y == x)) (y : Int) : leftC f r S' y = leftC f r S y := by
  unfold leftC
  rw [hS]
  by_cases e : y = x
  · subst e
    cases hf : f y with
    | none => rfl
    | some c =>
      have : ¬ ∃ q, r y = some q ∧ c.1 < q := by rintro ⟨q, h1, h2⟩; exact h c q hf h1 h2
      simp [this]
  · have he : (y == x) = false := by simpa using e
    rw [he, Bool.or_false]
/-- What is still to come, one less. -/
theorem left_step (left : Lit → Bool) (x y : Int) : (!(fun z : Lit => left z && !z.sameKey (.int .i64 x)) (kI y)) = ((!left (kI y)) || y == x) := by
  show (!(left (kI y) && !(kI y).sameKey (.int .i64 x))) = _
  by_cases e : y = x
  · subst e
    have : (kI y).sameKey (.int .i64 y) = true := WideAt.sameKey_self (kI_key y)
    rw [this]
    simp
  · have : (kI y).sameKey (.int .i64 x) = false := Maps.sameKey_ne (fun h => e (kI_inj h))
    have he : (y == x) = false := by simpa using e
    rw [this, he]
    simp
theorem grown_chg {w W X : World} {bm : Nat} (hc : Chg 0 0 w W) (hg : W.grownBy X (some bm)) (hb : w.heap.size ≤ bm) : Chg 0 0 w X :=
  hc.step (Chg.ofGrown (lo := bm) (hi := bm + 1) hg (fun k e _ => by cases e; omega)) (by omega)
/-- The map of copies, some of them taken out. -/
def LefM (wr : World) (m : Nat) (F : Int → Option Cp) : Prop := ∃ n D, wr.ownsMap Try.prog 2 rC m n D ∧ n ≤ 20000 ∧ SaysF zC D (fun x => (F x).map cpD)
theorem LefM.kept {w w' : World} {m : Nat} {F : Int → Option Cp} {row : Option Nat} (h : LefM w m F) (hg : w.grownBy w' row) (hne : some m ≠ row) : LefM w' m F := by
  obtain ⟨n, D, h1, h2, h3⟩ := h
  exact ⟨n, D, h1.kept hg hne, h2, h3⟩
theorem LefM.congr {w : World} {m : Nat} {F F' : Int → Option Cp} (h : LefM w m F) (e : ∀ x, F x = F' x) : LefM w m F' := by
  have : F = F' := funext e
  rw [← this]; exact h
theorem LefM.lt {w : World} {m : Nat} {F : Int → Option Cp} (h : LefM w m F) : m < w.heap.size := by
  obtain ⟨n, D, h1, _⟩ := h; exact h1.lt
/-- A copy taken out. -/
theorem LefM.drop {m : Nat} {F : Int → Option Cp} (n : Nat) (D : DataW Value) {w' : World} {x : Int} (h2 : n ≤ 20000) (h3 : SaysF zC D (fun x => (F x).map cpD)) (h : w'.ownsMap Try.prog 2 rC m n (D.del (kI x))) : LefM w' m (fun y => if y = x then none else F y) :=
  ⟨n, _, h, h2, (h3.drop x).congr fun y => by by_cases e : y = x <;> simp [e]⟩
/-- What the range over the revokes yields. -/
theorem rev_at {D : DataW Unit} {ts : List Tx} (hs : SaysF (.lit (.int .i64 0)) D (fun x => (revsL ts x).map fun p => .lit (.int .i64 (p : Nat)))) {x c : Int} (hx : Maps.has D (kI x) = true) (hat : ∀ zd, D.atKey (.int .i64 x) zd = .lit (.int .i64 c)) : ∃ q : Nat, revsL ts x = some q ∧ c = q := by
  rw [hs.has x] at hx
  cases hr : revsL ts x with
  | none => rw [hr] at hx; simp at hx
  | some q =>
    have := hs.at' x (.lit (.int .i64 (q : Nat))) (by rw [hr]; rfl)
    have h2 : D.atKey (kI x) (.lit (.int .i64 0)) = .lit (.int .i64 c) := hat _
    rw [h2] at this
    injection this with this
    injection this with _ this
    exact ⟨q, rfl, this⟩

end Go.Proofs.Ytmfcaiadcmgjbaa
