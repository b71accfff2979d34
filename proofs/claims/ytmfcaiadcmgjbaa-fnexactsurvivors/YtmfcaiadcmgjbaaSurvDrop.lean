/- Copies that are taken out of the map: what is left when some revokes have been seen. -/
import Derived.Test.YtmfcaiadcmgjbaaSurvCops
namespace Go.Proofs.Ytmfcaiadcmgjbaa
open Go.RowKit

theorem SaysF.drop {H : Type} {z D : DataW H} {f : Int → Option (DataW H)} (h : SaysF z D f) (x : Int) : SaysF z (D.del (kI x)) (fun y => if y = x then none else f y) := by
  refine ⟨fun y => ?_, fun y u hu => ?_, Maps.Tidy.del h.tidy (kI x)⟩
  · by_cases e : y = x
    · subst e
      rw [Maps.has_del_same, if_pos rfl]; rfl
    · rw [Maps.has_del_other (fun h' => e (kI_inj h')), h.has, if_neg e]
  · by_cases e : y = x
    · rw [if_pos e] at hu; cases hu
    · rw [if_neg e] at hu
      rw [Maps.atKey_del_other (fun h' => e (kI_inj h'))]
      exact h.at' y u hu

/-- What is left when the revokes of the blocks of S have been seen. -/
def leftC (f : Int → Option Cp) (r : Int → Option Nat) (S : Int → Bool) (x : Int) : Option Cp :=
  match f x with
  | none => none
  | some c => if S x = true ∧ (∃ q, r x = some q ∧ c.1 < q) then none else some c
theorem leftC_none (f : Int → Option Cp) (r : Int → Option Nat) (x : Int) : leftC f r (fun _ => false) x = f x := by
  unfold leftC
  cases f x <;> simp
/-- When all have been seen, what is left is what is kept. -/
theorem leftC_all {f : Int → Option Cp} {ts : List Tx} (h : ∀ x, (f x).map (fun c => (c.1, c.2.2)) = copsL ts x) {S : Int → Bool} (hS : ∀ x, (revsL ts x).isSome → S x = true) (x : Int) : (leftC f (revsL ts) S x).map (fun c => c.2.2) = keptL ts x := by
  have hx := h x
  unfold leftC keptL
  rw [← hx]
  cases hf : f x with
  | none => rfl
  | some c =>
    simp only [Option.map_some]
    cases hr : revsL ts x with
    | none => simp
    | some q =>
      have := hS x (by rw [hr]; rfl)
      by_cases hc : c.1 < q <;> simp [this, hc]

end Go.Proofs.Ytmfcaiadcmgjbaa
