/- Maps under blocks, against functions. -/
import Derived.Test.YtmfcaiadcmgjbaaSurvFold
import Derived.Maps.Own
import Derived.Maps.OwnSet
import Derived.Maps.Views
import Derived.Maps.RangeWalk
namespace Go.Proofs.Ytmfcaiadcmgjbaa
open Go.RowKit

def kI (x : Int) : Lit := .int .i64 x
theorem kI_inj {x y : Int} (h : kI x = kI y) : x = y := by unfold kI at h; injection h
theorem kI_of {x : Int} (h : (Lit.int .i64 x).wf = true) : keyOf Try.prog 2 (.int .i64 x) = some (kI x) := by
  simp [keyOf, Try.underlying2, mapKey, h, kI]
theorem kI_key (x : Int) : WideAt.IsKeyLit (kI x) := trivial

/-- What a map says. -/
structure SaysF {H : Type} (z : DataW H) (D : DataW H) (f : Int → Option (DataW H)) : Prop where
  has : ∀ x : Int, Maps.has D (kI x) = (f x).isSome
  at' : ∀ x v, f x = some v → D.atKey (kI x) z = v
  tidy : Maps.Tidy D
theorem SaysF.nil {H : Type} (z : DataW H) : SaysF z (.map []) (fun _ => none) := ⟨fun _ => rfl, fun _ _ h => (by cases h), Maps.tidy_empty⟩
theorem SaysF.put {H : Type} {z D : DataW H} {f : Int → Option (DataW H)} (h : SaysF z D f) (x : Int) (v : DataW H) : SaysF z (D.put (kI x) v) (fun y => if y = x then some v else f y) := by
  refine ⟨fun y => ?_, fun y u hu => ?_, Maps.Tidy.put h.tidy (kI_key x) _⟩
  · by_cases e : y = x
    · subst e
      rw [Maps.has_put_same h.tidy.isMap (kI_key y), if_pos rfl]; rfl
    · rw [Maps.has_put_other (fun h' => e (kI_inj h')), h.has, if_neg e]
  · by_cases e : y = x
    · subst e
      rw [if_pos rfl] at hu
      rw [← Option.some.inj hu]
      exact Maps.atKey_put_same h.tidy.isMap (kI_key y) _ _
    · rw [if_neg e] at hu
      rw [Maps.atKey_put_other (fun h' => e (kI_inj h'))]
      exact h.at' y u hu
theorem SaysF.congr {H : Type} {z D : DataW H} {f f' : Int → Option (DataW H)} (h : SaysF z D f) (e : ∀ x, f x = f' x) : SaysF z D f' := by
  have : f = f' := funext e
  rw [← this]; exact h

/-- The last revokes, part of a transaction on. -/
def revsAt (ts : List Tx) (k : Nat) (rs : List Int) (x : Int) : Option (DataW Unit) := ((if x ∈ rs then some k else none).or (revsL ts x)).map fun p => .lit (.int .i64 (p : Nat))
theorem revsAt_nil (ts : List Tx) (k : Nat) (x : Int) : revsAt ts k [] x = (revsL ts x).map fun p => .lit (.int .i64 (p : Nat)) := by simp [revsAt]
theorem revsAt_snoc (ts : List Tx) (k : Nat) (rs : List Int) (r x : Int) : revsAt ts k (rs ++ [r]) x = if x = r then some (.lit (.int .i64 (k : Nat))) else revsAt ts k rs x := by
  unfold revsAt
  by_cases h : x = r
  · subst h; simp
  · simp [h]
theorem revsAt_done (ts : List Tx) (t : Tx) (x : Int) : revsAt ts ts.length t.revs x = (revsL (ts ++ [t]) x).map fun p => .lit (.int .i64 (p : Nat)) := by
  unfold revsAt; rw [revsL_snoc]

end Go.Proofs.Ytmfcaiadcmgjbaa
