/- putPointers of the program. -/
import Derived.Test.YtaacidanpppopaaArrKit
import Derived.Test.YtaacidanpppopaaPutN
import Derived.Test.YtaacidanpppopaaCopyRow
import Derived.Test.YtaacidanpppopaaCells
import Derived.Test.YtaacidanpppopaaWeak
import Derived.Test.YtaacidanpppopaaHeld
import Derived.Deep.DeepCutAuto
namespace Go.Proofs.Ytaacidanpppopaa
open Go.RowKit

/-- The bytes of numbers, two each. -/
def putPs (xs : List Int) : List Int := xs.flatMap fun x => putN x 2
theorem put2_len {x : Int} (h : 0 ≤ x ∧ x < 2048) : (putN x 2).length = 2 := by
  unfold putN
  rw [if_neg (by omega), if_neg (by have : (256 : Int) ^ (2 : Int).toNat = 65536 := rfl; rw [this]; omega), digs_length]; rfl
theorem putPs_len {xs : List Int} (h : ∀ x ∈ xs, 0 ≤ x ∧ x < 2048) : (putPs xs).length = 2 * xs.length := by
  unfold putPs
  induction xs with
  | nil => rfl
  | cons x r ih =>
    rw [List.flatMap_cons, List.length_append, put2_len (h x (by simp)), ih (fun y hy => h y (by simp [hy])), List.length_cons]; omega
theorem putPs_take {xs : List Int} {k : Nat} (h : k < xs.length) : putPs (xs.take (k + 1)) = putPs (xs.take k) ++ putN (xs.getD k 0) 2 := by
  unfold putPs
  rw [List.take_succ_eq_append_getElem h, List.flatMap_append]
  simp [List.getD_eq_getElem?_getD, h]
theorem splice_more {c xs ys : List Value} {o : Nat} (h : o + xs.length + ys.length ≤ c.length) : splice (splice c o xs) (o + xs.length) ys = splice c o (xs ++ ys) := by
  have e0 : (c.take o).length = o := by rw [List.length_take]; omega
  have e1 : (c.take o ++ xs).length = o + xs.length := by rw [List.length_append, e0]
  have A : (c.take o ++ (xs ++ c.drop (o + xs.length))).take (o + xs.length) = c.take o ++ xs := by
    rw [← List.append_assoc, List.take_append_of_le_length (by rw [e1]; exact Nat.le_refl _), List.take_of_length_le (by rw [e1]; exact Nat.le_refl _)]
  have B : (c.take o ++ (xs ++ c.drop (o + xs.length))).drop (o + xs.length + ys.length) = c.drop (o + xs.length + ys.length) := by
    rw [← List.append_assoc, List.drop_append, List.drop_eq_nil_of_le (by rw [e1]; omega), List.nil_append, e1, List.drop_drop]
    congr 1; omega
  unfold splice
  simp only [List.append_assoc] at A B ⊢
  rw [A, B, List.length_append, List.append_assoc, show o + (xs.length + ys.length) = o + xs.length + ys.length by omega]
theorem splice_nil {c : List Value} {o : Nat} : splice c o [] = c := by unfold splice; simp

/-- What lies where bytes that are one's own are seen. -/
theorem OwnB.two {x : World} {base : Nat} {e : TypeId} {r : Value} {xs : List Int} {n : Nat} (o2 : OwnB x base e r xs) (hn : xs.length = n) (hp : 0 < n) (hb : n ≤ 1048576) :
    ∃ g gc, r = .slice (some ⟨g, 0, none⟩) n gc ∧ ∀ j v, (xs.map (Value.int .u8))[j]? = some v → x.cell? ((⟨g, 0, none⟩ : Addr).add j) = some v := by
  have hv := o2.view (hi := x.heap.size) (by omega) (fun g hg => (o2.lt g hg).2)
  rcases o2.2 with ⟨_, h0⟩ | ⟨g, gc, cur, rfl, hg, hh, h1, h2, h3, h4⟩
  · omega
  · refine ⟨g, gc, by rw [hn], fun j v hj => ?_⟩
    rw [Addr.add_mid, Nat.zero_add]
    have hj' : cur.toList[j]? = some v := by
      rw [← h4] at hj
      rw [List.getElem?_take] at hj
      split at hj
      · exact hj
      · cases hj
    simp only [World.cell?, hh]
    simpa using hj'

end Go.Proofs.Ytaacidanpppopaa
