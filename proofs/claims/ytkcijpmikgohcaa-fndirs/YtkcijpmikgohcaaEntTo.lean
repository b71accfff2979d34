/- toEntryS, eqEntryS of the laws; entries that came in. -/
import Derived.Test.YtkcijpmikgohcaaEntBase
namespace Go.Proofs.Ytkcijpmikgohcaa
open Go.RowKit

theorem ent_take_set (ps : List Ent) (k : Nat) (h : k < ps.length) : (ps.take k ++ List.replicate (ps.length - k) Ent.none).set k (ps.getD k Ent.none) = ps.take (k + 1) ++ List.replicate (ps.length - (k + 1)) Ent.none := by
  have e : ps.length - k = (ps.length - (k + 1)) + 1 := by omega
  rw [e, List.replicate_succ, List.set_append]
  simp only [List.length_take, Nat.min_eq_left (Nat.le_of_lt h), Nat.lt_irrefl, if_false, Nat.sub_self, List.set_cons_zero]
  have e2 : ps.getD k Ent.none = ps[k] := by simp [List.getD_eq_getElem?_getD, h]
  rw [List.take_succ_eq_append_getElem h, List.append_assoc, e2]
  rfl

theorem OwnE.put {w : World} {base g n cap k : Nat} {e : TypeId} {ts : List Ent} (h : OwnE w base e (.slice (some ⟨g, 0, none⟩) n cap) ts) (hn : ts.length = n) (hk : k < n) (t : Ent) :
    OwnE ((w.setCell ⟨g, k * 2, none⟩ (.int .i64 t.1)).setCell ⟨g, k * 2 + 1, none⟩ (.string t.2)) base e (.slice (some ⟨g, 0, none⟩) n cap) (ts.set k t) := by
  subst hn
  have := (World.ownsRow.stored (World.ownsRow.stored h (k * 2) (.int .i64 t.1)).1 (k * 2 + 1) (.string t.2)).1
  unfold OwnE
  rw [List.length_set, ← cellsE_set ts k t hk]
  exact this

theorem Try.infoE : (Try.prog.info? 30).map (fun i => (i.zero, i.size, i.bytes)) = some (some (.agg #[.int .i64 0, .string ⟨#[]⟩]), 2, 24) := by kernel_rfl

theorem cellsE_zero (n : Nat) : (madeCells #[.int .i64 0, .string ⟨#[]⟩] (n * 2)).toList = cellsE (List.replicate n Ent.none) := by
  refine List.ext_getElem? fun j => ?_
  by_cases hj : j < n * 2
  · have h1 : j / 2 < n := by omega
    have := cellsE_get (List.replicate n Ent.none) (j / 2) (by simpa using h1)
    have hz : (List.replicate n Ent.none).getD (j / 2) Ent.none = Ent.none := by simp [List.getD_eq_getElem?_getD, h1]
    rw [hz] at this
    rcases Nat.mod_two_eq_zero_or_one j with h | h
    · rw [show j / 2 * 2 = j by omega] at this
      rw [this.1]
      simp [madeCells, hj, h, Ent.none]
    · rw [show j / 2 * 2 + 1 = j by omega] at this
      rw [this.2]
      simp [madeCells, hj, h, Ent.none]
  · rw [List.getElem?_eq_none (by simp [madeCells]; omega), List.getElem?_eq_none (by rw [cellsE_len]; simp; omega)]

end Go.Proofs.Ytkcijpmikgohcaa
