/- szCall, szAnswer, toCall, toAnswer, eqAnswer of the laws. -/
import Derived.Test.YtoagahpoblcioaaDoorFmtV
import Derived.Shelf.Strings.Builder1
namespace Go.Proofs.YtoagahpoblcioaaDoor
open Go.RowKit Go.Lib

abbrev cN (e : TypeId) (names : List ByteArray) : Obj := .cells (names.map Value.string).toArray e (0, 0)

def sumS (names : List ByteArray) : Nat := (names.map (·.size)).sum
theorem nmL_size (names : List ByteArray) : (nmL names).length = 5 + names.length + sumS names := by
  unfold nmL sumS
  rw [List.length_append]
  induction names with
  | nil => rfl
  | cons x l ih =>
    simp only [List.map_cons, List.flatten_cons, List.length_append, List.length_cons, List.sum_cons, ← Lib.size_eq] at ih ⊢
    omega
theorem sumS_take (names : List ByteArray) (k : Nat) (h : k < names.length) : sumS (names.take (k + 1)) = sumS (names.take k) + (names.getD k noText).size := by
  unfold sumS
  rw [List.take_add_one, List.getElem?_eq_getElem h, List.map_append, List.sum_append]
  simp [List.getD_eq_getElem?_getD, h]

set_option maxHeartbeats 2000000 in
theorem szCall_calls (w : World) (kind : Int) (path to' : ByteArray) (ch co cs : Int) (cd : ByteArray) (left : Int) (h0 : 0 ≤ left) (h1 : left ≤ 1048576) (z1 : path.size ≤ 9223372036854775807) (z2 : to'.size ≤ 9223372036854775807) (z3 : cd.size ≤ 9223372036854775807) :
    Calls Tryd.prog 4 #[.agg (cCall kind path to' ch co cs cd), .int .i64 left] w fun e w' => ∃ r, e = .returned (.int .i64 r) ∧ (r < 0 ∨ (0 ≤ r ∧ r + path.size + to'.size + cd.size = left)) ∧ Chg 0 0 w w' := by
  have HC : Hid (∀ A : Obj, Chg 0 0 w (w.alloc A)) := fun A => Chg.alloc (Chg.refl 0 0 w) A
  have e1 : IntKind.i64.wrap (left - (path.size : Int)) = left - (path.size : Int) := by rw [IntKind.wrap_i64]; omega
  by_cases n1 : left - (path.size : Int) < 0
  · go_enter Tryd.func4, Tryd.ntmps4
    go_wp2
    go_ret
    exact ⟨_, rfl, Or.inl (by omega), HC.out _⟩
  have e2 : IntKind.i64.wrap (left - (path.size : Int) - (to'.size : Int)) = left - (path.size : Int) - (to'.size : Int) := by rw [IntKind.wrap_i64]; omega
  by_cases n2 : left - (path.size : Int) - (to'.size : Int) < 0
  · go_enter Tryd.func4, Tryd.ntmps4
    go_wp2
    go_ret
    exact ⟨_, rfl, Or.inl (by omega), HC.out _⟩
  have e3 : IntKind.i64.wrap (left - (path.size : Int) - (to'.size : Int) - (cd.size : Int)) = left - (path.size : Int) - (to'.size : Int) - (cd.size : Int) := by rw [IntKind.wrap_i64]; omega
  by_cases n3 : left - (path.size : Int) - (to'.size : Int) - (cd.size : Int) < 0
  · go_enter Tryd.func4, Tryd.ntmps4
    go_wp2
    go_ret
    exact ⟨_, rfl, Or.inl (by omega), HC.out _⟩
  · go_enter Tryd.func4, Tryd.ntmps4
    go_wp2
    go_ret
    exact ⟨_, rfl, Or.inr ⟨by omega, by omega⟩, HC.out _⟩

set_option maxRecDepth 20000 in
set_option maxHeartbeats 2000000 in
theorem szStringS_calls (w : World) {lo hi : Nat} {na : Option Addr} {nc : Nat} (names : List ByteArray) (left : Int) (h0 : 0 ≤ left) (h1 : left ≤ 1048576) (hN : SView w lo hi (.slice na names.length nc) names) (hz : ∀ n ∈ names, n.size ≤ 9223372036854775807) :
    Calls Tryd.prog 11 #[.slice na names.length nc, .int .i64 left] w fun e w' => ∃ r, e = .returned (.int .i64 r) ∧ (r < 0 ∨ (0 ≤ r ∧ r + names.length + sumS names = left)) ∧ w' = w := by
  have HN := hN
  obtain ⟨_, _, _, hl, _⟩ := hN
  have e1 : IntKind.i64.wrap (left - (names.length : Int)) = left - (names.length : Int) := by rw [IntKind.wrap_i64]; omega
  by_cases n1 : left - (names.length : Int) < 0
  · go_enter Tryd.func11, Tryd.ntmps11
    go_wp2
    go_ret
    exact ⟨_, rfl, Or.inl (by omega), rfl⟩
  have HN' : Hid (SView w lo hi (.slice na names.length nc) names) := HN
  clear HN
  go_enter Tryd.func11, Tryd.ntmps11
  go_wp2
  go_loop [1, 5] (fun x i => ∃ (k : Nat) (r : Int), k ≤ names.length ∧ i = .int .i64 k ∧ x = .int .i64 r ∧ 0 ≤ r ∧ r + names.length + sumS (names.take k) = left) (fun _ i => names.length - (RowKit.intOf i).toNat)
  case atStart => exact ⟨0, _, Nat.zero_le _, rfl, rfl, by omega, by simp [sumS]⟩
  case round =>
    obtain ⟨k, r, hk, rfl, rfl, hr0, hr⟩ := hrel
    by_cases hlt : k < names.length
    · have hi1 : (k : Int) < (names.length : Int) := by omega
      obtain ⟨b', off, rfl, hc⟩ : ∃ b off, na = some ⟨b, off, none⟩ ∧ w.cell? ⟨b, off + k, none⟩ = some (.string (names.getD k noText)) := by
        obtain ⟨ao', cap', e, _, _, h3⟩ := HN'.out
        simp only [Value.slice.injEq] at e
        rcases h3 with h3 | ⟨b, off, e2, _, _, h4⟩
        · rw [h3] at hlt; simp at hlt
        · exact ⟨b, off, by rw [e.1, e2], h4 k hlt⟩
      have hm : names.getD k noText ∈ names := by
        rw [List.getD_eq_getElem?_getD, List.getElem?_eq_getElem hlt]
        exact List.getElem_mem _
      have hnz := hz _ hm
      have hs := sumS_take names k hlt
      generalize names.getD k noText = nm at *
      have e2 : IntKind.i64.wrap (r - (nm.size : Int)) = r - (nm.size : Int) := by rw [IntKind.wrap_i64]; omega
      by_cases n2 : r - (nm.size : Int) < 0
      · clear hs hr
        go_wp2
        go_ret
        exact ⟨_, rfl, Or.inl (by omega), rfl⟩
      · have Hs : Hid (r - (nm.size : Int) + names.length + sumS (names.take (k + 1)) = left) := by show _ = _; rw [hs]; omega
        clear hs hr
        go_wp2
        refine ⟨⟨k + 1, r - (nm.size : Int), by omega, by go_num, rfl, by omega, Hs.out⟩, by simp [RowKit.intOf]; omega⟩
    · obtain rfl : k = names.length := by omega
      rw [List.take_length] at hr
      have Hr : Hid (r + names.length + sumS names = left) := hr
      have hi1 : ¬ ((names.length : Nat) : Int) < (names.length : Int) := by omega
      clear hr
      go_wp2
      go_ret
      exact ⟨_, rfl, Or.inr ⟨hr0, Hr.out⟩, rfl⟩

end Go.Proofs.YtoagahpoblcioaaDoor
