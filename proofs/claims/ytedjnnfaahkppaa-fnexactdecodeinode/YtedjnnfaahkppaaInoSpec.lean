/- Several short texts in one: IntsP, Ints, SzB, SzI, Flat, GoodBlk, InoSpec. -/
import Derived.Test.YtedjnnfaahkppaaRows
import Derived.Test.YtedjnnfaahkppaaMem
import Derived.Deep.DeepCutAuto
namespace Go.Proofs.Ytedjnnfaahkppaa
open Go.RowKit

theorem Try.infoI : (Try.prog.info? 2).map (fun i => (i.zero, i.size, i.bytes)) = some (some (.int .i64 0), 1, 8) := by kernel_rfl

/-- A row of numbers that is this slice's own. -/
def OwnI (w : World) (base : Nat) (e : TypeId) (v : Value) (xs : List Int) : Prop := w.ownsRow base e 1 v xs.length (xs.map (Value.int .i64))

theorem OwnI.view {w : World} {base : Nat} {e : TypeId} {v : Value} {xs : List Int} (h : OwnI w base e v xs) (hl : xs.length ≤ 9223372036854775807) {hi : Nat} (hb : ∀ g, v.ownBlock = some g → g < hi) : View w base hi .i64 v xs := by
  have h' := h
  obtain ⟨_, h2⟩ := h
  rcases h2 with ⟨rfl, h0⟩ | ⟨g, cap, cur, rfl, hg, hh, hc, hm, hs, ht⟩
  · obtain rfl : xs = [] := List.eq_nil_of_length_eq_zero h0
    exact View.nil _ _ _ _
  · refine ⟨_, cap, rfl, hl, ⟨hc, by simp⟩, ?_⟩
    refine Or.inr ⟨g, 0, rfl, hg, hb g rfl, fun i hi => ?_⟩
    have := World.ownsRow.cellAt h' i (by simpa using hi)
    rw [Nat.zero_add, this]
    simp [hi]

theorem OwnI.chg {w w' : World} {base l r : Nat} {e : TypeId} {v : Value} {xs : List Int} (h : OwnI w base e v xs) (c : Chg l r w w') (d : ∀ g, v.ownBlock = some g → g < l ∨ r ≤ g) : OwnI w' base e v xs := by
  obtain ⟨h1, h2⟩ := h
  refine ⟨h1, ?_⟩
  rcases h2 with h2 | ⟨g, cap, cur, hv, hg, hh, r⟩
  · exact Or.inl h2
  · refine Or.inr ⟨g, cap, cur, hv, hg, ?_, r⟩
    rw [c.block g (Array.getElem?_eq_some_iff.1 hh).1 (d g (by rw [hv]; rfl))]; exact hh


theorem OwnI.lt {w : World} {base : Nat} {e : TypeId} {v : Value} {xs : List Int} (h : OwnI w base e v xs) : ∀ g, v.ownBlock = some g → base ≤ g ∧ g < w.heap.size := World.ownsRow.lt h

end Go.Proofs.Ytedjnnfaahkppaa

namespace Go.Proofs.Ytedjnnfaahkppaa
open Go.RowKit

set_option maxRecDepth 20000 in
set_option maxHeartbeats 400000 in
theorem eqInt64S_some (w : World) (xs : List Int) (b off b' off' cap cap' : Nat) (hl : xs.length ≤ 9223372036854775807)
    (h1 : ∀ i, i < xs.length → w.cell? ⟨b, off + i, none⟩ = some (.int .i64 (xs.getD i 0)))
    (h2 : ∀ i, i < xs.length → w.cell? ⟨b', off' + i, none⟩ = some (.int .i64 (xs.getD i 0))) :
    Calls Try.prog 28 #[.slice (some ⟨b, off, none⟩) xs.length cap, .slice (some ⟨b', off', none⟩) xs.length cap'] w fun e w' => e = .returned (.bool true) ∧ Same w w' := by
  have hne : ((xs.length : Int) != (xs.length : Int)) = false := by simp
  go_enter Try.func28, Try.ntmps28
  go_wp2
  go_loopw [5] (fun i wr => Same w wr ∧ ∃ k : Nat, k ≤ xs.length ∧ i = .int .i64 k) (fun i _ => xs.length - (intOf i).toNat)
  case atStart => exact ⟨Same.refl _, 0, Nat.zero_le _, rfl⟩
  case round =>
    obtain ⟨hal, k, hk, rfl⟩ := hrel
    have e1 : ∀ a, wr.cell? a = w.cell? a := fun a => hal.cell a
    by_cases hlt : k < xs.length
    · have c1 : wr.cell? ⟨b, off + k, none⟩ = some (.int .i64 (xs.getD k 0)) := (e1 _).trans (h1 k hlt)
      have c2 : wr.cell? ⟨b', off' + k, none⟩ = some (.int .i64 (xs.getD k 0)) := (e1 _).trans (h2 k hlt)
      clear e1
      have hi : (k : Int) < (xs.length : Int) := by omega
      go_wp2
      go_quiet (fail)
      go_wp2
      go_roundw
      case rel => exact ⟨hal.drewN _, k + 1, by omega, by go_num⟩
      case measure => simp [intOf]; omega
    · clear e1
      go_wp2
      go_ret
      exact ⟨rfl, hal⟩

set_option maxRecDepth 20000 in
set_option maxHeartbeats 400000 in
theorem eqInt64S_none (w : World) (ao bo : Option Addr) (cap cap' : Nat) :
    Calls Try.prog 28 #[.slice ao 0 cap, .slice bo 0 cap'] w fun e w' => e = .returned (.bool true) ∧ Same w w' := by
  go_enter Try.func28, Try.ntmps28
  go_wp2
  refine wp_loop_rounds 1 ?_; rw [rounds_succ]
  go_wp2
  go_ret
  exact ⟨rfl, Same.refl _⟩

theorem eqInt64S_calls (w : World) {lo hi lo' hi' : Nat} {a b : Value} {xs : List Int} (h1 : View w lo hi .i64 a xs) (h2 : View w lo' hi' .i64 b xs) :
    Calls Try.prog 28 #[a, b] w fun e w' => e = .returned (.bool true) ∧ Same w w' := by
  obtain ⟨ao, cap, rfl, hl, _, h1⟩ := h1
  obtain ⟨bo, cap', rfl, _, _, h2⟩ := h2
  rcases h1 with rfl | ⟨x, off, rfl, _, _, h1⟩
  · exact eqInt64S_none w ao bo cap cap'
  · rcases h2 with rfl | ⟨y, off', rfl, _, _, h2⟩
    · exact eqInt64S_none w _ bo cap cap'
    · exact eqInt64S_some w xs x off y off' cap cap' hl h1 h2

theorem take_set_dropI (xs : List Int) (k : Nat) (h : k < xs.length) :
    ((xs.take k ++ List.replicate (xs.length - k) 0).map (Value.int .i64)).set k (.int .i64 (xs.getD k 0)) = (xs.take (k + 1) ++ List.replicate (xs.length - (k + 1)) 0).map (Value.int .i64) := by
  have e : xs.length - k = (xs.length - (k + 1)) + 1 := by omega
  rw [e, List.replicate_succ, List.map_append, List.map_cons, List.set_append]
  simp only [List.length_map, List.length_take, Nat.min_eq_left (Nat.le_of_lt h), Nat.lt_irrefl, if_false, Nat.sub_self, List.set_cons_zero]
  rw [List.take_succ_eq_append_getElem h, List.map_append, List.map_append]
  simp [List.getD_eq_getElem?_getD, h]

/-- The marks k, k + 1, .. -/
def marksI (k n : Nat) : List Int := (List.range n).map fun i => ((k + i : Nat) : Int)
theorem marksI_length (k n : Nat) : (marksI k n).length = n := by simp [marksI]
theorem marksI_succ (k0 k : Nat) : marksI k0 (k + 1) = marksI k0 k ++ [((k0 + k : Nat) : Int)] := by
  simp [marksI, List.range_succ]
theorem marksI_set (k0 k : Nat) (xs : List Int) (h : k < xs.length) :
    ((marksI k0 k ++ xs.drop k).map (Value.int .i64)).set k (.int .i64 ((k0 + k : Nat) : Int)) = (marksI k0 (k + 1) ++ xs.drop (k + 1)).map (Value.int .i64) := by
  have hd : xs.drop k = xs[k] :: xs.drop (k + 1) := by simp
  rw [hd, marksI_succ, List.map_append, List.map_cons, List.set_append]
  simp [marksI_length]

set_option maxRecDepth 20000 in
set_option maxHeartbeats 400000 in
theorem markInt64S_some (w : World) (base : Nat) (e : TypeId) (xs : List Int) (k0 g cap : Nat) (hl : xs.length ≤ 140737488355328) (hk0 : k0 ≤ 140737488355328)
    (h1 : OwnI w base e (.slice (some ⟨g, 0, none⟩) xs.length cap) xs) :
    Calls Try.prog 29 #[.slice (some ⟨g, 0, none⟩) xs.length cap, .int .i64 k0] w fun r w' => r = .returned (.int .i64 ((k0 + xs.length : Nat) : Int)) ∧
      OwnI w' base e (.slice (some ⟨g, 0, none⟩) xs.length cap) (marksI k0 xs.length) ∧ Chg g (g + 1) w w' := by
  go_enter Try.func29, Try.ntmps29
  go_wp2
  go_loopw [1, 5] (fun q i wr => ∃ k : Nat, k ≤ xs.length ∧ i = .int .i64 k ∧ q = .int .i64 ((k0 + k : Nat) : Int) ∧ OwnI wr base e (.slice (some ⟨g, 0, none⟩) xs.length cap) (marksI k0 k ++ xs.drop k) ∧ Chg g (g + 1) w wr) (fun _ i _ => xs.length - (intOf i).toNat)
  case atStart => exact ⟨0, Nat.zero_le _, rfl, rfl, by simpa [marksI] using h1, Chg.refl _ _ _⟩
  case round =>
    obtain ⟨k, hk, rfl, rfl, hown, hch⟩ := hrel
    clear h1
    have hlen : (marksI k0 k ++ xs.drop k).length = xs.length := by simp [marksI_length]; omega
    have hown' : wr.ownsRow base e 1 (.slice (some ⟨g, 0, none⟩) xs.length cap) xs.length ((marksI k0 k ++ xs.drop k).map (Value.int .i64)) := by
      have := hown; unfold OwnI at this; rw [hlen] at this; exact this
    by_cases hlt : k < xs.length
    · have c1 : ∃ u, wr.cell? ⟨g, k, none⟩ = some u := by
        have := World.ownsRow.cellAt hown' k (by omega)
        rw [this]
        exact ⟨_, List.getElem?_eq_getElem (by rw [List.length_map, hlen]; exact hlt)⟩
      obtain ⟨u, c1⟩ := c1
      have f1 : wr.frozen? ⟨g, k, none⟩ = false := World.ownsRow.frozenAt hown' k
      have hst := World.ownsRow.stored hown' k (.int .i64 ((k0 + k : Nat) : Int))
      rw [marksI_set _ _ _ hlt] at hst
      have hlen2 : (marksI k0 (k + 1) ++ xs.drop (k + 1)).length = xs.length := by simp [marksI_length]; omega
      have hi : (k : Int) < (xs.length : Int) := by omega
      have R : OwnI (wr.setCell ⟨g, k, none⟩ (.int .i64 ((k0 + k : Nat) : Int))) base e (.slice (some ⟨g, 0, none⟩) xs.length cap) (marksI k0 (k + 1) ++ xs.drop (k + 1)) := by
        unfold OwnI; rw [hlen2]; exact hst.1
      have R2 : Chg g (g + 1) w (wr.setCell ⟨g, k, none⟩ (.int .i64 ((k0 + k : Nat) : Int))) := hch.setCell (Or.inl ⟨Nat.le_refl _, Nat.lt_succ_self _⟩) _
      have HR : Hid (OwnI (wr.setCell ⟨g, k, none⟩ (.int .i64 ((k0 + k : Nat) : Int))) base e (.slice (some ⟨g, 0, none⟩) xs.length cap) (marksI k0 (k + 1) ++ xs.drop (k + 1))) := R
      clear hst hown hown' hlen hlen2 R hch
      go_wp2
      go_roundw
      case rel => exact ⟨k + 1, by omega, by go_num, by go_num, HR.out, R2⟩
      case measure => simp [intOf]; omega
    · obtain rfl : k = xs.length := by omega
      have HR : Hid (OwnI wr base e (.slice (some ⟨g, 0, none⟩) xs.length cap) (marksI k0 xs.length)) := by
        have := hown; rw [List.drop_length, List.append_nil] at this; exact this
      clear hown hown' hlen
      go_wp2
      go_ret
      exact ⟨ret_int (by omega), HR.out, hch⟩

set_option maxRecDepth 20000 in
set_option maxHeartbeats 400000 in
theorem markInt64S_none (w : World) (ao : Option Addr) (k0 cap : Nat) :
    Calls Try.prog 29 #[.slice ao 0 cap, .int .i64 k0] w fun r w' => r = .returned (.int .i64 (k0 : Int)) ∧ w' = w := by
  go_enter Try.func29, Try.ntmps29
  go_wp2
  refine wp_loop_rounds 1 ?_; rw [rounds_succ]
  go_wp2
  go_ret
  exact ⟨rfl, rfl⟩

/-- Behind markInt64S the slice's own row bears the marks; nothing else has turned. -/
theorem markInt64S_calls (w : World) (base : Nat) (e : TypeId) (v : Value) (xs : List Int) (k0 lo hi : Nat) (hl : xs.length ≤ 140737488355328) (hk0 : k0 ≤ 140737488355328)
    (h1 : OwnI w base e v xs) (hb : ∀ g, v.ownBlock = some g → lo ≤ g ∧ g < hi) :
    Calls Try.prog 29 #[v, .int .i64 k0] w fun r w' => r = .returned (.int .i64 ((k0 + xs.length : Nat) : Int)) ∧ OwnI w' base e v (marksI k0 xs.length) ∧ Chg lo hi w w' ∧ (∀ g, v.ownBlock = some g → Chg g (g + 1) w w') ∧ (v.ownBlock = none → w' = w) := by
  have h0 := h1
  obtain ⟨_, h2⟩ := h1
  rcases h2 with ⟨rfl, hn⟩ | ⟨g, cap, cur, rfl, _⟩
  · obtain rfl : xs = [] := List.eq_nil_of_length_eq_zero hn
    refine (markInt64S_none w none k0 0).mono ?_
    rintro r w' ⟨rfl, rfl⟩
    exact ⟨rfl, h0, Chg.refl _ _ _, fun _ _ => Chg.refl _ _ _, fun _ => rfl⟩
  · refine (markInt64S_some w base e xs k0 g cap hl hk0 h0).mono ?_
    rintro r w' ⟨rfl, ho, hc⟩
    have := hb g rfl
    exact ⟨rfl, ho, hc.widen (Or.inl this.1) (Or.inl (by omega)), fun g' hg' => by cases hg'; exact hc, fun h => by cases h⟩

end Go.Proofs.Ytedjnnfaahkppaa

namespace Go.Proofs.Ytedjnnfaahkppaa
open Go.RowKit

/-- What is left of a count of at most left where n are taken: -1 if there are not so many. -/
def lft (left n : Nat) : Int := if n ≤ left then ((left - n : Nat) : Int) else -1

theorem lft_pos {left n : Nat} (h : n ≤ left) : lft left n = ((left - n : Nat) : Int) := by unfold lft; rw [if_pos h]
theorem lft_neg {left n : Nat} (h : ¬ n ≤ left) : lft left n = -1 := by unfold lft; rw [if_neg h]

end Go.Proofs.Ytedjnnfaahkppaa

namespace Go.Proofs.Ytedjnnfaahkppaa
open Go.RowKit

end Go.Proofs.Ytedjnnfaahkppaa

namespace Go.Proofs.Ytedjnnfaahkppaa
open Go.RowKit

/-- k structs of n numbers each: all their numbers in a row. -/
def FView (n : Nat) (w : World) (lo hi : Nat) (v : Value) (k : Nat) (fs : List Int) : Prop :=
  ∃ ao cap, v = .slice ao k cap ∧ fs.length = k * n ∧ k ≤ 9223372036854775807 ∧ (k ≤ cap ∧ (ao = none → cap = 0)) ∧
    (k = 0 ∨ ∃ b off, ao = some ⟨b, off, none⟩ ∧ lo ≤ b ∧ b < hi ∧ ∀ j, j < k * n → w.cell? ⟨b, off + j, none⟩ = some (.int .i64 (fs.getD j 0)))

theorem FView.chg {n : Nat} {w w' : World} {lo hi l r : Nat} {v : Value} {k : Nat} {fs : List Int} (h : FView n w lo hi v k fs) (c : Chg l r w w') (d : hi ≤ l ∨ r ≤ lo ∨ r ≤ l) : FView n w' lo hi v k fs := by
  obtain ⟨ao, cap, hv, h1, h2, h3, h4⟩ := h
  refine ⟨ao, cap, hv, h1, h2, h3, ?_⟩
  rcases h4 with h4 | ⟨b, off, hao, hb, hb', h4⟩
  · exact Or.inl h4
  · exact Or.inr ⟨b, off, hao, hb, hb', fun j hj => c.cell (h4 j hj) (by show b < l ∨ r ≤ b; omega)⟩

theorem FView.slice {n : Nat} {w : World} {lo hi : Nat} {v : Value} {k : Nat} {fs : List Int} (h : FView n w lo hi v k fs) : ∃ ao cap, v = .slice ao k cap := by
  obtain ⟨ao, cap, rfl, _⟩ := h; exact ⟨ao, cap, rfl⟩

/-- The same, owned. -/
def OwnF (n : Nat) (w : World) (base : Nat) (e : TypeId) (v : Value) (k : Nat) (fs : List Int) : Prop := w.ownsRow base e n v k (fs.map (Value.int .i64))

theorem OwnF.lt {n : Nat} {w : World} {base : Nat} {e : TypeId} {v : Value} {k : Nat} {fs : List Int} (h : OwnF n w base e v k fs) : ∀ g, v.ownBlock = some g → base ≤ g ∧ g < w.heap.size := World.ownsRow.lt h

theorem OwnF.chg {n : Nat} {w w' : World} {base l r : Nat} {e : TypeId} {v : Value} {k : Nat} {fs : List Int} (h : OwnF n w base e v k fs) (c : Chg l r w w') (d : ∀ g, v.ownBlock = some g → g < l ∨ r ≤ g) : OwnF n w' base e v k fs := by
  obtain ⟨h1, h2⟩ := h
  refine ⟨h1, ?_⟩
  rcases h2 with h2 | ⟨g, cap, cur, hv, hg, hh, r⟩
  · exact Or.inl h2
  · refine Or.inr ⟨g, cap, cur, hv, hg, ?_, r⟩
    rw [c.block g (Array.getElem?_eq_some_iff.1 hh).1 (d g (by rw [hv]; rfl))]; exact hh

theorem OwnF.base {n : Nat} {w : World} {base base' : Nat} {e : TypeId} {v : Value} {k : Nat} {fs : List Int} (h : OwnF n w base e v k fs) (hb : ∀ g, v.ownBlock = some g → base' ≤ g) : OwnF n w base' e v k fs := by
  obtain ⟨h1, h2⟩ := h
  refine ⟨h1, ?_⟩
  rcases h2 with h2 | ⟨g, cap, cur, hv, hg, hh, r⟩
  · exact Or.inl h2
  · exact Or.inr ⟨g, cap, cur, hv, hb g (by rw [hv]; rfl), hh, r⟩

theorem OwnF.len {n : Nat} {w : World} {base : Nat} {e : TypeId} {v : Value} {k : Nat} {fs : List Int} (h : OwnF n w base e v k fs) : fs.length = k * n := by
  have := h.1; rwa [List.length_map] at this

theorem OwnF.view {n : Nat} {w : World} {base : Nat} {e : TypeId} {v : Value} {k : Nat} {fs : List Int} (h : OwnF n w base e v k fs) (hk : k ≤ 9223372036854775807) {hi : Nat} (hb : ∀ g, v.ownBlock = some g → g < hi) : FView n w base hi v k fs := by
  have h' := h
  have hlen := h.len
  obtain ⟨_, h2⟩ := h
  rcases h2 with ⟨rfl, h0⟩ | ⟨g, cap, cur, rfl, hg, hh, hc, hm, hs, ht⟩
  · subst h0; exact ⟨none, 0, rfl, hlen, hk, ⟨Nat.le_refl _, fun _ => rfl⟩, Or.inl rfl⟩
  · refine ⟨_, cap, rfl, hlen, hk, ⟨hc, fun h => by cases h⟩, Or.inr ⟨g, 0, rfl, hg, hb g rfl, fun j hj => ?_⟩⟩
    rw [Nat.zero_add, World.ownsRow.cellAt h' j hj]
    rw [List.getElem?_map, List.getElem?_eq_getElem (by omega)]
    simp [List.getD_eq_getElem?_getD, List.getElem?_eq_getElem (show j < fs.length by omega)]

/-- Numbers that count up. -/
def marksF (k0 m : Nat) : List Int := (List.range m).map fun i => ((k0 + i : Nat) : Int)
theorem marksF_length (k0 m : Nat) : (marksF k0 m).length = m := by simp [marksF]
theorem marksF_getD (k0 m i : Nat) (h : i < m) : (marksF k0 m).getD i 0 = ((k0 + i : Nat) : Int) := by simp [marksF, List.getD_eq_getElem?_getD, h]
theorem marksF_set (k0 m : Nat) (fs : List Int) (h : m < fs.length) : ((marksF k0 m ++ fs.drop m).map (Value.int .i64)).set m (.int .i64 ((k0 + m : Nat) : Int)) = (marksF k0 (m + 1) ++ fs.drop (m + 1)).map (Value.int .i64) := by
  rw [← List.map_set]
  congr 1
  rw [List.set_append, marksF_length, if_neg (by omega), Nat.sub_self, List.drop_eq_getElem_cons h, List.set_cons_zero]
  have : marksF k0 (m + 1) = marksF k0 m ++ [((k0 + m : Nat) : Int)] := by simp [marksF, List.range_succ]
  rw [this, List.append_assoc]; rfl

/-- append of structs that are seen to structs that are owned. -/
theorem wpList_app_flat {n : Nat} {P : Program} {w : World} {ops : Array Oper} {rest : List Oper} {o : Oper} {a : Act} {Q : Exit → Act → World → Prop} (hgd : o.guard = none) (s x : Operand) (t : TypeId)
    (ho : o.op = .call { callee := .builtin .append, args := #[s, x], argTypes := #[t, t] }) (base : Nat) (e : TypeId) (i : TypeInfo) (z : Value) (bytes : Nat) (ht : P.underlying t = some (.slice e)) (hi : P.info? e = some i) (hz : i.zero = some z)
    (hsize : i.size = n) (hby : i.bytes = bytes) (hzs : z.cells.size = n) (hsz : 0 < n) (v : Value) (k : Nat) (fs : List Int) (hs : a.eval s = v) (hown : OwnF n w base e v k fs)
    (b m c : Nat) (ys : List Int) (hx : a.eval x = .slice (some ⟨b, 0, none⟩) m c) (hl : ys.length = m * n) (hm : 0 < m) (hc : ∀ j, j < m * n → w.cell? ⟨b, j, none⟩ = some (.int .i64 (ys.getD j 0)))
    (hk : k + m ≤ 1048576) (hb64 : bytes ≤ 1024) (hbase : base ≤ w.heap.size)
    (h : ∀ v' w', (∃ g cap, v' = .slice (some ⟨g, 0, none⟩) (k + m) cap) → OwnF n w' base e v' (k + m) (fs ++ ys) → Chg base w.heap.size w w' → wpList P ops Q rest (a.put o.dst v') w') : wpList P ops Q (o :: rest) a w := by
  refine wpList_append_own w hgd s x t ho base e i z n bytes ht hi hz hsize hby hzs hsz v k _ hs hown ⟨b, 0, none⟩ m c (ys.map (Value.int .i64)) hx (by rw [List.length_map]; exact hl) ?_ ?_ (by unfold maxLen; omega) (Nat.le_trans (Nat.mul_le_mul hk hb64) (by omega)) hbase ?_
  · intro j u hj
    obtain ⟨hj', hu⟩ := List.getElem?_eq_some_iff.1 hj
    rw [List.length_map] at hj'
    have := hc j (by omega)
    rw [Go.WideShapes.add_plain, Nat.zero_add, this, ← hu]
    simp [List.getD_eq_getElem?_getD, List.getElem?_eq_getElem hj']
  · intro u hu
    obtain ⟨y, _, rfl⟩ := List.mem_map.1 hu
    rfl
  · intro v' w' h1 h2 _
    refine h v' w' ?_ (by unfold OwnF; rw [List.map_append]; exact h1) (Chg.ofGrown h2 (fun g hg hlt => ⟨(World.ownsRow.lt hown g hg).1, hlt⟩))
    rcases h1.2 with ⟨_, h0⟩ | ⟨g', cap', cur, e', _⟩
    · omega
    · exact ⟨g', cap', e'⟩

theorem OwnF.nil {n : Nat} (w : World) (e : TypeId) : OwnF n (w.alloc (.cells #[] e)) w.heap.size e (.slice (some ⟨w.heap.size, 0, none⟩) 0 0) 0 [] := by
  have := World.ownsRow_lit (base := w.heap.size) (e := e) (size := n) w #[] 0 (Nat.le_refl _) (by unfold maxLen; omega) (by simp)
  simpa [OwnF] using this

theorem OwnF.at {n : Nat} {w : World} {base : Nat} {e : TypeId} {v : Value} {k : Nat} {fs : List Int} (h : OwnF n w base e v k fs) (hk : 0 < k) : ∃ g cap, v = .slice (some ⟨g, 0, none⟩) k cap ∧ base ≤ g ∧ g < w.heap.size := by
  have hb := h.lt
  obtain ⟨_, h2⟩ := h
  rcases h2 with ⟨_, h0⟩ | ⟨g, cap, cur, rfl, hg, _⟩
  · omega
  · exact ⟨g, cap, rfl, hg, (hb g rfl).2⟩

theorem OwnF.cell {n : Nat} {w : World} {base : Nat} {e : TypeId} {g k cap : Nat} {fs : List Int} (h : OwnF n w base e (.slice (some ⟨g, 0, none⟩) k cap) k fs) (j : Nat) (hj : j < k * n) :
    w.cell? ⟨g, j, none⟩ = some (.int .i64 (fs.getD j 0)) ∧ w.frozen? ⟨g, j, none⟩ = false := by
  have hlen := h.len
  refine ⟨?_, World.ownsRow.frozenAt h j⟩
  rw [World.ownsRow.cellAt h j hj, List.getElem?_map, List.getElem?_eq_getElem (by omega)]
  simp [List.getD_eq_getElem?_getD, List.getElem?_eq_getElem (show j < fs.length by omega)]

theorem OwnF.put {n : Nat} {w : World} {base : Nat} {e : TypeId} {g k cap : Nat} {fs : List Int} (h : OwnF n w base e (.slice (some ⟨g, 0, none⟩) k cap) k fs) (j : Nat) (x : Int) :
    OwnF n (w.setCell ⟨g, j, none⟩ (.int .i64 x)) base e (.slice (some ⟨g, 0, none⟩) k cap) k (fs.set j x) := by
  have := (World.ownsRow.stored h j (.int .i64 x)).1
  unfold OwnF at *
  rw [List.map_set]; exact this

end Go.Proofs.Ytedjnnfaahkppaa

namespace Go.Proofs.Ytedjnnfaahkppaa
open Go.RowKit

set_option maxHeartbeats 400000 in
theorem l3GoodBlock_calls (w : World) (v : Int) : Calls Try.prog 31 #[.int .i64 v] w fun e w' => e = .returned (.bool (decide (0 ≤ v) && decide (v < 2048))) ∧ w' = w := by
  by_cases h1 : 0 ≤ v
  · by_cases h2 : v < 2048
    · rw [decide_eq_true h1, decide_eq_true h2]
      go_enter Try.func31, Try.ntmps31
      go_wp2
      go_ret
      exact ⟨rfl, rfl⟩
    · rw [decide_eq_true h1, decide_eq_false h2]
      go_enter Try.func31, Try.ntmps31
      go_wp2
      go_ret
      exact ⟨rfl, rfl⟩
  · rw [decide_eq_false h1]
    go_enter Try.func31, Try.ntmps31
    go_wp2
    go_ret
    exact ⟨rfl, rfl⟩

end Go.Proofs.Ytedjnnfaahkppaa

namespace Go.Proofs.Ytedjnnfaahkppaa
open Go.RowKit

/-- An inode: kind, links, size, direct blocks, the indirect one. -/
structure Ino where
  kind : Int
  links : Int
  size : Int
  dir : List Int
  ind : Int

abbrev inoV (i : Ino) (ao : Option Addr) (cap : Nat) : Value := .agg #[.int .i64 i.kind, .int .i64 i.links, .int .i64 i.size, .slice ao i.dir.length cap, .int .i64 i.ind]
abbrev inoO (t : TypeId) (i : Ino) (ao : Option Addr) (cap : Nat) : Obj := .cells #[.int .i64 i.kind, .int .i64 i.links, .int .i64 i.size, .slice ao i.dir.length cap, .int .i64 i.ind] t
theorem ino_all {w : World} {s : Nat} {a b c d e : Value} {t : TypeId} (h : w.heap[s]? = some (.cells #[a, b, c, d, e] t (0, 0))) :
    (w.cell? ⟨s, 0, none⟩ = some a ∧ w.cell? ⟨s, 1, none⟩ = some b ∧ w.cell? ⟨s, 2, none⟩ = some c ∧ w.cell? ⟨s, 3, none⟩ = some d ∧ w.cell? ⟨s, 4, none⟩ = some e) ∧
      w.frozen? ⟨s, 0, none⟩ = false ∧ w.frozen? ⟨s, 1, none⟩ = false ∧ w.frozen? ⟨s, 2, none⟩ = false ∧ w.frozen? ⟨s, 3, none⟩ = false ∧ w.frozen? ⟨s, 4, none⟩ = false := by
  simp [World.cell?, World.frozen?, h]

set_option maxRecDepth 20000 in
set_option maxHeartbeats 400000 in
theorem eqInode_calls (w : World) {lo hi lo' hi' : Nat} (i : Ino) (ao bo : Option Addr) (cap cap' : Nat) (h1 : View w lo hi .i64 (.slice ao i.dir.length cap) i.dir) (h2 : View w lo' hi' .i64 (.slice bo i.dir.length cap') i.dir) :
    Calls Try.prog 17 #[inoV i ao cap, inoV i bo cap'] w fun e w' => e = .returned (.bool true) ∧ Chg 0 0 w w' := by
  have hA : Chg 0 0 w ((w.alloc (inoO 25 i ao cap)).alloc (inoO 25 i bo cap')) := (Chg.alloc (Chg.refl 0 0 w) _).alloc _
  obtain ⟨z, b0, b1⟩ := alloc2 w (inoO 25 i ao cap) (inoO 25 i bo cap')
  have n0 : (i.kind != i.kind) = false := by simp
  have n1 : (i.links != i.links) = false := by simp
  have n2 : (i.size != i.size) = false := by simp
  have n3 : (i.ind != i.ind) = false := by simp
  have hN := eqInt64S_calls _ (h1.chg hA (by omega)) (h2.chg hA (by omega))
  clear h1 h2
  go_enter Try.func17, Try.ntmps17
  go_wp2_with fail
  generalize (w.alloc (inoO 25 i ao cap)).alloc (inoO 25 i bo cap') = w0 at *
  refine hN.mono ?_
  rintro e w1 ⟨rfl, hs⟩
  have hs := hs.chg 0 0
  obtain ⟨⟨x0, x1, x2, x3, x4⟩, _⟩ := ino_all ((hs.block w.heap.size (by omega) (by omega)).trans b0)
  obtain ⟨⟨y0, y1, y2, y3, y4⟩, _⟩ := ino_all ((hs.block (w.heap.size + 1) (by omega) (by omega)).trans b1)
  have HC : Hid (Chg 0 0 w w1) := hA.trans hs
  clear hs hA hN b0 b1
  go_wp2
  go_ret
  exact ⟨rfl, HC.out⟩

end Go.Proofs.Ytedjnnfaahkppaa
