/- Several short texts in one: MarkB, MarkO, OpsLook, EqB, EqO, SzB, HomeSz, ToB, HomeTo, HomeEq, HomeMark. -/
import Derived.Test.YtfdbmhaapembjaaGreatDoorRows
import Derived.Test.YtfdbmhaapembjaaGreatDoorOpsApp
import Derived.Deep.RegionWith
namespace Go.Proofs.YtfdbmhaapembjaaGreatDoor
open Go.RowKit

set_option maxRecDepth 20000 in
set_option maxHeartbeats 400000 in
theorem heldByteS_some (w : World) (n k0 : Nat) (b off cap : Nat) (hl : n ≤ 140737488355328) (hk0 : k0 ≤ 140737488355328)
    (h1 : ∀ i, i < n → w.cell? ⟨b, off + i, none⟩ = some (.int .u8 ((marks k0 n).getD i 0))) :
    Calls Tryz.prog 25 #[.slice (some ⟨b, off, none⟩) n cap, .int .i64 k0] w fun e w' => e = .returned (.int .i64 ((k0 + n : Nat) : Int)) ∧ Same w w' := by
  go_enter Tryz.func25, Tryz.ntmps25
  go_wp2
  go_loop [1, 5] (fun q i => ∃ k : Nat, k ≤ n ∧ i = .int .i64 k ∧ q = .int .i64 ((k0 + k : Nat) : Int)) (fun _ i => n - (intOf i).toNat)
  case atStart => exact ⟨0, Nat.zero_le _, rfl, rfl⟩
  case round =>
    obtain ⟨k, hk, rfl, rfl⟩ := hrel
    by_cases hlt : k < n
    · have c1 : w.cell? ⟨b, off + k, none⟩ = some (.int .u8 (((k0 + k : Nat) : Int) % 256)) := by rw [h1 k hlt, marks_getD _ _ _ hlt]
      have hi : (k : Int) < (n : Int) := by omega
      clear h1
      go_wp2
      go_round
      case rel => exact ⟨k + 1, by omega, by go_num, by go_num⟩
      case measure => simp [intOf]; omega
    · clear h1
      go_wp2
      go_ret
      exact ⟨ret_int (by omega), Same.refl _⟩

set_option maxRecDepth 20000 in
set_option maxHeartbeats 400000 in
theorem heldByteS_none (w : World) (ao : Option Addr) (k0 cap : Nat) :
    Calls Tryz.prog 25 #[.slice ao 0 cap, .int .i64 k0] w fun e w' => e = .returned (.int .i64 (k0 : Int)) ∧ Same w w' := by
  go_enter Tryz.func25, Tryz.ntmps25
  go_wp2
  refine wp_loop_rounds 1 ?_; rw [rounds_succ]
  go_wp2
  go_ret
  exact ⟨rfl, Same.refl _⟩

theorem heldByteS_calls (w : World) {lo hi : Nat} {a : Value} (k0 n : Nat) (hk0 : k0 + n ≤ 140737488355328) (h1 : View w lo hi .u8 a (marks k0 n)) :
    Calls Tryz.prog 25 #[a, .int .i64 k0] w fun e w' => e = .returned (.int .i64 ((k0 + n : Nat) : Int)) ∧ Same w w' := by
  obtain ⟨ao, cap, rfl, hl, _, h1⟩ := h1
  rw [marks_length] at *
  rcases h1 with h1 | ⟨x, off, rfl, _, _, h1⟩
  · obtain rfl : n = 0 := by have := congrArg List.length h1; simpa [marks_length] using this
    exact heldByteS_none w ao k0 cap
  · exact heldByteS_some w n k0 x off cap (by omega) (by omega) h1

set_option maxRecDepth 20000 in
set_option maxHeartbeats 400000 in
theorem markByteS_some (w : World) (base : Nat) (e : TypeId) (xs : List Int) (k0 g cap : Nat) (hl : xs.length ≤ 140737488355328) (hk0 : k0 ≤ 140737488355328)
    (h1 : OwnB w base e (.slice (some ⟨g, 0, none⟩) xs.length cap) xs) :
    Calls Tryz.prog 24 #[.slice (some ⟨g, 0, none⟩) xs.length cap, .int .i64 k0] w fun r w' => r = .returned (.int .i64 ((k0 + xs.length : Nat) : Int)) ∧
      OwnB w' base e (.slice (some ⟨g, 0, none⟩) xs.length cap) (marks k0 xs.length) ∧ Chg g (g + 1) w w' := by
  go_enter Tryz.func24, Tryz.ntmps24
  go_wp2
  go_loopw [1, 5] (fun q i wr => ∃ k : Nat, k ≤ xs.length ∧ i = .int .i64 k ∧ q = .int .i64 ((k0 + k : Nat) : Int) ∧ OwnB wr base e (.slice (some ⟨g, 0, none⟩) xs.length cap) (marks k0 k ++ xs.drop k) ∧ Chg g (g + 1) w wr) (fun _ i _ => xs.length - (intOf i).toNat)
  case atStart => exact ⟨0, Nat.zero_le _, rfl, rfl, by simpa [marks] using h1, Chg.refl _ _ _⟩
  case round =>
    obtain ⟨k, hk, rfl, rfl, hown, hch⟩ := hrel
    clear h1
    have hlen : (marks k0 k ++ xs.drop k).length = xs.length := by simp [marks_length]; omega
    have hown' : wr.ownsRow base e 1 (.slice (some ⟨g, 0, none⟩) xs.length cap) xs.length ((marks k0 k ++ xs.drop k).map (Value.int .u8)) := by
      have := hown; unfold OwnB at this; rw [hlen] at this; exact this
    by_cases hlt : k < xs.length
    · have c1 : ∃ u, wr.cell? ⟨g, k, none⟩ = some u := by
        have := World.ownsRow.cellAt hown' k (by omega)
        rw [this]
        exact ⟨_, List.getElem?_eq_getElem (by rw [List.length_map, hlen]; exact hlt)⟩
      obtain ⟨u, c1⟩ := c1
      have f1 : wr.frozen? ⟨g, k, none⟩ = false := World.ownsRow.frozenAt hown' k
      have hst := World.ownsRow.stored hown' k (.int .u8 (((k0 + k : Nat) : Int) % 256))
      rw [marks_set _ _ _ hlt] at hst
      have hlen2 : (marks k0 (k + 1) ++ xs.drop (k + 1)).length = xs.length := by simp [marks_length]; omega
      have hi : (k : Int) < (xs.length : Int) := by omega
      have R : OwnB (wr.setCell ⟨g, k, none⟩ (.int .u8 (((k0 + k : Nat) : Int) % 256))) base e (.slice (some ⟨g, 0, none⟩) xs.length cap) (marks k0 (k + 1) ++ xs.drop (k + 1)) := by
        unfold OwnB; rw [hlen2]; exact hst.1
      have R2 : Chg g (g + 1) w (wr.setCell ⟨g, k, none⟩ (.int .u8 (((k0 + k : Nat) : Int) % 256))) := hch.setCell (Or.inl ⟨Nat.le_refl _, Nat.lt_succ_self _⟩) _
      have HR : Hid (OwnB (wr.setCell ⟨g, k, none⟩ (.int .u8 (((k0 + k : Nat) : Int) % 256))) base e (.slice (some ⟨g, 0, none⟩) xs.length cap) (marks k0 (k + 1) ++ xs.drop (k + 1))) := R
      clear hst hown hown' hlen hlen2 R hch
      go_wp2
      go_roundw
      case rel => exact ⟨k + 1, by omega, by go_num, by go_num, HR.out, R2⟩
      case measure => simp [intOf]; omega
    · obtain rfl : k = xs.length := by omega
      have HR : Hid (OwnB wr base e (.slice (some ⟨g, 0, none⟩) xs.length cap) (marks k0 xs.length)) := by
        have := hown; rw [List.drop_length, List.append_nil] at this; exact this
      clear hown hown' hlen
      go_wp2
      go_ret
      exact ⟨ret_int (by omega), HR.out, hch⟩

set_option maxRecDepth 20000 in
set_option maxHeartbeats 400000 in
theorem markByteS_none (w : World) (ao : Option Addr) (k0 cap : Nat) :
    Calls Tryz.prog 24 #[.slice ao 0 cap, .int .i64 k0] w fun r w' => r = .returned (.int .i64 (k0 : Int)) ∧ w' = w := by
  go_enter Tryz.func24, Tryz.ntmps24
  go_wp2
  refine wp_loop_rounds 1 ?_; rw [rounds_succ]
  go_wp2
  go_ret
  exact ⟨rfl, rfl⟩

/-- Behind markByteS the slice's own row bears the marks; nothing else has turned. -/
theorem markByteS_calls (w : World) (base : Nat) (e : TypeId) (v : Value) (xs : List Int) (k0 lo hi : Nat) (hl : xs.length ≤ 140737488355328) (hk0 : k0 ≤ 140737488355328)
    (h1 : OwnB w base e v xs) (hb : ∀ g, v.ownBlock = some g → lo ≤ g ∧ g < hi) :
    Calls Tryz.prog 24 #[v, .int .i64 k0] w fun r w' => r = .returned (.int .i64 ((k0 + xs.length : Nat) : Int)) ∧ OwnB w' base e v (marks k0 xs.length) ∧ Chg lo hi w w' ∧ (∀ g, v.ownBlock = some g → Chg g (g + 1) w w') ∧ (v.ownBlock = none → w' = w) := by
  have h0 := h1
  obtain ⟨_, h2⟩ := h1
  rcases h2 with ⟨rfl, hn⟩ | ⟨g, cap, cur, rfl, _⟩
  · obtain rfl : xs = [] := List.eq_nil_of_length_eq_zero hn
    refine (markByteS_none w none k0 0).mono ?_
    rintro r w' ⟨rfl, rfl⟩
    exact ⟨rfl, h0, Chg.refl _ _ _, fun _ _ => Chg.refl _ _ _, fun _ => rfl⟩
  · refine (markByteS_some w base e xs k0 g cap hl hk0 h0).mono ?_
    rintro r w' ⟨rfl, ho, hc⟩
    have := hb g rfl
    exact ⟨rfl, ho, hc.widen (Or.inl this.1) (Or.inl (by omega)), fun g' hg' => by cases hg'; exact hc, fun h => by cases h⟩

end Go.Proofs.YtfdbmhaapembjaaGreatDoor

namespace Go.Proofs.YtfdbmhaapembjaaGreatDoor
open Go.RowKit

/-- How many marks a list of operations takes. -/
def cnt2 (os : List Opx) : Nat := (os.map fun o => o.2.2.length + 2).sum

theorem cnt2_ge (os : List Opx) : os.length ≤ cnt2 os := by
  unfold cnt2
  induction os with
  | nil => simp
  | cons p r ih => simp at *; omega

theorem cnt2_take_succ (os : List Opx) (k : Nat) (h : k < os.length) : cnt2 (os.take (k + 1)) = cnt2 (os.take k) + ((os.getD k Opx.zero).2.2.length + 2) := by
  unfold cnt2
  rw [List.take_succ_eq_append_getElem h, List.map_append, List.sum_append_nat]
  simp [List.getD_eq_getElem?_getD, h]

theorem cnt2_take_le (os : List Opx) (k : Nat) : cnt2 (os.take k) ≤ cnt2 os := by
  have : cnt2 os = cnt2 (os.take k) + cnt2 (os.drop k) := by
    unfold cnt2; rw [← List.sum_append_nat, ← List.map_append, List.take_append_drop]
  omega

/-- The i-th operation, marked. -/
def mkO (k0 : Nat) (os : List Opx) (i : Nat) : Opx := (((k0 + cnt2 (os.take i) : Nat) : Int), ((k0 + cnt2 (os.take i) + 1 : Nat) : Int), marks (k0 + cnt2 (os.take i) + 2) (os.getD i Opx.zero).2.2.length)

/-- The operations, the first k of them marked. -/
def mkOs (k0 : Nat) (os : List Opx) (k : Nat) : List Opx := (List.range os.length).map fun i => if i < k then mkO k0 os i else os.getD i Opx.zero

theorem mkOs_length (k0 : Nat) (os : List Opx) (k : Nat) : (mkOs k0 os k).length = os.length := by simp [mkOs]

theorem mkOs_getD (k0 : Nat) (os : List Opx) (k i : Nat) (h : i < os.length) : (mkOs k0 os k).getD i Opx.zero = if i < k then mkO k0 os i else os.getD i Opx.zero := by
  simp [mkOs, List.getD_eq_getElem?_getD, h]

theorem mkOs_zero (k0 : Nat) (os : List Opx) : mkOs k0 os 0 = os := by
  apply List.ext_getElem (by simp [mkOs])
  intro i h1 h2
  simp [mkOs, List.getD_eq_getElem?_getD, h2]

theorem mkOs_succ (k0 : Nat) (os : List Opx) (k : Nat) : (mkOs k0 os k).set k (mkO k0 os k) = mkOs k0 os (k + 1) := by
  apply List.ext_getElem (by simp [mkOs])
  intro i h1 h2
  rw [List.getElem_set]
  simp only [mkOs, List.getElem_map, List.getElem_range]
  by_cases e : k = i
  · subst e; simp
  · rw [if_neg e]
    by_cases e2 : i < k
    · rw [if_pos e2, if_pos (by omega)]
    · rw [if_neg e2, if_neg (by omega)]

/-- One operation's numbers and bytes are written anew in their places. -/
theorem OwnOx.step {wr w2 : World} {base g cap n k : Nat} {eO eB : TypeId} {os : List Opx} {cells : List Value} {dvs : Nat → Value}
    (h : OwnOx wr base eO eB (.slice (some ⟨g, 0, none⟩) n cap) os cells dvs) (hn : os.length = n) (hk : k < n) (hE : eO ≠ eB) (q a : Int) (ys : List Int)
    (ho : OwnB w2 base eB (dvs k) ys) (hc : ∀ g', (dvs k).ownBlock = some g' → Chg g' (g' + 1) ((wr.setCell ⟨g, k * 3, none⟩ (.int .i64 q)).setCell ⟨g, k * 3 + 1, none⟩ (.int .i64 a)) w2)
    (hc0 : (dvs k).ownBlock = none → w2 = (wr.setCell ⟨g, k * 3, none⟩ (.int .i64 q)).setCell ⟨g, k * 3 + 1, none⟩ (.int .i64 a)) :
    OwnOx w2 base eO eB (.slice (some ⟨g, 0, none⟩) n cap) (os.set k (q, a, ys)) ((cells.set (k * 3) (.int .i64 q)).set (k * 3 + 1) (.int .i64 a)) dvs := by
  obtain ⟨cur, hcur⟩ := h.row_elem
  obtain ⟨row, at0, at1, at2, data, apart⟩ := h
  rw [hn] at row
  have hst := (World.ownsRow.stored (World.ownsRow.stored row (k * 3) (.int .i64 q)).1 (k * 3 + 1) (.int .i64 a)).1
  have hlen : cells.length = n * 3 := row.1
  have C2 : Chg g (g + 1) wr ((wr.setCell ⟨g, k * 3, none⟩ (.int .i64 q)).setCell ⟨g, k * 3 + 1, none⟩ (.int .i64 a)) := Chg.setCell (p := ⟨g, k * 3 + 1, none⟩) (Chg.setCell (p := ⟨g, k * 3, none⟩) (Chg.refl _ _ _) (Or.inl ⟨Nat.le_refl _, Nat.lt_succ_self _⟩) _) (Or.inl ⟨Nat.le_refl _, Nat.lt_succ_self _⟩) _
  have hne : ∀ i g', i < n → (dvs i).ownBlock = some g' → g' ≠ g := by
    intro i g' hi hg' e
    exact (data i (by omega)).ne_row hcur hE (by rw [hg', e])
  generalize (wr.setCell ⟨g, k * 3, none⟩ (.int .i64 q)).setCell ⟨g, k * 3 + 1, none⟩ (.int .i64 a) = ws at *
  have c1 : ∀ i, i < n → OwnB ws base eB (dvs i) (os.getD i Opx.zero).2.2 := by
    intro i hi
    refine (data i (by omega)).chg C2 ?_
    intro g' hg'
    have := hne i g' hi hg'
    omega
  have K : ∀ m, (∀ g', (dvs k).ownBlock = some g' → m ≠ g') → m < ws.heap.size → w2.heap[m]? = ws.heap[m]? := by
    intro m hm hlt
    cases hb : (dvs k).ownBlock with
    | none => rw [hc0 hb]
    | some g' => exact (hc g' hb).block m hlt (by have := hm g' hb; omega)
  have hlt2 : ∀ {m : Nat} {o : Obj}, ws.heap[m]? = some o → m < ws.heap.size := fun h => (Array.getElem?_eq_some_iff.1 h).1
  have hps : (os.set k (q, a, ys)).length = n := by simp [hn]
  have hget : ∀ i, i ≠ k → (os.set k (q, a, ys)).getD i Opx.zero = os.getD i Opx.zero := by
    intro i e
    simp only [List.getD_eq_getElem?_getD, List.getElem?_set_ne (fun h => e h.symm)]
  have hgetk : (os.set k (q, a, ys)).getD k Opx.zero = (q, a, ys) := by simp [List.getD_eq_getElem?_getD, hn, hk]
  refine ⟨?_, ?_, ?_, ?_, ?_, ?_⟩
  · rw [hps]
    obtain ⟨h1, h2⟩ := hst
    refine ⟨h1, ?_⟩
    rcases h2 with h2 | ⟨g', cap', cur', hv, hg, hh, r⟩
    · exact Or.inl h2
    · refine Or.inr ⟨g', cap', cur', hv, hg, ?_, r⟩
      simp only [Value.slice.injEq, Option.some.injEq, Addr.mk.injEq, and_true, true_and] at hv
      obtain ⟨rfl, rfl⟩ := hv
      rw [K g (fun g' hg' e => hne k g' hk hg' e.symm) (hlt2 hh)]; exact hh
  · intro i hi
    rw [hps] at hi
    rw [List.getElem?_set_ne (by omega)]
    by_cases e : i = k
    · subst e; rw [List.getElem?_set_self (by omega), hgetk]
    · rw [List.getElem?_set_ne (by omega), at0 i (by omega), hget i e]
  · intro i hi
    rw [hps] at hi
    by_cases e : i = k
    · subst e; rw [List.getElem?_set_self (by simp; omega), hgetk]
    · rw [List.getElem?_set_ne (by omega), List.getElem?_set_ne (by omega), at1 i (by omega), hget i e]
  · intro i hi
    rw [hps] at hi
    rw [List.getElem?_set_ne (by omega), List.getElem?_set_ne (by omega)]; exact at2 i (by omega)
  · intro i hi
    rw [hps] at hi
    by_cases e : i = k
    · subst e
      rw [hgetk]; exact ho
    · have := c1 i hi
      rw [hget i e]
      obtain ⟨h1, h2⟩ := this
      refine ⟨h1, ?_⟩
      rcases h2 with h2 | ⟨g', cap', cur', hv, hg, hh, r⟩
      · exact Or.inl h2
      · refine Or.inr ⟨g', cap', cur', hv, hg, ?_, r⟩
        rw [K g' ?_ (hlt2 hh)]; exact hh
        intro g'' hg'' e3
        subst e3
        have hi' : (dvs i).ownBlock = some g' := by rw [hv]; rfl
        rcases Nat.lt_or_gt_of_ne e with h | h
        · exact apart i k g' h (by omega) hi' hg''
        · exact apart k i g' h (by omega) hg'' hi'
  · intro i j g' hij hj
    rw [hps] at hj
    exact apart i j g' hij (by omega)

set_option maxRecDepth 20000 in
set_option maxHeartbeats 1000000 in
theorem markO_some (w : World) (base : Nat) (ps : List Opx) (k0 g cap lo hi : Nat) (hl : ps.length ≤ 140737488355328) (hk0 : k0 + cnt2 ps ≤ 140737488355328)
    (cells : List Value) (dvs : Nat → Value) (h1 : OwnOx w base 44 5 (.slice (some ⟨g, 0, none⟩) ps.length cap) ps cells dvs) (hg : lo ≤ g ∧ g < hi)
    (hb : ∀ i g', i < ps.length → (dvs i).ownBlock = some g' → lo ≤ g' ∧ g' < hi) :
    Calls Tryz.prog 12 #[.slice (some ⟨g, 0, none⟩) ps.length cap, .int .i64 k0] w fun r w' => r = .returned (.int .i64 ((k0 + cnt2 ps : Nat) : Int)) ∧
      (∃ cells', OwnOx w' base 44 5 (.slice (some ⟨g, 0, none⟩) ps.length cap) (mkOs k0 ps ps.length) cells' dvs) ∧ Chg lo hi w w' := by
  go_enter Tryz.func12, Tryz.ntmps12
  go_wp2
  go_loopw [1, 5] (fun q i wr => ∃ k : Nat, k ≤ ps.length ∧ i = .int .i64 k ∧ q = .int .i64 ((k0 + cnt2 (ps.take k) : Nat) : Int) ∧
      (∃ cells', OwnOx wr base 44 5 (.slice (some ⟨g, 0, none⟩) ps.length cap) (mkOs k0 ps k) cells' dvs) ∧ Chg lo hi w wr) (fun _ i _ => ps.length - (intOf i).toNat)
  case atStart => exact ⟨0, Nat.zero_le _, rfl, rfl, ⟨cells, by rw [mkOs_zero]; exact h1⟩, Chg.refl _ _ _⟩
  case round =>
    obtain ⟨k, hk, rfl, rfl, ⟨cells', hown⟩, hch⟩ := hrel
    clear h1
    by_cases hlt : k < ps.length
    · have hrow := hown.row
      rw [mkOs_length] at hrow
      have hlen : cells'.length = ps.length * 3 := hrow.1
      obtain ⟨cur, hcur⟩ := hown.row_elem
      have c0 : ∃ u, wr.cell? ⟨g, k * 3, none⟩ = some u := ⟨_, (World.ownsRow.cellAt hrow (k * 3) (by omega)).trans (hown.at0 k (by rw [mkOs_length]; exact hlt))⟩
      have c1 : ∃ u, wr.cell? ⟨g, k * 3 + 1, none⟩ = some u := ⟨_, (World.ownsRow.cellAt hrow (k * 3 + 1) (by omega)).trans (hown.at1 k (by rw [mkOs_length]; exact hlt))⟩
      have c2 : wr.cell? ⟨g, k * 3 + 2, none⟩ = some (dvs k) := (World.ownsRow.cellAt hrow (k * 3 + 2) (by omega)).trans (hown.at2 k (by rw [mkOs_length]; exact hlt))
      obtain ⟨u0, c0⟩ := c0
      obtain ⟨u1, c1⟩ := c1
      have f0 := World.ownsRow.frozenAt hrow (k * 3)
      have f1 := World.ownsRow.frozenAt hrow (k * 3 + 1)
      have hik : (k : Int) < (ps.length : Int) := by omega
      have hcs := cnt2_take_succ ps k hlt
      have hcl := cnt2_take_le ps (k + 1)
      have hold : (mkOs k0 ps k).getD k Opx.zero = ps.getD k Opx.zero := by rw [mkOs_getD _ _ _ _ hlt, if_neg (Nat.lt_irrefl _)]
      have HW : Hid (mkO k0 ps k = (((k0 + cnt2 (ps.take k) : Nat) : Int), ((k0 + cnt2 (ps.take k) + 1 : Nat) : Int), marks (k0 + cnt2 (ps.take k) + 2) (ps.getD k Opx.zero).2.2.length)) := rfl
      have hd0 := hown.data k (by rw [mkOs_length]; exact hlt)
      rw [hold] at hd0
      generalize hc : cnt2 (ps.take k) = c at *
      generalize ps.getD k Opx.zero = old at *
      have C2 : Chg g (g + 1) wr ((wr.setCell ⟨g, k * 3, none⟩ (.int .i64 ((k0 + c : Nat) : Int))).setCell ⟨g, k * 3 + 1, none⟩ (.int .i64 ((k0 + c + 1 : Nat) : Int))) := Chg.setCell (p := ⟨g, k * 3 + 1, none⟩) (Chg.setCell (p := ⟨g, k * 3, none⟩) (Chg.refl _ _ _) (Or.inl ⟨Nat.le_refl _, Nat.lt_succ_self _⟩) _) (Or.inl ⟨Nat.le_refl _, Nat.lt_succ_self _⟩) _
      have hd : OwnB ((wr.setCell ⟨g, k * 3, none⟩ (.int .i64 ((k0 + c : Nat) : Int))).setCell ⟨g, k * 3 + 1, none⟩ (.int .i64 ((k0 + c + 1 : Nat) : Int))) base 5 (dvs k) old.2.2 := by
        refine hd0.chg C2 (fun g' hg' => ?_)
        have := hd0.ne_row hcur (by decide)
        have : g' ≠ g := fun e => this (by rw [hg', e])
        omega
      have hM := markByteS_calls _ base 5 (dvs k) old.2.2 (k0 + c + 2) lo hi (by omega) (by omega) hd (hb k · hlt)
      have HC2 : Hid (Chg lo hi w ((wr.setCell ⟨g, k * 3, none⟩ (.int .i64 ((k0 + c : Nat) : Int))).setCell ⟨g, k * 3 + 1, none⟩ (.int .i64 ((k0 + c + 1 : Nat) : Int)))) := hch.step C2 (Or.inl ⟨hg.1, by omega⟩)
      have Hown : Hid (OwnOx wr base 44 5 (.slice (some ⟨g, 0, none⟩) ps.length cap) (mkOs k0 ps k) cells' dvs) := hown
      have Hcs : Hid (cnt2 (ps.take (k + 1)) = c + (old.2.2.length + 2)) := hcs
      have E1 : Hid ((k0 : Int) + (c : Int) + 1 = ((k0 + c + 1 : Nat) : Int)) := by show _ = _; omega
      have E0 : Hid ((k0 : Int) + (c : Int) = ((k0 + c : Nat) : Int)) := by show _ = _; omega
      have E2 : Hid ((k0 : Int) + (c : Int) + 1 + 1 = ((k0 + c + 2 : Nat) : Int)) := by show _ = _; omega
      have hbd : k0 + c + 2 + old.2.2.length ≤ 140737488355328 := by omega
      clear hc hcs hcl hold hrow hown hd hd0 hch C2 hcur hlen
      go_wp2_with fail
      rw [E2.out, E1.out, E0.out]
      refine hM.mono ?_
      rintro e w2 ⟨rfl, ho, hc1, hc2, hc3⟩
      have R1 := Hown.out.step (mkOs_length _ _ _) hlt (by decide) ((k0 + c : Nat) : Int) ((k0 + c + 1 : Nat) : Int) _ ho hc2 hc3
      rw [← HW.out, mkOs_succ] at R1
      have HR : Hid (∃ cells'', OwnOx w2 base 44 5 (.slice (some ⟨g, 0, none⟩) ps.length cap) (mkOs k0 ps (k + 1)) cells'' dvs) := ⟨_, R1⟩
      have R2 : Hid (Chg lo hi w w2) := HC2.out.trans hc1
      clear R1 hc1 hc2 hc3 ho HC2 Hown hM c0 c1 c2 f0 f1 HW E0 E1 E2
      go_wp2
      go_roundw
      case rel => exact ⟨k + 1, by omega, by go_num, by rw [Hcs.out]; go_num, HR.out, R2.out⟩
      case measure => simp [intOf]; omega
    · obtain rfl : k = ps.length := by omega
      have H1 : Hid (∃ cells'', OwnOx wr base 44 5 (.slice (some ⟨g, 0, none⟩) ps.length cap) (mkOs k0 ps ps.length) cells'' dvs) := ⟨_, hown⟩
      rw [List.take_length]
      clear hown
      go_wp2
      go_ret
      exact ⟨rfl, H1.out, hch⟩

set_option maxRecDepth 20000 in
set_option maxHeartbeats 400000 in
theorem markO_none (w : World) (ao : Option Addr) (k0 cap : Nat) :
    Calls Tryz.prog 12 #[.slice ao 0 cap, .int .i64 k0] w fun r w' => r = .returned (.int .i64 (k0 : Int)) ∧ w' = w := by
  go_enter Tryz.func12, Tryz.ntmps12
  go_wp2
  refine wp_loop_rounds 1 ?_; rw [rounds_succ]
  go_wp2
  go_ret
  exact ⟨rfl, rfl⟩

/-- Behind markOpS the operations bear the marks. -/
theorem markO_calls (w : World) (base : Nat) (v : Value) (ps : List Opx) (k0 lo hi : Nat) (hl : ps.length ≤ 140737488355328) (hk0 : k0 + cnt2 ps ≤ 140737488355328)
    (cells : List Value) (dvs : Nat → Value) (h1 : OwnOx w base 44 5 v ps cells dvs) (hg : ∀ g, v.ownBlock = some g → lo ≤ g ∧ g < hi)
    (hb : ∀ i g', i < ps.length → (dvs i).ownBlock = some g' → lo ≤ g' ∧ g' < hi) :
    Calls Tryz.prog 12 #[v, .int .i64 k0] w fun r w' => r = .returned (.int .i64 ((k0 + cnt2 ps : Nat) : Int)) ∧
      (∃ cells', OwnOx w' base 44 5 v (mkOs k0 ps ps.length) cells' dvs) ∧ Chg lo hi w w' := by
  rcases h1.row.2 with ⟨rfl, hn⟩ | ⟨g, cap, cur, rfl, _⟩
  · obtain rfl : ps = [] := List.eq_nil_of_length_eq_zero hn
    refine (markO_none w none k0 0).mono ?_
    rintro r w' ⟨rfl, rfl⟩
    exact ⟨rfl, ⟨cells, by simpa [mkOs] using h1⟩, Chg.refl _ _ _⟩
  · exact markO_some w base ps k0 g cap lo hi hl hk0 cells dvs h1 (hg g rfl) hb

set_option maxRecDepth 20000 in
set_option maxHeartbeats 1000000 in
theorem heldO_some (w : World) (ps : List Opx) (k0 lo hi b off cap : Nat) (hl : ps.length ≤ 140737488355328) (hk0 : k0 + cnt2 ps ≤ 140737488355328)
    (h1 : ∀ i, i < ps.length → ∃ dv, w.cell? ⟨b, off + i * 3, none⟩ = some (.int .i64 ((mkOs k0 ps ps.length).getD i Opx.zero).1) ∧ w.cell? ⟨b, off + i * 3 + 1, none⟩ = some (.int .i64 ((mkOs k0 ps ps.length).getD i Opx.zero).2.1) ∧ w.cell? ⟨b, off + i * 3 + 2, none⟩ = some dv ∧ View w lo hi .u8 dv ((mkOs k0 ps ps.length).getD i Opx.zero).2.2) :
    Calls Tryz.prog 13 #[.slice (some ⟨b, off, none⟩) ps.length cap, .int .i64 k0] w fun e w' => e = .returned (.int .i64 ((k0 + cnt2 ps : Nat) : Int)) ∧ Same w w' := by
  go_enter Tryz.func13, Tryz.ntmps13
  go_wp2
  go_loopw [1, 5] (fun q i wr => Same w wr ∧ ∃ k : Nat, k ≤ ps.length ∧ i = .int .i64 k ∧ q = .int .i64 ((k0 + cnt2 (ps.take k) : Nat) : Int)) (fun _ i _ => ps.length - (intOf i).toNat)
  case atStart => exact ⟨Same.refl _, 0, Nat.zero_le _, rfl, rfl⟩
  case round =>
    obtain ⟨hal, k, hk, rfl, rfl⟩ := hrel
    by_cases hlt : k < ps.length
    · obtain ⟨d1, c1, c2, c3, v1⟩ := h1 k hlt
      clear h1
      rw [mkOs_getD _ _ _ _ hlt, if_pos hlt] at c1 c2 v1
      unfold mkO at c1 c2 v1
      have hcs := cnt2_take_succ ps k hlt
      have hcl := cnt2_take_le ps (k + 1)
      have c1 := (hal.cell _).trans c1
      have c2 := (hal.cell _).trans c2
      have c3 := (hal.cell _).trans c3
      have v1 := v1.same hal
      have hik : (k : Int) < (ps.length : Int) := by omega
      generalize cnt2 (ps.take k) = c at *
      generalize (ps.getD k Opx.zero).2.2.length = n at *
      have hbd : k0 + c + 2 + n ≤ 140737488355328 := by omega
      have Hcs : Hid (cnt2 (ps.take (k + 1)) = c + (n + 2)) := hcs
      clear hcs hcl
      go_wp2_with fail
      rw [show (k0 : Int) + (c : Int) + 1 + 1 = ((k0 + c + 2 : Nat) : Int) from by omega]
      refine (heldByteS_calls _ (k0 + c + 2) n (by omega) v1).mono ?_
      rintro e w1 ⟨rfl, hs⟩
      have hs' := hal.trans hs
      clear hs hal v1 c1 c2 c3
      go_wp2
      go_roundw
      case rel => exact ⟨hs', k + 1, by omega, by go_num, by rw [Hcs.out]; go_num⟩
      case measure => simp [intOf]; omega
    · obtain rfl : k = ps.length := by omega
      clear h1
      rw [List.take_length]
      go_wp2
      go_ret
      exact ⟨rfl, hal⟩

set_option maxRecDepth 20000 in
set_option maxHeartbeats 400000 in
theorem heldO_none (w : World) (ao : Option Addr) (k0 cap : Nat) :
    Calls Tryz.prog 13 #[.slice ao 0 cap, .int .i64 k0] w fun e w' => e = .returned (.int .i64 (k0 : Int)) ∧ Same w w' := by
  go_enter Tryz.func13, Tryz.ntmps13
  go_wp2
  refine wp_loop_rounds 1 ?_; rw [rounds_succ]
  go_wp2
  go_ret
  exact ⟨rfl, Same.refl _⟩

theorem heldO_calls (w : World) {lo hi : Nat} {a : Value} (ps : List Opx) (k0 : Nat) (hk0 : k0 + cnt2 ps ≤ 140737488355328) (h1 : OView w lo hi a (mkOs k0 ps ps.length)) :
    Calls Tryz.prog 13 #[a, .int .i64 k0] w fun e w' => e = .returned (.int .i64 ((k0 + cnt2 ps : Nat) : Int)) ∧ Same w w' := by
  obtain ⟨ao, cap, rfl, hl, _, h1⟩ := h1
  rw [mkOs_length] at *
  rcases h1 with h1 | ⟨x, off, rfl, _, _, h1⟩
  · obtain rfl : ps = [] := by have := congrArg List.length h1; rw [mkOs_length] at this; exact List.eq_nil_of_length_eq_zero this
    exact heldO_none w ao k0 cap
  · exact heldO_some w ps k0 lo hi x off cap (by have := cnt2_ge ps; omega) hk0 h1

end Go.Proofs.YtfdbmhaapembjaaGreatDoor

namespace Go.Proofs.YtfdbmhaapembjaaGreatDoor
open Go.RowKit

theorem OwnOx.lt' {w : World} {base : Nat} {eO eB : TypeId} {v : Value} {os : List Opx} {cells : List Value} {dvs : Nat → Value} (h : OwnOx w base eO eB v os cells dvs) : ∀ g, v.ownBlock = some g → base ≤ g ∧ g < w.heap.size := World.ownsRow.lt h.row

theorem OwnOx.dlt' {w : World} {base : Nat} {eO eB : TypeId} {v : Value} {os : List Opx} {cells : List Value} {dvs : Nat → Value} (h : OwnOx w base eO eB v os cells dvs) : ∀ i g, i < os.length → (dvs i).ownBlock = some g → base ≤ g ∧ g < w.heap.size :=
  fun i g hi hg => (h.data i hi).lt g hg

theorem OwnOx.vw' {w : World} {base : Nat} {eO eB : TypeId} {v : Value} {os : List Opx} {cells : List Value} {dvs : Nat → Value} (h : OwnOx w base eO eB v os cells dvs) (hl : cnt2 os ≤ 140737488355328) (hd : ∀ i, i < os.length → (os.getD i Opx.zero).2.2.length ≤ 140737488355328) : OView w base w.heap.size v os :=
  h.view (by have := cnt2_ge os; omega) (fun i hi => by have := hd i hi; omega) (fun g hg => (h.lt' g hg).2) (fun i g hi hg => (h.dlt' i g hi hg).2)

theorem cnt2_data {os : List Opx} {i : Nat} (h : i < os.length) : (os.getD i Opx.zero).2.2.length + 2 ≤ cnt2 os := by
  have h1 := cnt2_take_succ os i h
  have h2 := cnt2_take_le os (i + 1)
  omega

theorem cnt2_mkOs (k0 : Nat) (os : List Opx) : cnt2 (mkOs k0 os os.length) = cnt2 os := by
  unfold cnt2
  congr 1
  apply List.ext_getElem (by simp [mkOs])
  intro i h1 h2
  have hi : i < os.length := by simpa using h2
  simp [mkOs, hi, mkO, marks_length]

/-- A list of operations that came as an answer. -/
theorem OwnOx.look {w : World} {base : Nat} {eO eB : TypeId} {v : Value} {os : List Opx} {cells : List Value} {dvs : Nat → Value} (h : OwnOx w base eO eB v os cells dvs) (hl : cnt2 os ≤ 140737488355328) : OView w base w.heap.size v os :=
  h.vw' hl (fun i hi => by have := cnt2_data hi; omega)

end Go.Proofs.YtfdbmhaapembjaaGreatDoor

namespace Go.Proofs.YtfdbmhaapembjaaGreatDoor
open Go.RowKit

set_option maxHeartbeats 400000 in
theorem eqByteS_some (w : World) (xs : List Int) (b off b' off' cap cap' : Nat) (hl : xs.length ≤ 9223372036854775807)
    (h1 : ∀ i, i < xs.length → w.cell? ⟨b, off + i, none⟩ = some (.int .u8 (xs.getD i 0)))
    (h2 : ∀ i, i < xs.length → w.cell? ⟨b', off' + i, none⟩ = some (.int .u8 (xs.getD i 0))) :
    Calls Tryz.prog 35 #[.slice (some ⟨b, off, none⟩) xs.length cap, .slice (some ⟨b', off', none⟩) xs.length cap'] w fun e w' => e = .returned (.bool true) ∧ Same w w' := by
  have hne : ((xs.length : Int) != (xs.length : Int)) = false := by simp
  go_enter Tryz.func35, Tryz.ntmps35
  go_wp2
  go_loopw [5] (fun i wr => Same w wr ∧ ∃ k : Nat, k ≤ xs.length ∧ i = .int .i64 k) (fun i _ => xs.length - (intOf i).toNat)
  case atStart => exact ⟨Same.refl _, 0, Nat.zero_le _, rfl⟩
  case round =>
    obtain ⟨hal, k, hk, rfl⟩ := hrel
    have e1 : ∀ a, wr.cell? a = w.cell? a := fun a => hal.cell a
    by_cases hlt : k < xs.length
    · have c1 : wr.cell? ⟨b, off + k, none⟩ = some (.int .u8 (xs.getD k 0)) := (e1 _).trans (h1 k hlt)
      have c2 : wr.cell? ⟨b', off' + k, none⟩ = some (.int .u8 (xs.getD k 0)) := (e1 _).trans (h2 k hlt)
      clear e1
      have hi : (k : Int) < (xs.length : Int) := by omega
      go_wp2
      go_quiet (fail)
      go_wp2
      go_roundw
      case rel => exact ⟨hal.drewN _, k + 1, by omega, by go_num⟩
      case measure => simp [intOf]; omega
    · clear e1
      go_wp2
      go_ret
      exact ⟨rfl, hal⟩

set_option maxHeartbeats 400000 in
theorem eqByteS_none (w : World) (ao bo : Option Addr) (cap cap' : Nat) :
    Calls Tryz.prog 35 #[.slice ao 0 cap, .slice bo 0 cap'] w fun e w' => e = .returned (.bool true) ∧ Same w w' := by
  go_enter Tryz.func35, Tryz.ntmps35
  go_wp2
  refine wp_loop_rounds 1 ?_; rw [rounds_succ]
  go_wp2
  go_ret
  exact ⟨rfl, Same.refl _⟩

theorem eqByteS_calls (w : World) {lo hi lo' hi' : Nat} {a b : Value} {xs : List Int} (h1 : View w lo hi .u8 a xs) (h2 : View w lo' hi' .u8 b xs) :
    Calls Tryz.prog 35 #[a, b] w fun e w' => e = .returned (.bool true) ∧ Same w w' := by
  obtain ⟨ao, cap, rfl, hl, _, h1⟩ := h1
  obtain ⟨bo, cap', rfl, _, _, h2⟩ := h2
  rcases h1 with rfl | ⟨x, off, rfl, _, _, h1⟩
  · exact eqByteS_none w ao bo cap cap'
  · rcases h2 with rfl | ⟨y, off', rfl, _, _, h2⟩
    · exact eqByteS_none w _ bo cap cap'
    · exact eqByteS_some w xs x off y off' cap cap' hl h1 h2

end Go.Proofs.YtfdbmhaapembjaaGreatDoor

namespace Go.Proofs.YtfdbmhaapembjaaGreatDoor
open Go.RowKit

set_option maxRecDepth 20000 in
set_option maxHeartbeats 400000 in
theorem eqOp_calls (w : World) {lo hi lo' hi' : Nat} (q p : Int) {a b : Value} {xs : List Int} (h1 : View w lo hi .u8 a xs) (h2 : View w lo' hi' .u8 b xs) :
    Calls Tryz.prog 22 #[.agg #[.int .i64 q, .int .i64 p, a], .agg #[.int .i64 q, .int .i64 p, b]] w fun e w' => e = .returned (.bool true) ∧ Chg 0 0 w w' := by
  have hne : (q != q) = false := by simp
  have hne2 : (p != p) = false := by simp
  go_enter Tryz.func22, Tryz.ntmps22
  go_wp2_with fail
  refine (eqByteS_calls _ (h1.chg ((Chg.alloc (Chg.refl 0 0 w) _).alloc _) (by omega)) (h2.chg ((Chg.alloc (Chg.refl 0 0 w) _).alloc _) (by omega))).mono ?_
  rintro e w1 ⟨rfl, hs⟩
  have hc : Chg 0 0 w w1 := ((Chg.alloc (Chg.refl 0 0 w) _).alloc _).trans (hs.chg 0 0)
  clear hs
  go_wp2
  go_ret
  exact ⟨rfl, hc⟩

set_option maxRecDepth 20000 in
set_option maxHeartbeats 1000000 in
theorem eqOpS_some (w : World) (ps : List Opx) (lo hi lo' hi' b off b' off' cap cap' : Nat) (hl : ps.length ≤ 9223372036854775807)
    (h1 : ∀ i, i < ps.length → ∃ dv, w.cell? ⟨b, off + i * 3, none⟩ = some (.int .i64 (ps.getD i Opx.zero).1) ∧ w.cell? ⟨b, off + i * 3 + 1, none⟩ = some (.int .i64 (ps.getD i Opx.zero).2.1) ∧ w.cell? ⟨b, off + i * 3 + 2, none⟩ = some dv ∧ View w lo hi .u8 dv (ps.getD i Opx.zero).2.2)
    (h2 : ∀ i, i < ps.length → ∃ dv, w.cell? ⟨b', off' + i * 3, none⟩ = some (.int .i64 (ps.getD i Opx.zero).1) ∧ w.cell? ⟨b', off' + i * 3 + 1, none⟩ = some (.int .i64 (ps.getD i Opx.zero).2.1) ∧ w.cell? ⟨b', off' + i * 3 + 2, none⟩ = some dv ∧ View w lo' hi' .u8 dv (ps.getD i Opx.zero).2.2) :
    Calls Tryz.prog 9 #[.slice (some ⟨b, off, none⟩) ps.length cap, .slice (some ⟨b', off', none⟩) ps.length cap'] w fun e w' => e = .returned (.bool true) ∧ Chg 0 0 w w' := by
  have hne : ((ps.length : Int) != (ps.length : Int)) = false := by simp
  go_enter Tryz.func9, Tryz.ntmps9
  go_wp2
  go_loopw [5] (fun i wr => Chg 0 0 w wr ∧ ∃ k : Nat, k ≤ ps.length ∧ i = .int .i64 k) (fun i _ => ps.length - (intOf i).toNat)
  case atStart => exact ⟨Chg.refl _ _ _, 0, Nat.zero_le _, rfl⟩
  case round =>
    obtain ⟨hch, k, hk, rfl⟩ := hrel
    by_cases hlt : k < ps.length
    · obtain ⟨d1, c1, c2, c3, v1⟩ := h1 k hlt
      obtain ⟨d2, c4, c5, c6, v2⟩ := h2 k hlt
      clear h1 h2
      generalize (ps.getD k Opx.zero).1 = q at *
      generalize (ps.getD k Opx.zero).2.1 = p at *
      generalize (ps.getD k Opx.zero).2.2 = xs at *
      have c1 := hch.cell c1 (by omega)
      have c2 := hch.cell c2 (by omega)
      have c3 := hch.cell c3 (by omega)
      have c4 := hch.cell c4 (by omega)
      have c5 := hch.cell c5 (by omega)
      have c6 := hch.cell c6 (by omega)
      have v1 := v1.chg hch (by omega)
      have v2 := v2.chg hch (by omega)
      have hi : (k : Int) < (ps.length : Int) := by omega
      go_wp2
      go_region_with (go_at_call 22; refine (eqOp_calls _ q p (v1.chg (Chg.drew (Chg.refl 0 0 _)) (by omega)) (v2.chg (Chg.drew (Chg.refl 0 0 _)) (by omega))).mono ?_; rintro e w1 ⟨rfl, hs⟩)
      all_goals
        have hch' : Chg 0 0 w w1 := hch.drew.trans hs
        clear hs hch
        go_wp2
        go_roundw
        case rel => exact ⟨hch', k + 1, by omega, by go_num⟩
        case measure => simp [intOf]; omega
    · clear h1 h2
      go_wp2
      go_ret
      exact ⟨rfl, hch⟩

set_option maxRecDepth 20000 in
set_option maxHeartbeats 400000 in
theorem eqOpS_none (w : World) (ao bo : Option Addr) (cap cap' : Nat) :
    Calls Tryz.prog 9 #[.slice ao 0 cap, .slice bo 0 cap'] w fun e w' => e = .returned (.bool true) ∧ Chg 0 0 w w' := by
  go_enter Tryz.func9, Tryz.ntmps9
  go_wp2
  refine wp_loop_rounds 1 ?_; rw [rounds_succ]
  go_wp2
  go_ret
  exact ⟨rfl, Chg.refl _ _ _⟩

theorem eqOpS_calls (w : World) {lo hi lo' hi' : Nat} {a b : Value} {ps : List Opx} (h1 : OView w lo hi a ps) (h2 : OView w lo' hi' b ps) :
    Calls Tryz.prog 9 #[a, b] w fun e w' => e = .returned (.bool true) ∧ Chg 0 0 w w' := by
  obtain ⟨ao, cap, rfl, hl, _, h1⟩ := h1
  obtain ⟨bo, cap', rfl, _, _, h2⟩ := h2
  rcases h1 with rfl | ⟨x, off, rfl, _, _, h1⟩
  · exact eqOpS_none w ao bo cap cap'
  · rcases h2 with rfl | ⟨y, off', rfl, _, _, h2⟩
    · exact eqOpS_none w _ bo cap cap'
    · exact eqOpS_some w ps lo hi lo' hi' x off y off' cap cap' hl h1 h2

end Go.Proofs.YtfdbmhaapembjaaGreatDoor

namespace Go.Proofs.YtfdbmhaapembjaaGreatDoor
open Go.RowKit

/-- What is left of a count of at most left where n are taken: -1 if there are not so many. -/
def lft (left n : Nat) : Int := if n ≤ left then ((left - n : Nat) : Int) else -1

theorem lft_pos {left n : Nat} (h : n ≤ left) : lft left n = ((left - n : Nat) : Int) := by unfold lft; rw [if_pos h]
theorem lft_neg {left n : Nat} (h : ¬ n ≤ left) : lft left n = -1 := by unfold lft; rw [if_neg h]

set_option maxRecDepth 20000 in
set_option maxHeartbeats 400000 in
theorem szByteS_calls (w : World) (ao : Option Addr) (n cap left : Nat) (hl : n ≤ 9223372036854775807) (hb : left ≤ 1048576) :
    Calls Tryz.prog 26 #[.slice ao n cap, .int .i64 left] w fun e w' => e = .returned (.int .i64 (lft left n)) ∧ w' = w := by
  by_cases h : n ≤ left
  · rw [lft_pos h]
    go_enter Tryz.func26, Tryz.ntmps26
    go_wp2
    go_ret
    exact ⟨ret_int (by omega), rfl⟩
  · rw [lft_neg h]
    have h' : (left : Int) - n < 0 := by omega
    go_enter Tryz.func26, Tryz.ntmps26
    go_wp2
    go_ret
    exact ⟨rfl, rfl⟩

end Go.Proofs.YtfdbmhaapembjaaGreatDoor

namespace Go.Proofs.YtfdbmhaapembjaaGreatDoor
open Go.RowKit

set_option maxRecDepth 20000 in
set_option maxHeartbeats 400000 in
theorem szHome_calls (w : World) (q : Int) (ao : Option Addr) (n cap left : Nat) (hl : n ≤ 9223372036854775807) (hb : left ≤ 1048576) :
    Calls Tryz.prog 14 #[.agg #[.int .i64 q, .slice ao n cap], .int .i64 left] w fun e w' => e = .returned (.int .i64 (lft left n)) ∧ Chg 0 0 w w' := by
  by_cases h : n ≤ left
  · go_enter Tryz.func14, Tryz.ntmps14
    go_wp2_with fail
    refine (szByteS_calls _ ao n cap left hl hb).mono ?_
    rintro e w1 ⟨rfl, rfl⟩
    rw [lft_pos h]
    go_wp2
    go_ret
    exact ⟨by rw [lft_pos h]; rfl, Chg.alloc (Chg.refl 0 0 w) _⟩
  · go_enter Tryz.func14, Tryz.ntmps14
    go_wp2_with fail
    refine (szByteS_calls _ ao n cap left hl hb).mono ?_
    rintro e w1 ⟨rfl, rfl⟩
    rw [lft_neg h]
    go_wp2
    go_ret
    exact ⟨by rw [lft_neg h]; rfl, Chg.alloc (Chg.refl 0 0 w) _⟩

theorem cnt_rest (ps : List Wr) (k : Nat) : cnt (ps.take k) + (ps.length - k) ≤ cnt ps := by
  have h1 : cnt ps = cnt (ps.take k) + cnt (ps.drop k) := by
    unfold cnt; rw [← List.sum_append_nat, ← List.map_append, List.take_append_drop]
  have h2 := cnt_ge (ps.drop k)
  rw [List.length_drop] at h2
  omega

set_option maxRecDepth 20000 in
set_option maxHeartbeats 1000000 in
theorem szHomeS_some (w : World) (ps : List Wr) (lo hi b off cap left : Nat) (hl : ps.length ≤ 9223372036854775807) (hb : left ≤ 1048576)
    (h1 : ∀ i, i < ps.length → ∃ dv, w.cell? ⟨b, off + i * 2, none⟩ = some (.int .i64 (ps.getD i (0, [])).1) ∧ w.cell? ⟨b, off + i * 2 + 1, none⟩ = some dv ∧ View w lo hi .u8 dv (ps.getD i (0, [])).2) :
    Calls Tryz.prog 4 #[.slice (some ⟨b, off, none⟩) ps.length cap, .int .i64 left] w fun e w' => e = .returned (.int .i64 (lft left (cnt ps))) ∧ Chg 0 0 w w' := by
  have hcg := cnt_ge ps
  by_cases h0 : ps.length ≤ left
  · go_enter Tryz.func4, Tryz.ntmps4
    go_wp2
    go_loopw [1, 5] (fun q i wr => Chg 0 0 w wr ∧ ∃ k : Nat, k ≤ ps.length ∧ i = .int .i64 k ∧ ps.length + cnt (ps.take k) - k ≤ left ∧ q = .int .i64 ((left - (ps.length + cnt (ps.take k) - k) : Nat) : Int)) (fun _ i _ => ps.length - (intOf i).toNat)
    case atStart => exact ⟨Chg.refl _ _ _, 0, Nat.zero_le _, rfl, by simp [cnt]; exact h0, by simp [cnt]; omega⟩
    case round =>
      obtain ⟨hch, k, hk, rfl, hle, rfl⟩ := hrel
      by_cases hlt : k < ps.length
      · obtain ⟨d1, c1, c2, v1⟩ := h1 k hlt
        clear h1
        have hcs := cnt_take_succ ps k hlt
        have hcl := cnt_rest ps (k + 1)
        have hcg2 := cnt_ge (ps.take k)
        rw [List.length_take, Nat.min_eq_left hk] at hcg2
        obtain ⟨ao, cap', rfl, hl', _, _⟩ := v1
        generalize (ps.getD k (0, [])).1 = q at *
        generalize (ps.getD k (0, [])).2.length = n at *
        have c1 := hch.cell c1 (by omega)
        have c2 := hch.cell c2 (by omega)
        have hi : (k : Int) < (ps.length : Int) := by omega
        generalize cnt (ps.take k) = c at *
        have Hcs : Hid (cnt (ps.take (k + 1)) = c + (n + 1)) := hcs
        clear hcs
        generalize hL : left - (ps.length + c - k) = L at *
        have HL : Hid (left - (ps.length + c - k) = L) := hL
        have hLb : L ≤ 1048576 := by omega
        clear hL
        go_wp2_with fail
        refine (szHome_calls _ q ao n cap' L hl' hLb).mono ?_
        rintro e w1 ⟨rfl, hs⟩
        have hch' := hch.trans hs
        clear hs hch c1 c2
        by_cases hn : n ≤ L
        · rw [lft_pos hn]
          go_wp2
          go_roundw
          case rel => exact ⟨hch', k + 1, by omega, by go_num, by have := HL.out; have := Hcs.out; omega, by have := HL.out; have := Hcs.out; congr 1; omega⟩
          case measure => simp [intOf]; omega
        · rw [lft_neg hn]
          have hfin : ¬ cnt ps ≤ left := by have := HL.out; have := Hcs.out; omega
          go_wp2
          go_ret
          exact ⟨by rw [lft_neg hfin]; rfl, hch'⟩
      · obtain rfl : k = ps.length := by omega
        clear h1
        rw [List.take_length] at *
        have hfin : cnt ps ≤ left := by omega
        go_wp2
        go_ret
        exact ⟨by rw [lft_pos hfin]; exact ret_int (by omega), hch⟩
  · have h' : (left : Int) - ps.length < 0 := by omega
    have hfin : ¬ cnt ps ≤ left := by omega
    clear h1
    go_enter Tryz.func4, Tryz.ntmps4
    go_wp2
    go_ret
    exact ⟨by rw [lft_neg hfin]; rfl, Chg.refl _ _ _⟩

set_option maxRecDepth 20000 in
set_option maxHeartbeats 400000 in
theorem szHomeS_none (w : World) (ao : Option Addr) (cap left : Nat) (hb : left ≤ 1048576) :
    Calls Tryz.prog 4 #[.slice ao 0 cap, .int .i64 left] w fun e w' => e = .returned (.int .i64 (left : Int)) ∧ Chg 0 0 w w' := by
  go_enter Tryz.func4, Tryz.ntmps4
  go_wp2
  refine wp_loop_rounds 1 ?_; rw [rounds_succ]
  go_wp2
  go_ret
  exact ⟨rfl, Chg.refl _ _ _⟩

theorem szHomeS_calls (w : World) {lo hi : Nat} {a : Value} (ps : List Wr) (left : Nat) (hb : left ≤ 1048576) (h1 : PView w lo hi a ps) :
    Calls Tryz.prog 4 #[a, .int .i64 left] w fun e w' => e = .returned (.int .i64 (lft left (cnt ps))) ∧ Chg 0 0 w w' := by
  obtain ⟨ao, cap, rfl, hl, _, h1⟩ := h1
  rcases h1 with rfl | ⟨x, off, rfl, _, _, h1⟩
  · exact szHomeS_none w ao cap left hb
  · exact szHomeS_some w ps lo hi x off cap left hl hb h1

end Go.Proofs.YtfdbmhaapembjaaGreatDoor

namespace Go.Proofs.YtfdbmhaapembjaaGreatDoor
open Go.RowKit

theorem Tryz.infoB : (Tryz.prog.info? 5).map (fun i => (i.zero, i.size, i.bytes)) = some (some (.int .u8 0), 1, 1) := by kernel_rfl

theorem take_set_drop (xs : List Int) (k : Nat) (h : k < xs.length) :
    ((xs.take k ++ List.replicate (xs.length - k) 0).map (Value.int .u8)).set k (.int .u8 (xs.getD k 0)) = (xs.take (k + 1) ++ List.replicate (xs.length - (k + 1)) 0).map (Value.int .u8) := by
  have e : xs.length - k = (xs.length - (k + 1)) + 1 := by omega
  rw [e, List.replicate_succ, List.map_append, List.map_cons, List.set_append]
  simp only [List.length_map, List.length_take, Nat.min_eq_left (Nat.le_of_lt h), Nat.lt_irrefl, if_false, Nat.sub_self, List.set_cons_zero]
  rw [List.take_succ_eq_append_getElem h, List.map_append, List.map_append]
  simp [List.getD_eq_getElem?_getD, h]

set_option maxHeartbeats 400000 in
theorem toByteS_some (w : World) (xs : List Int) (b off cap : Nat) (hl : xs.length ≤ 140737488355328)
    (h1 : ∀ i, i < xs.length → w.cell? ⟨b, off + i, none⟩ = some (.int .u8 (xs.getD i 0))) :
    Calls Tryz.prog 31 #[.slice (some ⟨b, off, none⟩) xs.length cap] w fun e w' => e = .returned (.slice (some ⟨w.heap.size, 0, none⟩) xs.length xs.length) ∧
      OwnB w' w.heap.size 5 (.slice (some ⟨w.heap.size, 0, none⟩) xs.length xs.length) xs ∧ Chg 0 0 w w' := by
  obtain ⟨i, hi, hz0, hz1, hz2⟩ := info_parts Tryz.infoB
  go_enter Tryz.func31, Tryz.ntmps31
  go_wp2_with (at_make; refine wpList_make_full _ rfl _ _ 38 rfl w.heap.size 5 i (.int .u8 0) 1 Tryz.underlying38 hi hz0 hz1 _ _ _ _ xs.length rfl rfl rfl rfl (by rw [hz2]; omega) (by unfold maxLen; omega) (by simp) ?_)
  intro w1 hown hgrow
  have hch : Chg 0 0 w w1 := Chg.ofGrown hgrow (by simp)
  have hO : OwnB w1 w.heap.size 5 (.slice (some ⟨w.heap.size, 0, none⟩) xs.length xs.length) (xs.take 0 ++ List.replicate (xs.length - 0) 0) := by
    unfold OwnB
    simpa [toList_madeCells_one] using hown
  have hlt0 : w.heap.size < w1.heap.size := by
    have := World.ownsRow.lt hown w.heap.size rfl; omega
  clear hown hgrow
  go_wp2
  go_loopw [4] (fun i wr => ∃ k : Nat, k ≤ xs.length ∧ i = .int .i64 k ∧ OwnB wr w.heap.size 5 (.slice (some ⟨w.heap.size, 0, none⟩) xs.length xs.length) (xs.take k ++ List.replicate (xs.length - k) 0) ∧ Chg 0 0 w wr) (fun i _ => xs.length - (intOf i).toNat)
  case atStart => exact ⟨0, Nat.zero_le _, rfl, hO, hch⟩
  case round =>
    obtain ⟨k, hk, rfl, hown, hc⟩ := hrel
    clear hO hch
    have hlen : (xs.take k ++ List.replicate (xs.length - k) 0).length = xs.length := by simp; omega
    have hown' : wr.ownsRow w.heap.size 5 1 (.slice (some ⟨w.heap.size, 0, none⟩) xs.length xs.length) xs.length ((xs.take k ++ List.replicate (xs.length - k) 0).map (Value.int .u8)) := by
      have := hown; unfold OwnB at this; rw [hlen] at this; exact this
    by_cases hlt : k < xs.length
    · have c1 : ∃ u, wr.cell? ⟨w.heap.size, k, none⟩ = some u := by
        have := World.ownsRow.cellAt hown' k (by omega)
        rw [this]
        exact ⟨_, List.getElem?_eq_getElem (by rw [List.length_map, hlen]; exact hlt)⟩
      obtain ⟨u, c1⟩ := c1
      have f1 : wr.frozen? ⟨w.heap.size, k, none⟩ = false := World.ownsRow.frozenAt hown' k
      have c2 := hc.cell (h1 k hlt) (by omega)
      have hst := (World.ownsRow.stored hown' k (.int .u8 (xs.getD k 0))).1
      rw [take_set_drop _ _ hlt] at hst
      have hlen2 : (xs.take (k + 1) ++ List.replicate (xs.length - (k + 1)) 0).length = xs.length := by simp; omega
      have hik : (k : Int) < (xs.length : Int) := by omega
      have R2 : Chg 0 0 w (wr.setCell ⟨w.heap.size, k, none⟩ (.int .u8 (xs.getD k 0))) := hc.setCell (Or.inr (Nat.le_refl _)) _
      have HR : Hid (OwnB (wr.setCell ⟨w.heap.size, k, none⟩ (.int .u8 (xs.getD k 0))) w.heap.size 5 (.slice (some ⟨w.heap.size, 0, none⟩) xs.length xs.length) (xs.take (k + 1) ++ List.replicate (xs.length - (k + 1)) 0)) := by
        show OwnB _ _ _ _ _
        unfold OwnB; rw [hlen2]; exact hst
      have HR2 : Hid (Chg 0 0 w (wr.setCell ⟨w.heap.size, k, none⟩ (.int .u8 (xs.getD k 0)))) := R2
      generalize xs.getD k 0 = x at *
      clear hst hown hown' hlen hlen2 R2 hc h1
      go_wp2
      go_roundw
      case rel => exact ⟨k + 1, by omega, by go_num, HR.out, HR2.out⟩
      case measure => simp [intOf]; omega
    · obtain rfl : k = xs.length := by omega
      have HR : Hid (OwnB wr w.heap.size 5 (.slice (some ⟨w.heap.size, 0, none⟩) xs.length xs.length) xs) := by
        show OwnB _ _ _ _ _
        have := hown; rw [List.take_length, Nat.sub_self, List.replicate_zero, List.append_nil] at this; exact this
      clear hown hown' hlen h1
      go_wp2
      go_ret
      exact ⟨rfl, HR.out, hc⟩

set_option maxHeartbeats 400000 in
theorem toByteS_none (w : World) (ao : Option Addr) (cap : Nat) :
    Calls Tryz.prog 31 #[.slice ao 0 cap] w fun e w' => e = .returned (.slice (some ⟨w.heap.size, 0, none⟩) 0 0) ∧
      OwnB w' w.heap.size 5 (.slice (some ⟨w.heap.size, 0, none⟩) 0 0) [] ∧ Chg 0 0 w w' := by
  obtain ⟨i, hi, hz0, hz1, hz2⟩ := info_parts Tryz.infoB
  go_enter Tryz.func31, Tryz.ntmps31
  go_wp2_with (at_make; refine wpList_make_full _ rfl _ _ 38 rfl w.heap.size 5 i (.int .u8 0) 1 Tryz.underlying38 hi hz0 hz1 _ _ _ _ 0 rfl rfl rfl rfl (by omega) (by unfold maxLen; omega) (by simp) ?_)
  intro w1 hown hgrow
  have hch : Chg 0 0 w w1 := Chg.ofGrown hgrow (by simp)
  have hO : OwnB w1 w.heap.size 5 (.slice (some ⟨w.heap.size, 0, none⟩) 0 0) [] := by
    unfold OwnB
    simpa [toList_madeCells_one] using hown
  clear hown hgrow
  go_wp2
  refine wp_loop_rounds 1 ?_; rw [rounds_succ]
  go_wp2
  go_ret
  exact ⟨rfl, hO, hch⟩

/-- A copy of one's own. -/
theorem toByteS_calls (w : World) {lo hi : Nat} {a : Value} {xs : List Int} (hl : xs.length ≤ 1048576) (h1 : View w lo hi .u8 a xs) :
    Calls Tryz.prog 31 #[a] w fun e w' => ∃ g, e = .returned (.slice (some ⟨g, 0, none⟩) xs.length xs.length) ∧
      OwnB w' w.heap.size 5 (.slice (some ⟨g, 0, none⟩) xs.length xs.length) xs ∧ Chg 0 0 w w' := by
  obtain ⟨ao, cap, rfl, _, _, h1⟩ := h1
  rcases h1 with rfl | ⟨x, off, rfl, _, _, h1⟩
  · exact (toByteS_none w ao cap).mono fun e w' h => ⟨_, h⟩
  · exact (toByteS_some w xs x off cap (by omega) h1).mono fun e w' h => ⟨_, h⟩

end Go.Proofs.YtfdbmhaapembjaaGreatDoor

namespace Go.Proofs.YtfdbmhaapembjaaGreatDoor
open Go.RowKit

theorem Tryz.infoH : (Tryz.prog.info? 46).map (fun i => (i.zero, i.size, i.bytes)) = some (some (.agg #[.int .i64 0, .slice none 0 0]), 2, 32) := by kernel_rfl
set_option maxRecDepth 20000 in
set_option maxHeartbeats 400000 in
theorem toHome_calls (w : World) {lo hi : Nat} (q : Int) {a : Value} {xs : List Int} (hl : xs.length ≤ 1048576) (h1 : View w lo hi .u8 a xs) :
    Calls Tryz.prog 18 #[.agg #[.int .i64 q, a]] w fun e w' => ∃ g, e = .returned (.agg #[.int .i64 q, .slice (some ⟨g, 0, none⟩) xs.length xs.length]) ∧
      OwnB w' w.heap.size 5 (.slice (some ⟨g, 0, none⟩) xs.length xs.length) xs ∧ Chg 0 0 w w' := by
  have v0 := h1
  obtain ⟨ao, cap, rfl, _, _, h1⟩ := h1
  clear h1
  go_enter Tryz.func18, Tryz.ntmps18
  go_wp2_with fail
  obtain ⟨z1, z2, z3, z4⟩ := alloc3 w (.cells #[.int .i64 q, .slice ao xs.length cap] 40) (.cells #[.int .i64 0, .slice none 0 0] 46) (.cells #[.int .i64 q, .slice none 0 0] 46)
  have hw3 : Chg 0 0 w (((w.alloc (.cells #[.int .i64 q, .slice ao xs.length cap] 40)).alloc (.cells #[.int .i64 0, .slice none 0 0] 46)).alloc (.cells #[.int .i64 q, .slice none 0 0] 46)) := (((Chg.alloc (Chg.refl 0 0 w) _).alloc _).alloc _)
  have v3 := v0.chg hw3 (by omega)
  generalize (((w.alloc (.cells #[.int .i64 q, .slice ao xs.length cap] 40)).alloc (.cells #[.int .i64 0, .slice none 0 0] 46)).alloc (.cells #[.int .i64 q, .slice none 0 0] 46)) = w3 at *
  refine (toByteS_calls _ hl v3).mono ?_
  rintro e w1 ⟨g, rfl, ho, hc⟩
  have hg := (ho.lt g rfl).1
  have hch : Chg 0 0 w w1 := hw3.trans hc
  obtain ⟨r0, r1, r2, r3⟩ := two_cells ((hc.block (w.heap.size + 1) (by omega) (by omega)).trans z3)
  obtain ⟨t0, t1, t2, t3⟩ := two_cells ((hc.block (w.heap.size + 1 + 1) (by omega) (by omega)).trans z4)
  have HO : Hid (OwnB w1 w.heap.size 5 (.slice (some ⟨g, 0, none⟩) xs.length xs.length) xs) := ho.base (fun g' hg' => by cases hg'; show w.heap.size ≤ g; omega)
  clear ho hc hw3 v3 z2 z3 z4 v0
  go_wp2
  refine bodyPost_ret (v := .agg #[.int .i64 q, .slice (some ⟨g, 0, none⟩) xs.length xs.length]) (by simp [results, Tryz.results18, go_sem, r0, r1]) rfl ⟨g, rfl, ?_, ?_⟩
  · have n1 : (Value.slice (some ⟨g, 0, none⟩) xs.length xs.length).ownBlock ≠ some (w.heap.size + 1 + 1) := by simp [Value.ownBlock]; omega
    have n2 : (Value.slice (some ⟨g, 0, none⟩) xs.length xs.length).ownBlock ≠ some (w.heap.size + 1) := by simp [Value.ownBlock]; omega
    exact ((HO.out.set n1 _).set n2 _).set n2 _
  · exact ((hch.setCell (Or.inr (by show w.heap.size ≤ w.heap.size + 1 + 1; omega)) _).setCell (Or.inr (by show w.heap.size ≤ w.heap.size + 1; omega)) _).setCell (Or.inr (by show w.heap.size ≤ w.heap.size + 1; omega)) _

theorem pair_take_set (ps : List Wr) (k : Nat) (h : k < ps.length) : (ps.take k ++ List.replicate (ps.length - k) (0, [])).set k (ps.getD k (0, [])) = ps.take (k + 1) ++ List.replicate (ps.length - (k + 1)) (0, []) := by
  have e : ps.length - k = (ps.length - (k + 1)) + 1 := by omega
  rw [e, List.replicate_succ, List.set_append]
  simp only [List.length_take, Nat.min_eq_left (Nat.le_of_lt h), Nat.lt_irrefl, if_false, Nat.sub_self, List.set_cons_zero]
  have e2 : ps.getD k (0, []) = ps[k] := by simp [List.getD_eq_getElem?_getD, h]
  rw [List.take_succ_eq_append_getElem h, List.append_assoc, e2]
  rfl


theorem made2_get (z0 z1 : Value) (n i : Nat) (h : i < n) : (madeCells #[z0, z1] (n * 2)).toList[i * 2]? = some z0 ∧ (madeCells #[z0, z1] (n * 2)).toList[i * 2 + 1]? = some z1 := by
  have h1 : i * 2 < n * 2 := by omega
  have h2 : i * 2 + 1 < n * 2 := by omega
  have m1 : i * 2 % 2 = 0 := by omega
  have m2 : (i * 2 + 1) % 2 = 1 := by omega
  constructor
  · simp [madeCells, h1, m1]
  · simp [madeCells, h2, m2]

set_option maxRecDepth 20000 in
set_option maxHeartbeats 1000000 in
theorem toHomeS_some (w : World) (ps : List Wr) (lo hi b off cap : Nat) (hl : cnt ps ≤ 1048576)
    (h1 : ∀ i, i < ps.length → ∃ dv, w.cell? ⟨b, off + i * 2, none⟩ = some (.int .i64 (ps.getD i (0, [])).1) ∧ w.cell? ⟨b, off + i * 2 + 1, none⟩ = some dv ∧ View w lo hi .u8 dv (ps.getD i (0, [])).2) :
    Calls Tryz.prog 7 #[.slice (some ⟨b, off, none⟩) ps.length cap] w fun e w' => ∃ g, e = .returned (.slice (some ⟨g, 0, none⟩) ps.length ps.length) ∧
      (∃ cells dvs, OwnPx w' w.heap.size 46 5 (.slice (some ⟨g, 0, none⟩) ps.length ps.length) ps cells dvs) ∧ Chg 0 0 w w' := by
  obtain ⟨i, hi, hz0, hz1, hz2⟩ := info_parts Tryz.infoH
  have hlp := cnt_ge ps
  go_enter Tryz.func7, Tryz.ntmps7
  go_wp2_with (at_make; refine wpList_make_full _ rfl _ _ 30 rfl w.heap.size 46 i (.agg #[.int .i64 0, .slice none 0 0]) 2 Tryz.underlying30 hi hz0 hz1 _ _ _ _ ps.length rfl rfl rfl rfl (by rw [hz2]; omega) (by unfold maxLen; omega) (by simp) ?_)
  intro w1 hown hgrow
  have hch : Chg 0 0 w w1 := Chg.ofGrown hgrow (by simp)
  have hO : OwnPx w1 w.heap.size 46 5 (.slice (some ⟨w.heap.size, 0, none⟩) ps.length ps.length) (ps.take 0 ++ List.replicate (ps.length - 0) (0, [])) (madeCells #[.int .i64 0, .slice none 0 0] (ps.length * 2)).toList (fun _ => .slice none 0 0) := by
    simp only [List.take_zero, List.nil_append, Nat.sub_zero]
    refine ⟨by rw [List.length_replicate]; exact hown, ?_, ?_, ?_, ?_⟩
    · intro i hi
      rw [List.length_replicate] at hi
      rw [(made2_get _ _ _ _ hi).1]; simp [List.getD_eq_getElem?_getD, hi]
    · intro i hi
      rw [List.length_replicate] at hi
      exact (made2_get _ _ _ _ hi).2
    · intro i hi
      rw [List.length_replicate] at hi
      simp only [List.getD_eq_getElem?_getD, List.getElem?_replicate, hi, if_true, Option.getD_some]
      exact OwnB.nil _ _ _
    · intro i j g _ _ h; cases h
  clear hown hgrow
  go_wp2
  go_loopw [4] (fun i wr => ∃ k : Nat, k ≤ ps.length ∧ i = .int .i64 k ∧ (∃ cells dvs, OwnPx wr w.heap.size 46 5 (.slice (some ⟨w.heap.size, 0, none⟩) ps.length ps.length) (ps.take k ++ List.replicate (ps.length - k) (0, [])) cells dvs) ∧ Chg 0 0 w wr) (fun i _ => ps.length - (intOf i).toNat)
  case atStart => exact ⟨0, Nat.zero_le _, rfl, ⟨_, _, hO⟩, hch⟩
  case round =>
    obtain ⟨k, hk, rfl, ⟨cells, dvs, hown⟩, hc⟩ := hrel
    clear hO hch
    have hlen : (ps.take k ++ List.replicate (ps.length - k) ((0, []) : Wr)).length = ps.length := by simp; omega
    by_cases hlt : k < ps.length
    · obtain ⟨d1, c1, c2, v1⟩ := h1 k hlt
      clear h1
      have Hput := pair_take_set ps k hlt
      have hxl : (ps.getD k (0, [])).2.length ≤ 1048576 := by have := cnt_take_succ ps k hlt; have := cnt_take_le ps (k + 1); omega
      have HP : Hid ((ps.take k ++ List.replicate (ps.length - k) (0, [])).set k ((ps.getD k (0, [])).1, (ps.getD k (0, [])).2) = ps.take (k + 1) ++ List.replicate (ps.length - (k + 1)) (0, [])) := Hput
      clear Hput
      generalize (ps.getD k (0, [])).1 = q at *
      generalize (ps.getD k (0, [])).2 = xs at *
      have c1 := hc.cell c1 (by omega)
      have c2 := hc.cell c2 (by omega)
      have v1 := v1.chg hc (by omega)
      have hik : (k : Int) < (ps.length : Int) := by omega
      go_wp2_with fail
      refine (toHome_calls _ q hxl v1).mono ?_
      rintro e w2 ⟨g, rfl, ho, hs⟩
      have hsz := hc.size
      have hgb := (ho.lt g rfl).1
      have hown2 := hown.chg hs (by intro g _; omega) (by intro i g _ _; omega)
      have hrow2 := hown2.row
      rw [hlen] at hrow2
      have hcl : cells.length = ps.length * 2 := hrow2.1
      have e0 : ∃ u, w2.cell? ⟨w.heap.size, k * 2, none⟩ = some u := ⟨_, (World.ownsRow.cellAt hrow2 (k * 2) (by omega)).trans (List.getElem?_eq_getElem (by omega))⟩
      have e1 : ∃ u, w2.cell? ⟨w.heap.size, k * 2 + 1, none⟩ = some u := ⟨_, (World.ownsRow.cellAt hrow2 (k * 2 + 1) (by omega)).trans (List.getElem?_eq_getElem (by omega))⟩
      obtain ⟨u0, e0⟩ := e0
      obtain ⟨u1, e1⟩ := e1
      have f0 := World.ownsRow.frozenAt hrow2 (k * 2)
      have f1 := World.ownsRow.frozenAt hrow2 (k * 2 + 1)
      have hp := hown2.put hlen hlt (by decide) q xs _ (ho.base (fun g' hg' => by cases hg'; show w.heap.size ≤ g; omega)) (by
        intro i g' hi hg' e
        have := ((hown.data i (by rw [hlen]; exact hi)).lt g' hg').2
        cases e
        simp at this hgb; omega)
      rw [HP.out] at hp
      have HR : Hid (∃ cells' dvs', OwnPx ((w2.setCell ⟨w.heap.size, k * 2, none⟩ (.int .i64 q)).setCell ⟨w.heap.size, k * 2 + 1, none⟩ (.slice (some ⟨g, 0, none⟩) xs.length xs.length)) w.heap.size 46 5 (.slice (some ⟨w.heap.size, 0, none⟩) ps.length ps.length) (ps.take (k + 1) ++ List.replicate (ps.length - (k + 1)) (0, [])) cells' dvs') := ⟨_, _, hp⟩
      have HR2 : Hid (Chg 0 0 w ((w2.setCell ⟨w.heap.size, k * 2, none⟩ (.int .i64 q)).setCell ⟨w.heap.size, k * 2 + 1, none⟩ (.slice (some ⟨g, 0, none⟩) xs.length xs.length))) :=
        ((hc.trans hs).setCell (Or.inr (Nat.le_refl _)) _).setCell (Or.inr (Nat.le_refl _)) _
      clear hp hown hown2 hrow2 hcl ho hs hc v1 c1 c2 HP hlen
      go_wp2
      go_roundw
      case rel => exact ⟨k + 1, by omega, by go_num, HR.out, HR2.out⟩
      case measure => simp [intOf]; omega
    · obtain rfl : k = ps.length := by omega
      have HR : Hid (∃ cells dvs, OwnPx wr w.heap.size 46 5 (.slice (some ⟨w.heap.size, 0, none⟩) ps.length ps.length) ps cells dvs) := by
        have := hown; rw [List.take_length, Nat.sub_self, List.replicate_zero, List.append_nil] at this; exact ⟨_, _, this⟩
      clear hown hlen h1
      go_wp2
      go_ret
      exact ⟨_, rfl, HR.out, hc⟩

set_option maxRecDepth 20000 in
set_option maxHeartbeats 400000 in
theorem toHomeS_none (w : World) (ao : Option Addr) (cap : Nat) :
    Calls Tryz.prog 7 #[.slice ao 0 cap] w fun e w' => ∃ g, e = .returned (.slice (some ⟨g, 0, none⟩) 0 0) ∧
      (∃ cells dvs, OwnPx w' w.heap.size 46 5 (.slice (some ⟨g, 0, none⟩) 0 0) [] cells dvs) ∧ Chg 0 0 w w' := by
  obtain ⟨i, hi, hz0, hz1, hz2⟩ := info_parts Tryz.infoH
  go_enter Tryz.func7, Tryz.ntmps7
  go_wp2_with (at_make; refine wpList_make_full _ rfl _ _ 30 rfl w.heap.size 46 i (.agg #[.int .i64 0, .slice none 0 0]) 2 Tryz.underlying30 hi hz0 hz1 _ _ _ _ 0 rfl rfl rfl rfl (by omega) (by unfold maxLen; omega) (by simp) ?_)
  intro w1 hown hgrow
  have hch : Chg 0 0 w w1 := Chg.ofGrown hgrow (by simp)
  have hO : ∃ cells dvs, OwnPx w1 w.heap.size 46 5 (.slice (some ⟨w.heap.size, 0, none⟩) 0 0) [] cells dvs :=
    ⟨_, fun _ => .slice none 0 0, hown, by simp, by simp, by simp, by simp⟩
  have HO : Hid (∃ cells dvs, OwnPx w1 w.heap.size 46 5 (.slice (some ⟨w.heap.size, 0, none⟩) 0 0) [] cells dvs) := hO
  clear hown hgrow hO
  go_wp2
  refine wp_loop_rounds 1 ?_; rw [rounds_succ]
  go_wp2
  go_ret
  exact ⟨_, rfl, HO.out, hch⟩

theorem toHomeS_calls (w : World) {lo hi : Nat} {a : Value} {ps : List Wr} (hl : cnt ps ≤ 1048576) (h1 : PView w lo hi a ps) :
    Calls Tryz.prog 7 #[a] w fun e w' => ∃ g, e = .returned (.slice (some ⟨g, 0, none⟩) ps.length ps.length) ∧
      (∃ cells dvs, OwnPx w' w.heap.size 46 5 (.slice (some ⟨g, 0, none⟩) ps.length ps.length) ps cells dvs) ∧ Chg 0 0 w w' := by
  obtain ⟨ao, cap, rfl, _, _, h1⟩ := h1
  rcases h1 with rfl | ⟨x, off, rfl, _, _, h1⟩
  · exact toHomeS_none w ao cap
  · exact toHomeS_some w ps lo hi x off cap hl h1

theorem OwnPx.base {w : World} {base base' : Nat} {eW eB : TypeId} {v : Value} {ps : List Wr} {cells : List Value} {dvs : Nat → Value} (h : OwnPx w base eW eB v ps cells dvs) (hb : base' ≤ base) : OwnPx w base' eW eB v ps cells dvs := by
  refine ⟨?_, h.at0, h.at1, fun i hi => (h.data i hi).base (fun g hg => Nat.le_trans hb ((h.data i hi).lt g hg).1), h.apart⟩
  obtain ⟨h1, h2⟩ := h.row
  refine ⟨h1, ?_⟩
  rcases h2 with h2 | ⟨g, cap, cur, hv, hg, r⟩
  · exact Or.inl h2
  · exact Or.inr ⟨g, cap, cur, hv, by omega, r⟩

theorem OwnPx.lt {w : World} {base : Nat} {eW eB : TypeId} {v : Value} {ps : List Wr} {cells : List Value} {dvs : Nat → Value} (h : OwnPx w base eW eB v ps cells dvs) : ∀ g, v.ownBlock = some g → base ≤ g ∧ g < w.heap.size := World.ownsRow.lt h.row

theorem OwnPx.set {w : World} {base : Nat} {eW eB : TypeId} {v : Value} {ps : List Wr} {cells : List Value} {dvs : Nat → Value} (h : OwnPx w base eW eB v ps cells dvs) {p : Addr} (hp : p.block < base) (u : Value) : OwnPx (w.setCell p u) base eW eB v ps cells dvs := by
  refine ⟨ownsRow_setCell_other h.row ?_ u, h.at0, h.at1, fun i hi => (h.data i hi).set ?_ u, h.apart⟩
  · intro e; have := (h.lt _ e).1; omega
  · intro e; have := ((h.data i hi).lt _ e).1; omega

end Go.Proofs.YtfdbmhaapembjaaGreatDoor

namespace Go.Proofs.YtfdbmhaapembjaaGreatDoor
open Go.RowKit

set_option maxRecDepth 20000 in
set_option maxHeartbeats 400000 in
theorem eqHome_calls (w : World) {lo hi lo' hi' : Nat} (q : Int) {a b : Value} {xs : List Int} (h1 : View w lo hi .u8 a xs) (h2 : View w lo' hi' .u8 b xs) :
    Calls Tryz.prog 23 #[.agg #[.int .i64 q, a], .agg #[.int .i64 q, b]] w fun e w' => e = .returned (.bool true) ∧ Chg 0 0 w w' := by
  have hne : (q != q) = false := by simp
  go_enter Tryz.func23, Tryz.ntmps23
  go_wp2_with fail
  refine (eqByteS_calls _ (h1.chg ((Chg.alloc (Chg.refl 0 0 w) _).alloc _) (by omega)) (h2.chg ((Chg.alloc (Chg.refl 0 0 w) _).alloc _) (by omega))).mono ?_
  rintro e w1 ⟨rfl, hs⟩
  have hc : Chg 0 0 w w1 := ((Chg.alloc (Chg.refl 0 0 w) _).alloc _).trans (hs.chg 0 0)
  clear hs
  go_wp2
  go_ret
  exact ⟨rfl, hc⟩

set_option maxRecDepth 20000 in
set_option maxHeartbeats 1000000 in
theorem eqHomeS_some (w : World) (ps : List Wr) (lo hi lo' hi' b off b' off' cap cap' : Nat) (hl : ps.length ≤ 9223372036854775807)
    (h1 : ∀ i, i < ps.length → ∃ dv, w.cell? ⟨b, off + i * 2, none⟩ = some (.int .i64 (ps.getD i (0, [])).1) ∧ w.cell? ⟨b, off + i * 2 + 1, none⟩ = some dv ∧ View w lo hi .u8 dv (ps.getD i (0, [])).2)
    (h2 : ∀ i, i < ps.length → ∃ dv, w.cell? ⟨b', off' + i * 2, none⟩ = some (.int .i64 (ps.getD i (0, [])).1) ∧ w.cell? ⟨b', off' + i * 2 + 1, none⟩ = some dv ∧ View w lo' hi' .u8 dv (ps.getD i (0, [])).2) :
    Calls Tryz.prog 10 #[.slice (some ⟨b, off, none⟩) ps.length cap, .slice (some ⟨b', off', none⟩) ps.length cap'] w fun e w' => e = .returned (.bool true) ∧ Chg 0 0 w w' := by
  have hne : ((ps.length : Int) != (ps.length : Int)) = false := by simp
  go_enter Tryz.func10, Tryz.ntmps10
  go_wp2
  go_loopw [5] (fun i wr => Chg 0 0 w wr ∧ ∃ k : Nat, k ≤ ps.length ∧ i = .int .i64 k) (fun i _ => ps.length - (intOf i).toNat)
  case atStart => exact ⟨Chg.refl _ _ _, 0, Nat.zero_le _, rfl⟩
  case round =>
    obtain ⟨hch, k, hk, rfl⟩ := hrel
    by_cases hlt : k < ps.length
    · obtain ⟨d1, c1, c2, v1⟩ := h1 k hlt
      obtain ⟨d2, c3, c4, v2⟩ := h2 k hlt
      clear h1 h2
      generalize (ps.getD k (0, [])).1 = q at *
      generalize (ps.getD k (0, [])).2 = xs at *
      have c1 := hch.cell c1 (by omega)
      have c2 := hch.cell c2 (by omega)
      have c3 := hch.cell c3 (by omega)
      have c4 := hch.cell c4 (by omega)
      have v1 := v1.chg hch (by omega)
      have v2 := v2.chg hch (by omega)
      have hi : (k : Int) < (ps.length : Int) := by omega
      go_wp2
      go_region_with (go_at_call 23; refine (eqHome_calls _ q (v1.chg (Chg.drew (Chg.refl 0 0 _)) (by omega)) (v2.chg (Chg.drew (Chg.refl 0 0 _)) (by omega))).mono ?_; rintro e w1 ⟨rfl, hs⟩)
      all_goals
        have hch' : Chg 0 0 w w1 := hch.drew.trans hs
        clear hs hch
        go_wp2
        go_roundw
        case rel => exact ⟨hch', k + 1, by omega, by go_num⟩
        case measure => simp [intOf]; omega
    · clear h1 h2
      go_wp2
      go_ret
      exact ⟨rfl, hch⟩

set_option maxRecDepth 20000 in
set_option maxHeartbeats 400000 in
theorem eqHomeS_none (w : World) (ao bo : Option Addr) (cap cap' : Nat) :
    Calls Tryz.prog 10 #[.slice ao 0 cap, .slice bo 0 cap'] w fun e w' => e = .returned (.bool true) ∧ Chg 0 0 w w' := by
  go_enter Tryz.func10, Tryz.ntmps10
  go_wp2
  refine wp_loop_rounds 1 ?_; rw [rounds_succ]
  go_wp2
  go_ret
  exact ⟨rfl, Chg.refl _ _ _⟩

theorem eqHomeS_calls (w : World) {lo hi lo' hi' : Nat} {a b : Value} {ps : List Wr} (h1 : PView w lo hi a ps) (h2 : PView w lo' hi' b ps) :
    Calls Tryz.prog 10 #[a, b] w fun e w' => e = .returned (.bool true) ∧ Chg 0 0 w w' := by
  obtain ⟨ao, cap, rfl, hl, _, h1⟩ := h1
  obtain ⟨bo, cap', rfl, _, _, h2⟩ := h2
  rcases h1 with rfl | ⟨x, off, rfl, _, _, h1⟩
  · exact eqHomeS_none w ao bo cap cap'
  · rcases h2 with rfl | ⟨y, off', rfl, _, _, h2⟩
    · exact eqHomeS_none w _ bo cap cap'
    · exact eqHomeS_some w ps lo hi lo' hi' x off y off' cap cap' hl h1 h2

end Go.Proofs.YtfdbmhaapembjaaGreatDoor

namespace Go.Proofs.YtfdbmhaapembjaaGreatDoor
open Go.RowKit

set_option maxRecDepth 20000 in
set_option maxHeartbeats 1000000 in
theorem markHomeS_some (w : World) (base : Nat) (eW eB : TypeId) (hE : eW ≠ eB) (ps : List Wr) (k0 g cap lo hi : Nat) (hl : ps.length ≤ 140737488355328) (hk0 : k0 + cnt ps ≤ 140737488355328)
    (cells : List Value) (dvs : Nat → Value) (h1 : OwnPx w base eW eB (.slice (some ⟨g, 0, none⟩) ps.length cap) ps cells dvs) (hg : lo ≤ g ∧ g < hi)
    (hb : ∀ i g', i < ps.length → (dvs i).ownBlock = some g' → lo ≤ g' ∧ g' < hi) :
    Calls Tryz.prog 11 #[.slice (some ⟨g, 0, none⟩) ps.length cap, .int .i64 k0] w fun r w' => r = .returned (.int .i64 ((k0 + cnt ps : Nat) : Int)) ∧
      (∃ cells', OwnPx w' base eW eB (.slice (some ⟨g, 0, none⟩) ps.length cap) (mkTo k0 ps ps.length) cells' dvs) ∧ Chg lo hi w w' ∧ (∀ m, m ≠ g → (∀ i, i < ps.length → (dvs i).ownBlock ≠ some m) → m < w.heap.size → w'.heap[m]? = w.heap[m]?) := by
  go_enter Tryz.func11, Tryz.ntmps11
  go_wp2
  go_loopw [1, 5] (fun q i wr => ∃ k : Nat, k ≤ ps.length ∧ i = .int .i64 k ∧ q = .int .i64 ((k0 + cnt (ps.take k) : Nat) : Int) ∧
      (∃ cells', OwnPx wr base eW eB (.slice (some ⟨g, 0, none⟩) ps.length cap) (mkTo k0 ps k) cells' dvs) ∧ Chg lo hi w wr ∧ (∀ m, m ≠ g → (∀ i, i < ps.length → (dvs i).ownBlock ≠ some m) → m < w.heap.size → wr.heap[m]? = w.heap[m]?)) (fun _ i _ => ps.length - (intOf i).toNat)
  case atStart => exact ⟨0, Nat.zero_le _, rfl, rfl, ⟨cells, by rw [mkTo_zero]; exact h1⟩, Chg.refl _ _ _, fun _ _ _ _ => rfl⟩
  case round =>
    obtain ⟨k, hk, rfl, rfl, ⟨cells', hown⟩, hch, hrest⟩ := hrel
    clear h1
    by_cases hlt : k < ps.length
    · have hrow := hown.row
      rw [mkTo_length] at hrow
      have hlen : cells'.length = ps.length * 2 := hrow.1
      have c0 : wr.cell? ⟨g, k * 2, none⟩ = some (.int .i64 ((mkTo k0 ps k).getD k (0, [])).1) := by
        rw [World.ownsRow.cellAt hrow (k * 2) (by omega)]; exact hown.at0 k (by rw [mkTo_length]; exact hlt)
      have c1 : wr.cell? ⟨g, k * 2 + 1, none⟩ = some (dvs k) := by
        rw [World.ownsRow.cellAt hrow (k * 2 + 1) (by omega)]; exact hown.at1 k (by rw [mkTo_length]; exact hlt)
      have f0 : wr.frozen? ⟨g, k * 2, none⟩ = false := World.ownsRow.frozenAt hrow (k * 2)
      have hik : (k : Int) < (ps.length : Int) := by omega
      have hcs := cnt_take_succ ps k hlt
      have hcl := cnt_take_le ps (k + 1)
      have hd := hown.data_set hE (k * 2) (.int .i64 ((k0 : Int) + (cnt (ps.take k) : Int))) (i := k) (by rw [mkTo_length]; exact hlt)
      have hold : (mkTo k0 ps k).getD k (0, []) = ps.getD k (0, []) := by rw [mkTo_getD _ _ _ _ hlt, if_neg (Nat.lt_irrefl _)]
      rw [hold] at c0 hd
      have HW : Hid (mkW k0 ps k = (((k0 + cnt (ps.take k) : Nat) : Int), marks (k0 + cnt (ps.take k) + 1) (ps.getD k (0, [])).2.length)) := rfl
      clear hold hrow
      generalize hc : cnt (ps.take k) = c at *
      generalize ps.getD k (0, []) = old at *
      have Hc : Hid (cnt (ps.take k) = c) := hc
      clear hc
      have hbd : k0 + c + 1 + old.2.length ≤ 140737488355328 := by omega
      have Hcs : Hid (cnt (ps.take (k + 1)) = c + (old.2.length + 1)) := hcs
      clear hcs hcl
      go_wp2_with fail
      rw [show (k0 : Int) + (c : Int) + 1 = ((k0 + c + 1 : Nat) : Int) from by omega]
      refine (markByteS_calls _ base eB (dvs k) old.2 (k0 + c + 1) lo hi (by omega) (by omega) hd (hb k · hlt)).mono ?_
      rintro e w2 ⟨rfl, ho, hc1, hc2, hc3⟩
      have hset : (k0 : Int) + (c : Int) = ((k0 + c : Nat) : Int) := by omega
      rw [hset] at hc1 hc2 hc3
      have R1 := hown.step (mkTo_length _ _ _) hlt hE ((k0 + c : Nat) : Int) _ ho hc2 hc3
      rw [← HW.out, mkTo_succ] at R1
      have R2 : Chg lo hi w w2 := (hch.setCell (p := ⟨g, k * 2, none⟩) (Or.inl hg) _).trans hc1
      have R3 : ∀ m, m ≠ g → (∀ i, i < ps.length → (dvs i).ownBlock ≠ some m) → m < w.heap.size → w2.heap[m]? = w.heap[m]? := by
        intro m hm hm2 hm3
        rw [← hrest m hm hm2 hm3, ← Below.heap_setCell wr ⟨g, k * 2, none⟩ (.int .i64 ((k0 + c : Nat) : Int)) m hm]
        cases hb : (dvs k).ownBlock with
        | none => rw [hc3 hb]
        | some g' =>
          refine (hc2 g' hb).block m (Nat.lt_of_lt_of_le hm3 (by have := hch.size; simpa [World.setCell] using this)) ?_
          have : m ≠ g' := fun e => hm2 k hlt (by rw [e]; exact hb)
          omega
      have HR : Hid (∃ cells'', OwnPx w2 base eW eB (.slice (some ⟨g, 0, none⟩) ps.length cap) (mkTo k0 ps (k + 1)) cells'' dvs) := ⟨_, R1⟩
      have HR3 : Hid (∀ m, m ≠ g → (∀ i, i < ps.length → (dvs i).ownBlock ≠ some m) → m < w.heap.size → w2.heap[m]? = w.heap[m]?) := R3
      clear R1 R3 hc1 hc2 hc3 ho hown hrest hch c0 c1 f0 hd hset HW
      go_wp2
      go_roundw
      case rel => exact ⟨k + 1, by omega, by go_num, by rw [Hcs.out]; go_num, HR.out, R2, HR3.out⟩
      case measure => simp [intOf]; omega
    · obtain rfl : k = ps.length := by omega
      have H1 : Hid (∃ cells'', OwnPx wr base eW eB (.slice (some ⟨g, 0, none⟩) ps.length cap) (mkTo k0 ps ps.length) cells'' dvs) := ⟨_, hown⟩
      have H2 : Hid (∀ m, m ≠ g → (∀ i, i < ps.length → (dvs i).ownBlock ≠ some m) → m < w.heap.size → wr.heap[m]? = w.heap[m]?) := hrest
      rw [List.take_length]
      clear hown hrest
      go_wp2
      go_ret
      exact ⟨rfl, H1.out, hch, H2.out⟩

set_option maxRecDepth 20000 in
set_option maxHeartbeats 400000 in
theorem markHomeS_none (w : World) (ao : Option Addr) (k0 cap : Nat) :
    Calls Tryz.prog 11 #[.slice ao 0 cap, .int .i64 k0] w fun r w' => r = .returned (.int .i64 (k0 : Int)) ∧ w' = w := by
  go_enter Tryz.func11, Tryz.ntmps11
  go_wp2
  refine wp_loop_rounds 1 ?_; rw [rounds_succ]
  go_wp2
  go_ret
  exact ⟨rfl, rfl⟩

/-- Behind markWriteS the writes bear the marks; nothing else has turned. -/
theorem markHomeS_calls (w : World) (base : Nat) (eW eB : TypeId) (hE : eW ≠ eB) (v : Value) (ps : List Wr) (k0 lo hi : Nat) (hl : ps.length ≤ 140737488355328) (hk0 : k0 + cnt ps ≤ 140737488355328)
    (cells : List Value) (dvs : Nat → Value) (h1 : OwnPx w base eW eB v ps cells dvs) (hg : ∀ g, v.ownBlock = some g → lo ≤ g ∧ g < hi)
    (hb : ∀ i g', i < ps.length → (dvs i).ownBlock = some g' → lo ≤ g' ∧ g' < hi) :
    Calls Tryz.prog 11 #[v, .int .i64 k0] w fun r w' => r = .returned (.int .i64 ((k0 + cnt ps : Nat) : Int)) ∧
      (∃ cells', OwnPx w' base eW eB v (mkTo k0 ps ps.length) cells' dvs) ∧ Chg lo hi w w' ∧ (∀ m, v.ownBlock ≠ some m → (∀ i, i < ps.length → (dvs i).ownBlock ≠ some m) → m < w.heap.size → w'.heap[m]? = w.heap[m]?) := by
  rcases h1.row.2 with ⟨rfl, hn⟩ | ⟨g, cap, cur, rfl, _⟩
  · obtain rfl : ps = [] := List.eq_nil_of_length_eq_zero hn
    refine (markHomeS_none w none k0 0).mono ?_
    rintro r w' ⟨rfl, rfl⟩
    exact ⟨rfl, ⟨cells, by simpa [mkTo] using h1⟩, Chg.refl _ _ _, fun _ _ _ _ => rfl⟩
  · refine (markHomeS_some w base eW eB hE ps k0 g cap lo hi hl hk0 cells dvs h1 (hg g rfl) hb).mono ?_
    rintro r w' ⟨rfl, ho, hc, hr⟩
    exact ⟨rfl, ho, hc, fun m hm => hr m (fun e => hm (by rw [e]; rfl))⟩

end Go.Proofs.YtfdbmhaapembjaaGreatDoor
