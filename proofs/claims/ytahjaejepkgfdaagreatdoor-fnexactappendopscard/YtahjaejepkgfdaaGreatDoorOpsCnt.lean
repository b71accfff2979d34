/- Several short texts in one: MarkO, OpsLook, TailOps, OpsCnt. -/
import Derived.Test.YtahjaejepkgfdaaGreatDoorRowsE
import Derived.Test.YtahjaejepkgfdaaGreatDoorHomeMark
import Derived.Test.YtahjaejepkgfdaaGreatDoorImplApp
namespace Go.Proofs.YtahjaejepkgfdaaGreatDoor
open Go.RowKit

/-- How many marks a list of operations takes. -/
def cnt2 (os : List Opx) : Nat := (os.map fun o => o.2.2.length + 2).sum

theorem cnt2_ge (os : List Opx) : os.length ≤ cnt2 os := by
  unfold cnt2
  induction os with
  | nil => simp
  | cons p r ih => simp at *; omega

theorem cnt2_take_succ (os : List Opx) (k : Nat) (h : k < os.length) : cnt2 (os.take (k + 1)) = cnt2 (os.take k) + ((os.getD k Opx.zero).2.2.length + 2) := by
  unfold cnt2
  rw [List.take_succ_eq_append_getElem h, List.map_append, List.sum_append_nat]
  simp [List.getD_eq_getElem?_getD, h]

theorem cnt2_take_le (os : List Opx) (k : Nat) : cnt2 (os.take k) ≤ cnt2 os := by
  have : cnt2 os = cnt2 (os.take k) + cnt2 (os.drop k) := by
    unfold cnt2; rw [← List.sum_append_nat, ← List.map_append, List.take_append_drop]
  omega

/-- The i-th operation, marked. -/
def mkO (k0 : Nat) (os : List Opx) (i : Nat) : Opx := (((k0 + cnt2 (os.take i) : Nat) : Int), ((k0 + cnt2 (os.take i) + 1 : Nat) : Int), marks (k0 + cnt2 (os.take i) + 2) (os.getD i Opx.zero).2.2.length)

/-- The operations, the first k of them marked. -/
def mkOs (k0 : Nat) (os : List Opx) (k : Nat) : List Opx := (List.range os.length).map fun i => if i < k then mkO k0 os i else os.getD i Opx.zero

theorem mkOs_length (k0 : Nat) (os : List Opx) (k : Nat) : (mkOs k0 os k).length = os.length := by simp [mkOs]

theorem mkOs_getD (k0 : Nat) (os : List Opx) (k i : Nat) (h : i < os.length) : (mkOs k0 os k).getD i Opx.zero = if i < k then mkO k0 os i else os.getD i Opx.zero := by
  simp [mkOs, List.getD_eq_getElem?_getD, h]

theorem mkOs_zero (k0 : Nat) (os : List Opx) : mkOs k0 os 0 = os := by
  apply List.ext_getElem (by simp [mkOs])
  intro i h1 h2
  simp [mkOs, List.getD_eq_getElem?_getD, h2]

theorem mkOs_succ (k0 : Nat) (os : List Opx) (k : Nat) : (mkOs k0 os k).set k (mkO k0 os k) = mkOs k0 os (k + 1) := by
  apply List.ext_getElem (by simp [mkOs])
  intro i h1 h2
  rw [List.getElem_set]
  simp only [mkOs, List.getElem_map, List.getElem_range]
  by_cases e : k = i
  · subst e; simp
  · rw [if_neg e]
    by_cases e2 : i < k
    · rw [if_pos e2, if_pos (by omega)]
    · rw [if_neg e2, if_neg (by omega)]

/-- One operation's numbers and bytes are written anew in their places. -/
theorem OwnOx.step {wr w2 : World} {base g cap n k : Nat} {eO eB : TypeId} {os : List Opx} {cells : List Value} {dvs : Nat → Value}
    (h : OwnOx wr base eO eB (.slice (some ⟨g, 0, none⟩) n cap) os cells dvs) (hn : os.length = n) (hk : k < n) (hE : eO ≠ eB) (q a : Int) (ys : List Int)
    (ho : OwnB w2 base eB (dvs k) ys) (hc : ∀ g', (dvs k).ownBlock = some g' → Chg g' (g' + 1) ((wr.setCell ⟨g, k * 3, none⟩ (.int .i64 q)).setCell ⟨g, k * 3 + 1, none⟩ (.int .i64 a)) w2)
    (hc0 : (dvs k).ownBlock = none → w2 = (wr.setCell ⟨g, k * 3, none⟩ (.int .i64 q)).setCell ⟨g, k * 3 + 1, none⟩ (.int .i64 a)) :
    OwnOx w2 base eO eB (.slice (some ⟨g, 0, none⟩) n cap) (os.set k (q, a, ys)) ((cells.set (k * 3) (.int .i64 q)).set (k * 3 + 1) (.int .i64 a)) dvs := by
  obtain ⟨cur, hcur⟩ := h.row_elem
  obtain ⟨row, at0, at1, at2, data, apart⟩ := h
  rw [hn] at row
  have hst := (World.ownsRow.stored (World.ownsRow.stored row (k * 3) (.int .i64 q)).1 (k * 3 + 1) (.int .i64 a)).1
  have hlen : cells.length = n * 3 := row.1
  have C2 : Chg g (g + 1) wr ((wr.setCell ⟨g, k * 3, none⟩ (.int .i64 q)).setCell ⟨g, k * 3 + 1, none⟩ (.int .i64 a)) := Chg.setCell (p := ⟨g, k * 3 + 1, none⟩) (Chg.setCell (p := ⟨g, k * 3, none⟩) (Chg.refl _ _ _) (Or.inl ⟨Nat.le_refl _, Nat.lt_succ_self _⟩) _) (Or.inl ⟨Nat.le_refl _, Nat.lt_succ_self _⟩) _
  have hne : ∀ i g', i < n → (dvs i).ownBlock = some g' → g' ≠ g := by
    intro i g' hi hg' e
    exact (data i (by omega)).ne_row hcur hE (by rw [hg', e])
  generalize (wr.setCell ⟨g, k * 3, none⟩ (.int .i64 q)).setCell ⟨g, k * 3 + 1, none⟩ (.int .i64 a) = ws at *
  have c1 : ∀ i, i < n → OwnB ws base eB (dvs i) (os.getD i Opx.zero).2.2 := by
    intro i hi
    refine (data i (by omega)).chg C2 ?_
    intro g' hg'
    have := hne i g' hi hg'
    omega
  have K : ∀ m, (∀ g', (dvs k).ownBlock = some g' → m ≠ g') → m < ws.heap.size → w2.heap[m]? = ws.heap[m]? := by
    intro m hm hlt
    cases hb : (dvs k).ownBlock with
    | none => rw [hc0 hb]
    | some g' => exact (hc g' hb).block m hlt (by have := hm g' hb; omega)
  have hlt2 : ∀ {m : Nat} {o : Obj}, ws.heap[m]? = some o → m < ws.heap.size := fun h => (Array.getElem?_eq_some_iff.1 h).1
  have hps : (os.set k (q, a, ys)).length = n := by simp [hn]
  have hget : ∀ i, i ≠ k → (os.set k (q, a, ys)).getD i Opx.zero = os.getD i Opx.zero := by
    intro i e
    simp only [List.getD_eq_getElem?_getD, List.getElem?_set_ne (fun h => e h.symm)]
  have hgetk : (os.set k (q, a, ys)).getD k Opx.zero = (q, a, ys) := by simp [List.getD_eq_getElem?_getD, hn, hk]
  refine ⟨?_, ?_, ?_, ?_, ?_, ?_⟩
  · rw [hps]
    obtain ⟨h1, h2⟩ := hst
    refine ⟨h1, ?_⟩
    rcases h2 with h2 | ⟨g', cap', cur', hv, hg, hh, r⟩
    · exact Or.inl h2
    · refine Or.inr ⟨g', cap', cur', hv, hg, ?_, r⟩
      simp only [Value.slice.injEq, Option.some.injEq, Addr.mk.injEq, and_true, true_and] at hv
      obtain ⟨rfl, rfl⟩ := hv
      rw [K g (fun g' hg' e => hne k g' hk hg' e.symm) (hlt2 hh)]; exact hh
  · intro i hi
    rw [hps] at hi
    rw [List.getElem?_set_ne (by omega)]
    by_cases e : i = k
    · subst e; rw [List.getElem?_set_self (by omega), hgetk]
    · rw [List.getElem?_set_ne (by omega), at0 i (by omega), hget i e]
  · intro i hi
    rw [hps] at hi
    by_cases e : i = k
    · subst e; rw [List.getElem?_set_self (by simp; omega), hgetk]
    · rw [List.getElem?_set_ne (by omega), List.getElem?_set_ne (by omega), at1 i (by omega), hget i e]
  · intro i hi
    rw [hps] at hi
    rw [List.getElem?_set_ne (by omega), List.getElem?_set_ne (by omega)]; exact at2 i (by omega)
  · intro i hi
    rw [hps] at hi
    by_cases e : i = k
    · subst e
      rw [hgetk]; exact ho
    · have := c1 i hi
      rw [hget i e]
      obtain ⟨h1, h2⟩ := this
      refine ⟨h1, ?_⟩
      rcases h2 with h2 | ⟨g', cap', cur', hv, hg, hh, r⟩
      · exact Or.inl h2
      · refine Or.inr ⟨g', cap', cur', hv, hg, ?_, r⟩
        rw [K g' ?_ (hlt2 hh)]; exact hh
        intro g'' hg'' e3
        subst e3
        have hi' : (dvs i).ownBlock = some g' := by rw [hv]; rfl
        rcases Nat.lt_or_gt_of_ne e with h | h
        · exact apart i k g' h (by omega) hi' hg''
        · exact apart k i g' h (by omega) hg'' hi'
  · intro i j g' hij hj
    rw [hps] at hj
    exact apart i j g' hij (by omega)

set_option maxRecDepth 20000 in
set_option maxHeartbeats 1000000 in
theorem markO_some (w : World) (base : Nat) (ps : List Opx) (k0 g cap lo hi : Nat) (hl : ps.length ≤ 140737488355328) (hk0 : k0 + cnt2 ps ≤ 140737488355328)
    (cells : List Value) (dvs : Nat → Value) (h1 : OwnOx w base 47 5 (.slice (some ⟨g, 0, none⟩) ps.length cap) ps cells dvs) (hg : lo ≤ g ∧ g < hi)
    (hb : ∀ i g', i < ps.length → (dvs i).ownBlock = some g' → lo ≤ g' ∧ g' < hi) :
    Calls Tryz.prog 12 #[.slice (some ⟨g, 0, none⟩) ps.length cap, .int .i64 k0] w fun r w' => r = .returned (.int .i64 ((k0 + cnt2 ps : Nat) : Int)) ∧
      (∃ cells', OwnOx w' base 47 5 (.slice (some ⟨g, 0, none⟩) ps.length cap) (mkOs k0 ps ps.length) cells' dvs) ∧ Chg lo hi w w' := by
  go_enter Tryz.func12, Tryz.ntmps12
  go_wp2
  go_loopw [1, 5] (fun q i wr => ∃ k : Nat, k ≤ ps.length ∧ i = .int .i64 k ∧ q = .int .i64 ((k0 + cnt2 (ps.take k) : Nat) : Int) ∧
      (∃ cells', OwnOx wr base 47 5 (.slice (some ⟨g, 0, none⟩) ps.length cap) (mkOs k0 ps k) cells' dvs) ∧ Chg lo hi w wr) (fun _ i _ => ps.length - (intOf i).toNat)
  case atStart => exact ⟨0, Nat.zero_le _, rfl, rfl, ⟨cells, by rw [mkOs_zero]; exact h1⟩, Chg.refl _ _ _⟩
  case round =>
    obtain ⟨k, hk, rfl, rfl, ⟨cells', hown⟩, hch⟩ := hrel
    clear h1
    by_cases hlt : k < ps.length
    · have hrow := hown.row
      rw [mkOs_length] at hrow
      have hlen : cells'.length = ps.length * 3 := hrow.1
      obtain ⟨cur, hcur⟩ := hown.row_elem
      have c0 : ∃ u, wr.cell? ⟨g, k * 3, none⟩ = some u := ⟨_, (World.ownsRow.cellAt hrow (k * 3) (by omega)).trans (hown.at0 k (by rw [mkOs_length]; exact hlt))⟩
      have c1 : ∃ u, wr.cell? ⟨g, k * 3 + 1, none⟩ = some u := ⟨_, (World.ownsRow.cellAt hrow (k * 3 + 1) (by omega)).trans (hown.at1 k (by rw [mkOs_length]; exact hlt))⟩
      have c2 : wr.cell? ⟨g, k * 3 + 2, none⟩ = some (dvs k) := (World.ownsRow.cellAt hrow (k * 3 + 2) (by omega)).trans (hown.at2 k (by rw [mkOs_length]; exact hlt))
      obtain ⟨u0, c0⟩ := c0
      obtain ⟨u1, c1⟩ := c1
      have f0 := World.ownsRow.frozenAt hrow (k * 3)
      have f1 := World.ownsRow.frozenAt hrow (k * 3 + 1)
      have hik : (k : Int) < (ps.length : Int) := by omega
      have hcs := cnt2_take_succ ps k hlt
      have hcl := cnt2_take_le ps (k + 1)
      have hold : (mkOs k0 ps k).getD k Opx.zero = ps.getD k Opx.zero := by rw [mkOs_getD _ _ _ _ hlt, if_neg (Nat.lt_irrefl _)]
      have HW : Hid (mkO k0 ps k = (((k0 + cnt2 (ps.take k) : Nat) : Int), ((k0 + cnt2 (ps.take k) + 1 : Nat) : Int), marks (k0 + cnt2 (ps.take k) + 2) (ps.getD k Opx.zero).2.2.length)) := rfl
      have hd0 := hown.data k (by rw [mkOs_length]; exact hlt)
      rw [hold] at hd0
      generalize hc : cnt2 (ps.take k) = c at *
      generalize ps.getD k Opx.zero = old at *
      have C2 : Chg g (g + 1) wr ((wr.setCell ⟨g, k * 3, none⟩ (.int .i64 ((k0 + c : Nat) : Int))).setCell ⟨g, k * 3 + 1, none⟩ (.int .i64 ((k0 + c + 1 : Nat) : Int))) := Chg.setCell (p := ⟨g, k * 3 + 1, none⟩) (Chg.setCell (p := ⟨g, k * 3, none⟩) (Chg.refl _ _ _) (Or.inl ⟨Nat.le_refl _, Nat.lt_succ_self _⟩) _) (Or.inl ⟨Nat.le_refl _, Nat.lt_succ_self _⟩) _
      have hd : OwnB ((wr.setCell ⟨g, k * 3, none⟩ (.int .i64 ((k0 + c : Nat) : Int))).setCell ⟨g, k * 3 + 1, none⟩ (.int .i64 ((k0 + c + 1 : Nat) : Int))) base 5 (dvs k) old.2.2 := by
        refine hd0.chg C2 (fun g' hg' => ?_)
        have := hd0.ne_row hcur (by decide)
        have : g' ≠ g := fun e => this (by rw [hg', e])
        omega
      have hM := markByteS_calls _ base 5 (dvs k) old.2.2 (k0 + c + 2) lo hi (by omega) (by omega) hd (hb k · hlt)
      have HC2 : Hid (Chg lo hi w ((wr.setCell ⟨g, k * 3, none⟩ (.int .i64 ((k0 + c : Nat) : Int))).setCell ⟨g, k * 3 + 1, none⟩ (.int .i64 ((k0 + c + 1 : Nat) : Int)))) := hch.step C2 (Or.inl ⟨hg.1, by omega⟩)
      have Hown : Hid (OwnOx wr base 47 5 (.slice (some ⟨g, 0, none⟩) ps.length cap) (mkOs k0 ps k) cells' dvs) := hown
      have Hcs : Hid (cnt2 (ps.take (k + 1)) = c + (old.2.2.length + 2)) := hcs
      have E1 : Hid ((k0 : Int) + (c : Int) + 1 = ((k0 + c + 1 : Nat) : Int)) := by show _ = _; omega
      have E0 : Hid ((k0 : Int) + (c : Int) = ((k0 + c : Nat) : Int)) := by show _ = _; omega
      have E2 : Hid ((k0 : Int) + (c : Int) + 1 + 1 = ((k0 + c + 2 : Nat) : Int)) := by show _ = _; omega
      have hbd : k0 + c + 2 + old.2.2.length ≤ 140737488355328 := by omega
      clear hc hcs hcl hold hrow hown hd hd0 hch C2 hcur hlen
      go_wp2_with fail
      rw [E2.out, E1.out, E0.out]
      refine hM.mono ?_
      rintro e w2 ⟨rfl, ho, hc1, hc2, hc3⟩
      have R1 := Hown.out.step (mkOs_length _ _ _) hlt (by decide) ((k0 + c : Nat) : Int) ((k0 + c + 1 : Nat) : Int) _ ho hc2 hc3
      rw [← HW.out, mkOs_succ] at R1
      have HR : Hid (∃ cells'', OwnOx w2 base 47 5 (.slice (some ⟨g, 0, none⟩) ps.length cap) (mkOs k0 ps (k + 1)) cells'' dvs) := ⟨_, R1⟩
      have R2 : Hid (Chg lo hi w w2) := HC2.out.trans hc1
      clear R1 hc1 hc2 hc3 ho HC2 Hown hM c0 c1 c2 f0 f1 HW E0 E1 E2
      go_wp2
      go_roundw
      case rel => exact ⟨k + 1, by omega, by go_num, by rw [Hcs.out]; go_num, HR.out, R2.out⟩
      case measure => simp [intOf]; omega
    · obtain rfl : k = ps.length := by omega
      have H1 : Hid (∃ cells'', OwnOx wr base 47 5 (.slice (some ⟨g, 0, none⟩) ps.length cap) (mkOs k0 ps ps.length) cells'' dvs) := ⟨_, hown⟩
      rw [List.take_length]
      clear hown
      go_wp2
      go_ret
      exact ⟨rfl, H1.out, hch⟩

set_option maxRecDepth 20000 in
set_option maxHeartbeats 400000 in
theorem markO_none (w : World) (ao : Option Addr) (k0 cap : Nat) :
    Calls Tryz.prog 12 #[.slice ao 0 cap, .int .i64 k0] w fun r w' => r = .returned (.int .i64 (k0 : Int)) ∧ w' = w := by
  go_enter Tryz.func12, Tryz.ntmps12
  go_wp2
  refine wp_loop_rounds 1 ?_; rw [rounds_succ]
  go_wp2
  go_ret
  exact ⟨rfl, rfl⟩

/-- Behind markOpS the operations bear the marks. -/
theorem markO_calls (w : World) (base : Nat) (v : Value) (ps : List Opx) (k0 lo hi : Nat) (hl : ps.length ≤ 140737488355328) (hk0 : k0 + cnt2 ps ≤ 140737488355328)
    (cells : List Value) (dvs : Nat → Value) (h1 : OwnOx w base 47 5 v ps cells dvs) (hg : ∀ g, v.ownBlock = some g → lo ≤ g ∧ g < hi)
    (hb : ∀ i g', i < ps.length → (dvs i).ownBlock = some g' → lo ≤ g' ∧ g' < hi) :
    Calls Tryz.prog 12 #[v, .int .i64 k0] w fun r w' => r = .returned (.int .i64 ((k0 + cnt2 ps : Nat) : Int)) ∧
      (∃ cells', OwnOx w' base 47 5 v (mkOs k0 ps ps.length) cells' dvs) ∧ Chg lo hi w w' := by
  rcases h1.row.2 with ⟨rfl, hn⟩ | ⟨g, cap, cur, rfl, _⟩
  · obtain rfl : ps = [] := List.eq_nil_of_length_eq_zero hn
    refine (markO_none w none k0 0).mono ?_
    rintro r w' ⟨rfl, rfl⟩
    exact ⟨rfl, ⟨cells, by simpa [mkOs] using h1⟩, Chg.refl _ _ _⟩
  · exact markO_some w base ps k0 g cap lo hi hl hk0 cells dvs h1 (hg g rfl) hb

set_option maxRecDepth 20000 in
set_option maxHeartbeats 1000000 in
theorem heldO_some (w : World) (ps : List Opx) (k0 lo hi b off cap : Nat) (hl : ps.length ≤ 140737488355328) (hk0 : k0 + cnt2 ps ≤ 140737488355328)
    (h1 : ∀ i, i < ps.length → ∃ dv, w.cell? ⟨b, off + i * 3, none⟩ = some (.int .i64 ((mkOs k0 ps ps.length).getD i Opx.zero).1) ∧ w.cell? ⟨b, off + i * 3 + 1, none⟩ = some (.int .i64 ((mkOs k0 ps ps.length).getD i Opx.zero).2.1) ∧ w.cell? ⟨b, off + i * 3 + 2, none⟩ = some dv ∧ View w lo hi .u8 dv ((mkOs k0 ps ps.length).getD i Opx.zero).2.2) :
    Calls Tryz.prog 13 #[.slice (some ⟨b, off, none⟩) ps.length cap, .int .i64 k0] w fun e w' => e = .returned (.int .i64 ((k0 + cnt2 ps : Nat) : Int)) ∧ Same w w' := by
  go_enter Tryz.func13, Tryz.ntmps13
  go_wp2
  go_loopw [1, 5] (fun q i wr => Same w wr ∧ ∃ k : Nat, k ≤ ps.length ∧ i = .int .i64 k ∧ q = .int .i64 ((k0 + cnt2 (ps.take k) : Nat) : Int)) (fun _ i _ => ps.length - (intOf i).toNat)
  case atStart => exact ⟨Same.refl _, 0, Nat.zero_le _, rfl, rfl⟩
  case round =>
    obtain ⟨hal, k, hk, rfl, rfl⟩ := hrel
    by_cases hlt : k < ps.length
    · obtain ⟨d1, c1, c2, c3, v1⟩ := h1 k hlt
      clear h1
      rw [mkOs_getD _ _ _ _ hlt, if_pos hlt] at c1 c2 v1
      unfold mkO at c1 c2 v1
      have hcs := cnt2_take_succ ps k hlt
      have hcl := cnt2_take_le ps (k + 1)
      have c1 := (hal.cell _).trans c1
      have c2 := (hal.cell _).trans c2
      have c3 := (hal.cell _).trans c3
      have v1 := v1.same hal
      have hik : (k : Int) < (ps.length : Int) := by omega
      generalize cnt2 (ps.take k) = c at *
      generalize (ps.getD k Opx.zero).2.2.length = n at *
      have hbd : k0 + c + 2 + n ≤ 140737488355328 := by omega
      have Hcs : Hid (cnt2 (ps.take (k + 1)) = c + (n + 2)) := hcs
      clear hcs hcl
      go_wp2_with fail
      rw [show (k0 : Int) + (c : Int) + 1 + 1 = ((k0 + c + 2 : Nat) : Int) from by omega]
      refine (heldByteS_calls _ (k0 + c + 2) n (by omega) v1).mono ?_
      rintro e w1 ⟨rfl, hs⟩
      have hs' := hal.trans hs
      clear hs hal v1 c1 c2 c3
      go_wp2
      go_roundw
      case rel => exact ⟨hs', k + 1, by omega, by go_num, by rw [Hcs.out]; go_num⟩
      case measure => simp [intOf]; omega
    · obtain rfl : k = ps.length := by omega
      clear h1
      rw [List.take_length]
      go_wp2
      go_ret
      exact ⟨rfl, hal⟩

set_option maxRecDepth 20000 in
set_option maxHeartbeats 400000 in
theorem heldO_none (w : World) (ao : Option Addr) (k0 cap : Nat) :
    Calls Tryz.prog 13 #[.slice ao 0 cap, .int .i64 k0] w fun e w' => e = .returned (.int .i64 (k0 : Int)) ∧ Same w w' := by
  go_enter Tryz.func13, Tryz.ntmps13
  go_wp2
  refine wp_loop_rounds 1 ?_; rw [rounds_succ]
  go_wp2
  go_ret
  exact ⟨rfl, Same.refl _⟩

theorem heldO_calls (w : World) {lo hi : Nat} {a : Value} (ps : List Opx) (k0 : Nat) (hk0 : k0 + cnt2 ps ≤ 140737488355328) (h1 : OView w lo hi a (mkOs k0 ps ps.length)) :
    Calls Tryz.prog 13 #[a, .int .i64 k0] w fun e w' => e = .returned (.int .i64 ((k0 + cnt2 ps : Nat) : Int)) ∧ Same w w' := by
  obtain ⟨ao, cap, rfl, hl, _, h1⟩ := h1
  rw [mkOs_length] at *
  rcases h1 with h1 | ⟨x, off, rfl, _, _, h1⟩
  · obtain rfl : ps = [] := by have := congrArg List.length h1; rw [mkOs_length] at this; exact List.eq_nil_of_length_eq_zero this
    exact heldO_none w ao k0 cap
  · exact heldO_some w ps k0 lo hi x off cap (by have := cnt2_ge ps; omega) hk0 h1

end Go.Proofs.YtahjaejepkgfdaaGreatDoor

namespace Go.Proofs.YtahjaejepkgfdaaGreatDoor
open Go.RowKit

theorem OwnOx.lt' {w : World} {base : Nat} {eO eB : TypeId} {v : Value} {os : List Opx} {cells : List Value} {dvs : Nat → Value} (h : OwnOx w base eO eB v os cells dvs) : ∀ g, v.ownBlock = some g → base ≤ g ∧ g < w.heap.size := World.ownsRow.lt h.row

theorem OwnOx.dlt' {w : World} {base : Nat} {eO eB : TypeId} {v : Value} {os : List Opx} {cells : List Value} {dvs : Nat → Value} (h : OwnOx w base eO eB v os cells dvs) : ∀ i g, i < os.length → (dvs i).ownBlock = some g → base ≤ g ∧ g < w.heap.size :=
  fun i g hi hg => (h.data i hi).lt g hg

theorem OwnOx.vw' {w : World} {base : Nat} {eO eB : TypeId} {v : Value} {os : List Opx} {cells : List Value} {dvs : Nat → Value} (h : OwnOx w base eO eB v os cells dvs) (hl : cnt2 os ≤ 140737488355328) (hd : ∀ i, i < os.length → (os.getD i Opx.zero).2.2.length ≤ 140737488355328) : OView w base w.heap.size v os :=
  h.view (by have := cnt2_ge os; omega) (fun i hi => by have := hd i hi; omega) (fun g hg => (h.lt' g hg).2) (fun i g hi hg => (h.dlt' i g hi hg).2)

theorem cnt2_data {os : List Opx} {i : Nat} (h : i < os.length) : (os.getD i Opx.zero).2.2.length + 2 ≤ cnt2 os := by
  have h1 := cnt2_take_succ os i h
  have h2 := cnt2_take_le os (i + 1)
  omega

theorem cnt2_mkOs (k0 : Nat) (os : List Opx) : cnt2 (mkOs k0 os os.length) = cnt2 os := by
  unfold cnt2
  congr 1
  apply List.ext_getElem (by simp [mkOs])
  intro i h1 h2
  have hi : i < os.length := by simpa using h2
  simp [mkOs, hi, mkO, marks_length]

/-- A list of operations that came as an answer. -/
theorem OwnOx.look {w : World} {base : Nat} {eO eB : TypeId} {v : Value} {os : List Opx} {cells : List Value} {dvs : Nat → Value} (h : OwnOx w base eO eB v os cells dvs) (hl : cnt2 os ≤ 140737488355328) : OView w base w.heap.size v os :=
  h.vw' hl (fun i hi => by have := cnt2_data hi; omega)

end Go.Proofs.YtahjaejepkgfdaaGreatDoor

namespace Go.Proofs.YtahjaejepkgfdaaGreatDoor
open Go.RowKit

/-- TailOps. -/
def tailO (sz st sq hd us : Int) : List Opx := if validLog sz st sq hd us = true ∧ us ≠ 0 then twoOps (supL 106 108 111 103 1 sz sq hd) else []

theorem OwnOx.none (w : World) (base : Nat) (eO eB : TypeId) : OwnOx w base eO eB (.slice .none 0 0) [] [] (fun _ => .slice .none 0 0) :=
  ⟨⟨rfl, Or.inl ⟨rfl, rfl⟩⟩, fun i h => absurd h (Nat.not_lt_zero i), fun i h => absurd h (Nat.not_lt_zero i), fun i h => absurd h (Nat.not_lt_zero i), fun i h => absurd h (Nat.not_lt_zero i), fun _ j _ _ h => absurd h (Nat.not_lt_zero j)⟩

end Go.Proofs.YtahjaejepkgfdaaGreatDoor

namespace Go.Proofs.YtahjaejepkgfdaaGreatDoor
open Go.RowKit

theorem cnt2_le {os : List Opx} (h : ∀ o ∈ os, o.2.2.length ≤ 64) : cnt2 os ≤ os.length * 66 := by
  unfold cnt2
  induction os with
  | nil => simp
  | cons o os ih =>
    have h1 := h o (by simp)
    have h2 := ih (fun p hp => h p (by simp [hp]))
    simp only [List.map_cons, List.sum_cons, List.length_cons]
    omega
theorem appO_cnt (sz st sq hd us : Int) {t : Tx} (hby : ∀ x ∈ t.homes, Byt x.2) : cnt2 (appO sz st sq hd us t) ≤ 20000 := by
  unfold appO
  split
  case isFalse => simp [cnt2]
  case isTrue h =>
    obtain ⟨h57, h64⟩ := TL_len hby
    have hvl : validLog sz st sq hd us = true := by unfold takesB at h; simp only [Bool.and_eq_true] at h; exact h.1
    have h1 : ∀ o ∈ startL sz st sq hd, o.2.2.length ≤ 64 := by
      unfold startL
      split
      · intro o ho
        simp at ho
        rcases ho with rfl | rfl
        · exact Nat.le_of_eq (supL_64 (okS_of_valid hvl))
        · simp
      · simp
    have h2 : (startL sz st sq hd).length ≤ 2 := by unfold startL; split <;> simp
    have h3 : ∀ o ∈ putL sz hd (TL t) (TL t).length, o.2.2.length ≤ 64 := by
      intro o ho
      unfold putL at ho
      obtain ⟨i, hi, rfl⟩ := List.mem_map.1 ho
      have hi' := List.mem_range.1 hi
      exact Nat.le_of_eq (h64 _ (getD_mem ⟨i, hi'⟩))
    have h4 := @cnt2_le (startL sz st sq hd ++ putL sz hd (TL t) (TL t).length ++ [(2, 0, [])]) (by
      intro o ho
      rcases List.mem_append.1 ho with ho | ho
      · rcases List.mem_append.1 ho with ho | ho
        · exact h1 o ho
        · exact h3 o ho
      · rw [List.mem_singleton.1 ho]; simp)
    rw [List.length_append, List.length_append, putL_length] at h4
    simp only [List.length_cons, List.length_nil] at h4
    omega
theorem tailO_cnt (sz st sq hd us : Int) : cnt2 (tailO sz st sq hd us) ≤ 140737488355328 := by
  unfold tailO
  split
  case isFalse => simp [cnt2]
  case isTrue h =>
    have h4 := @cnt2_le (twoOps (supL 106 108 111 103 1 sz sq hd)) (by
      intro o ho
      simp [twoOps] at ho
      rcases ho with rfl | rfl
      · exact Nat.le_of_eq (supL_64 (okS_of_valid h.1))
      · simp)
    simp only [twoOps, List.length_cons, List.length_nil] at h4 ⊢
    omega

end Go.Proofs.YtahjaejepkgfdaaGreatDoor
