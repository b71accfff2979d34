/- Several short texts in one: Ops, TailStart, SuperOp, RowsE. -/
import Derived.Test.YtahjaejepkgfdaaGreatDoorMem
import Derived.Test.YtahjaejepkgfdaaGreatDoorSpecSuper
import Derived.Test.YtahjaejepkgfdaaGreatDoorSuperEnc
import Derived.Test.YtahjaejepkgfdaaGreatDoorByt
import Derived.Test.YtahjaejepkgfdaaGreatDoorPutByt
namespace Go.Proofs.YtahjaejepkgfdaaGreatDoor
open Go.RowKit

/-- One operation: its kind, its block, its bytes. -/
abbrev Opx : Type := Int × Int × List Int

abbrev Opx.zero : Opx := (0, 0, [])

/-- A slice of operations, as it is seen in memory. -/
def OView (w : World) (lo hi : Nat) (v : Value) (os : List Opx) : Prop :=
  ∃ ao cap, v = .slice ao os.length cap ∧ os.length ≤ 9223372036854775807 ∧ os.length ≤ cap ∧
    (os = [] ∨ ∃ b off, ao = some ⟨b, off, none⟩ ∧ lo ≤ b ∧ b < hi ∧ ∀ i, i < os.length → ∃ dv,
      w.cell? ⟨b, off + i * 3, none⟩ = some (.int .i64 (os.getD i Opx.zero).1) ∧ w.cell? ⟨b, off + i * 3 + 1, none⟩ = some (.int .i64 (os.getD i Opx.zero).2.1) ∧
      w.cell? ⟨b, off + i * 3 + 2, none⟩ = some dv ∧ View w lo hi .u8 dv (os.getD i Opx.zero).2.2)

theorem OView.chg {w w' : World} {lo hi l r : Nat} {v : Value} {os : List Opx} (h : OView w lo hi v os) (c : Chg l r w w') (d : hi ≤ l ∨ r ≤ lo ∨ r ≤ l) : OView w' lo hi v os := by
  obtain ⟨ao, cap, hv, hl, hc, h⟩ := h
  refine ⟨ao, cap, hv, hl, hc, ?_⟩
  rcases h with h | ⟨b, off, ha, h1, h2, h3⟩
  · exact Or.inl h
  · refine Or.inr ⟨b, off, ha, h1, h2, fun i hi => ?_⟩
    obtain ⟨dv, c1, c2, c3, vw⟩ := h3 i hi
    exact ⟨dv, c.cell c1 (by omega), c.cell c2 (by omega), c.cell c3 (by omega), vw.chg c d⟩

theorem OView.nil (w : World) (lo hi : Nat) : OView w lo hi (.slice none 0 0) [] := ⟨none, 0, rfl, by simp, by simp, Or.inl rfl⟩

/-- A row of operations that is this slice's own, each one's bytes a row of its own. -/
structure OwnOx (w : World) (base : Nat) (eO eB : TypeId) (v : Value) (os : List Opx) (cells : List Value) (dvs : Nat → Value) : Prop where
  row : w.ownsRow base eO 3 v os.length cells
  at0 : ∀ i, i < os.length → cells[i * 3]? = some (.int .i64 (os.getD i Opx.zero).1)
  at1 : ∀ i, i < os.length → cells[i * 3 + 1]? = some (.int .i64 (os.getD i Opx.zero).2.1)
  at2 : ∀ i, i < os.length → cells[i * 3 + 2]? = some (dvs i)
  data : ∀ i, i < os.length → OwnB w base eB (dvs i) (os.getD i Opx.zero).2.2
  apart : ∀ i j g, i < j → j < os.length → (dvs i).ownBlock = some g → (dvs j).ownBlock ≠ some g

theorem OwnOx.chg {w w' : World} {base l r : Nat} {eO eB : TypeId} {v : Value} {os : List Opx} {cells : List Value} {dvs : Nat → Value} (h : OwnOx w base eO eB v os cells dvs) (c : Chg l r w w')
    (d : ∀ g, v.ownBlock = some g → g < l ∨ r ≤ g) (d' : ∀ i g, i < os.length → (dvs i).ownBlock = some g → g < l ∨ r ≤ g) : OwnOx w' base eO eB v os cells dvs := by
  refine ⟨?_, h.at0, h.at1, h.at2, fun i hi => (h.data i hi).chg c (d' i · hi), h.apart⟩
  obtain ⟨h1, h2⟩ := h.row
  refine ⟨h1, ?_⟩
  rcases h2 with h2 | ⟨g, cap, cur, hv, hg, hh, r⟩
  · exact Or.inl h2
  · refine Or.inr ⟨g, cap, cur, hv, hg, ?_, r⟩
    rw [c.block g (Array.getElem?_eq_some_iff.1 hh).1 (d g (by rw [hv]; rfl))]; exact hh

theorem OwnOx.row_elem {w : World} {base g n cap : Nat} {eO eB : TypeId} {os : List Opx} {cells : List Value} {dvs : Nat → Value} (h : OwnOx w base eO eB (.slice (some ⟨g, 0, none⟩) n cap) os cells dvs) : ∃ cur, w.heap[g]? = some (.cells cur eO (0, 0)) := by
  rcases h.row.2 with ⟨h', _⟩ | ⟨g', cap', cur, h', hb, hg, _⟩
  · cases h'
  · simp only [Value.slice.injEq, Option.some.injEq, Addr.mk.injEq, and_true] at h'
    obtain ⟨rfl, _⟩ := h'
    exact ⟨cur, hg⟩

theorem OwnOx.view {w : World} {base : Nat} {eO eB : TypeId} {v : Value} {os : List Opx} {cells : List Value} {dvs : Nat → Value} (h : OwnOx w base eO eB v os cells dvs) (hl : os.length ≤ 9223372036854775807)
    (hd : ∀ i, i < os.length → (os.getD i Opx.zero).2.2.length ≤ 9223372036854775807) {hi : Nat} (hb : ∀ g, v.ownBlock = some g → g < hi) (hb' : ∀ i g, i < os.length → (dvs i).ownBlock = some g → g < hi) : OView w base hi v os := by
  have hrow := h.row
  rcases hrow.2 with ⟨rfl, h0⟩ | ⟨g, cap, cur, rfl, hg, hh, hc, _⟩
  · obtain rfl : os = [] := List.eq_nil_of_length_eq_zero h0
    exact OView.nil _ _ _
  · refine ⟨_, cap, rfl, hl, hc, Or.inr ⟨g, 0, rfl, hg, hb g rfl, fun i hi => ⟨dvs i, ?_, ?_, ?_, (h.data i hi).view (hd i hi) (hb' i · hi)⟩⟩⟩
    · rw [Nat.zero_add, World.ownsRow.cellAt hrow (i * 3) (by omega)]; exact h.at0 i hi
    · rw [Nat.zero_add, World.ownsRow.cellAt hrow (i * 3 + 1) (by omega)]; exact h.at1 i hi
    · rw [Nat.zero_add, World.ownsRow.cellAt hrow (i * 3 + 2) (by omega)]; exact h.at2 i hi

/-- One operation is put in its place, its bytes a new row. -/
theorem OwnOx.put {wr : World} {base g cap n k : Nat} {eO eB : TypeId} {os : List Opx} {cells : List Value} {dvs : Nat → Value}
    (h : OwnOx wr base eO eB (.slice (some ⟨g, 0, none⟩) n cap) os cells dvs) (hn : os.length = n) (hk : k < n) (hE : eO ≠ eB) (q a : Int) (ys : List Int) (dv : Value)
    (ho : OwnB wr base eB dv ys) (hfr : ∀ i g', i < n → (dvs i).ownBlock = some g' → dv.ownBlock ≠ some g') :
    OwnOx (((wr.setCell ⟨g, k * 3, none⟩ (.int .i64 q)).setCell ⟨g, k * 3 + 1, none⟩ (.int .i64 a)).setCell ⟨g, k * 3 + 2, none⟩ dv) base eO eB (.slice (some ⟨g, 0, none⟩) n cap) (os.set k (q, a, ys)) (((cells.set (k * 3) (.int .i64 q)).set (k * 3 + 1) (.int .i64 a)).set (k * 3 + 2) dv) (fun i => if i = k then dv else dvs i) := by
  obtain ⟨cur, hcur⟩ := h.row_elem
  obtain ⟨row, at0, at1, at2, data, apart⟩ := h
  rw [hn] at row
  have hst := (World.ownsRow.stored (World.ownsRow.stored (World.ownsRow.stored row (k * 3) (.int .i64 q)).1 (k * 3 + 1) (.int .i64 a)).1 (k * 3 + 2) dv).1
  have hlen : cells.length = n * 3 := row.1
  have hps : (os.set k (q, a, ys)).length = n := by simp [hn]
  have hD : ∀ {v : Value} {xs : List Int}, OwnB wr base eB v xs → OwnB (((wr.setCell ⟨g, k * 3, none⟩ (.int .i64 q)).setCell ⟨g, k * 3 + 1, none⟩ (.int .i64 a)).setCell ⟨g, k * 3 + 2, none⟩ dv) base eB v xs := by
    intro v xs hv
    have := hv.ne_row hcur hE
    exact ((hv.set this _).set this _).set this _
  have hget : ∀ i, i ≠ k → (os.set k (q, a, ys)).getD i Opx.zero = os.getD i Opx.zero := by
    intro i e
    simp only [List.getD_eq_getElem?_getD, List.getElem?_set_ne (fun h => e h.symm)]
  have hgetk : (os.set k (q, a, ys)).getD k Opx.zero = (q, a, ys) := by simp [List.getD_eq_getElem?_getD, hn, hk]
  refine ⟨?_, ?_, ?_, ?_, ?_, ?_⟩
  · rw [hps]; exact hst
  · intro i hi
    rw [hps] at hi
    rw [List.getElem?_set_ne (by omega), List.getElem?_set_ne (by omega)]
    by_cases e : i = k
    · subst e; rw [List.getElem?_set_self (by omega), hgetk]
    · rw [List.getElem?_set_ne (by omega), at0 i (by omega), hget i e]
  · intro i hi
    rw [hps] at hi
    rw [List.getElem?_set_ne (by omega)]
    by_cases e : i = k
    · subst e; rw [List.getElem?_set_self (by simp; omega), hgetk]
    · rw [List.getElem?_set_ne (by omega), List.getElem?_set_ne (by omega), at1 i (by omega), hget i e]
  · intro i hi
    rw [hps] at hi
    by_cases e : i = k
    · subst e; rw [List.getElem?_set_self (by simp; omega)]; simp
    · rw [List.getElem?_set_ne (by omega), List.getElem?_set_ne (by omega), List.getElem?_set_ne (by omega), at2 i (by omega), if_neg e]
  · intro i hi
    rw [hps] at hi
    by_cases e : i = k
    · subst e; simp only [if_true]; rw [hgetk]; exact hD ho
    · rw [hget i e, if_neg e]; exact hD (data i (by omega))
  · intro i j g' hij hj
    rw [hps] at hj
    by_cases e : i = k
    · subst e
      rw [if_pos rfl, if_neg (by omega)]
      intro h1 h2
      exact hfr j g' hj h2 h1
    · rw [if_neg e]
      by_cases e' : j = k
      · subst e'; rw [if_pos rfl]; intro h1; exact hfr i g' (by omega) h1
      · rw [if_neg e']; exact apart i j g' hij (by omega)

/-- How much a list of operations counts. -/
def cntO (os : List Opx) : Nat := (os.map fun o => o.2.2.length + 1).sum

theorem cntO_ge (os : List Opx) : os.length ≤ cntO os := by
  unfold cntO
  induction os with
  | nil => simp
  | cons p r ih => simp at *; omega

theorem cntO_take_succ (os : List Opx) (k : Nat) (h : k < os.length) : cntO (os.take (k + 1)) = cntO (os.take k) + ((os.getD k Opx.zero).2.2.length + 1) := by
  unfold cntO
  rw [List.take_succ_eq_append_getElem h, List.map_append, List.sum_append_nat]
  simp [List.getD_eq_getElem?_getD, h]

theorem cntO_split (os : List Opx) (k : Nat) : cntO os = cntO (os.take k) + cntO (os.drop k) := by
  unfold cntO; rw [← List.sum_append_nat, ← List.map_append, List.take_append_drop]

theorem cntO_take_le (os : List Opx) (k : Nat) : cntO (os.take k) ≤ cntO os := by
  have := cntO_split os k; omega

theorem cntO_rest (os : List Opx) (k : Nat) : cntO (os.take k) + (os.length - k) ≤ cntO os := by
  have h1 := cntO_split os k
  have h2 := cntO_ge (os.drop k)
  rw [List.length_drop] at h2
  omega

theorem cntO_data {os : List Opx} {i : Nat} (h : i < os.length) : (os.getD i Opx.zero).2.2.length + 1 ≤ cntO os := by
  have h1 := cntO_take_succ os i h
  have h2 := cntO_take_le os (i + 1)
  omega

end Go.Proofs.YtahjaejepkgfdaaGreatDoor

namespace Go.Proofs.YtahjaejepkgfdaaGreatDoor
open Go.RowKit

theorem okS_of_valid {sz st sq hd us : Int} (h : validLog sz st sq hd us = true) : OkS sz sq hd := by
  unfold validLog at h
  rw [Bool.and_eq_true, decide_eq_true_eq] at h
  obtain ⟨⟨a1, a2⟩, ⟨a3, a4⟩, _, ⟨a5, a6⟩, _⟩ := h.1
  exact ⟨a3, a4, a1, a2, by omega, a6⟩

theorem supA_byt (it sq st : Int) : Byt (supA 106 108 111 103 1 it sq st) := by
  intro x hx
  unfold supA at hx
  simp only [List.mem_append] at hx
  rcases hx with (((hx | hx) | hx) | hx) | hx
  · simp at hx; omega
  · exact putN_byt _ _ x hx
  · exact putN_byt _ _ x hx
  · exact putN_byt _ _ x hx
  · rw [List.mem_replicate] at hx; omega

/-- The two operations. -/
abbrev twoOps (es : List Int) : List Opx := [(1, 1, es), (2, 0, [])]

/-- A list of two operations that has been written down. -/
theorem twoOps_own (w : World) (base g cp : Nat) (es : List Int) (hb : base ≤ w.heap.size) (ho : OwnB w base 5 (.slice (some ⟨g, 0, none⟩) 64 cp) es) :
    ∃ cells dvs, OwnOx (w.alloc (.cells #[.int .i64 1, .int .i64 1, .slice (some ⟨g, 0, none⟩) 64 cp, .int .i64 2, .int .i64 0, .slice none 0 0] 47)) base 47 5 (.slice (some ⟨w.heap.size, 0, none⟩) 2 2) (twoOps es) cells dvs := by
  have hrow := World.ownsRow_lit (base := base) (e := 47) (size := 3) w #[.int .i64 1, .int .i64 1, .slice (some ⟨g, 0, none⟩) 64 cp, .int .i64 2, .int .i64 0, .slice none 0 0] 2 hb (by unfold maxLen; omega) rfl
  have c1 : Chg 0 0 w (w.alloc (.cells #[.int .i64 1, .int .i64 1, .slice (some ⟨g, 0, none⟩) 64 cp, .int .i64 2, .int .i64 0, .slice none 0 0] 47)) := Chg.alloc (Chg.refl 0 0 w) _
  refine ⟨[.int .i64 1, .int .i64 1, .slice (some ⟨g, 0, none⟩) 64 cp, .int .i64 2, .int .i64 0, .slice none 0 0], fun i => if i = 0 then .slice (some ⟨g, 0, none⟩) 64 cp else .slice none 0 0, ?_, ?_, ?_, ?_, ?_, ?_⟩
  · simpa using hrow
  · intro i hi
    rcases i with _ | _ | i
    · rfl
    · rfl
    · have hi2 : i + 1 + 1 < 2 := hi
      omega
  · intro i hi
    rcases i with _ | _ | i
    · rfl
    · rfl
    · have hi2 : i + 1 + 1 < 2 := hi
      omega
  · intro i hi
    rcases i with _ | _ | i
    · rfl
    · rfl
    · have hi2 : i + 1 + 1 < 2 := hi
      omega
  · intro i hi
    rcases i with _ | _ | i
    · exact ho.chg c1 (by intro g _; omega)
    · exact ⟨rfl, Or.inl ⟨rfl, rfl⟩⟩
    · have hi2 : i + 1 + 1 < 2 := hi
      omega
  · intro i j g' hij hj
    rcases j with _ | _ | j
    · omega
    · intro _ h; simp [Value.ownBlock] at h
    · have hj2 : j + 1 + 1 < 2 := hj
      omega

set_option maxRecDepth 20000 in
set_option maxHeartbeats 2000000 in
theorem startOps_ok (w : World) (sz st sq hd us : Int) (hv : validLog sz st sq hd us = true)
    (m0 : w.cell? ⟨0, 0, none⟩ = some (.int .u8 106)) (m1 : w.cell? ⟨0, 1, none⟩ = some (.int .u8 108)) (m2 : w.cell? ⟨0, 2, none⟩ = some (.int .u8 111)) (m3 : w.cell? ⟨0, 3, none⟩ = some (.int .u8 103)) :
    Calls Tryz.prog 24 #[.agg #[.int .i64 sz, .int .i64 st, .int .i64 sq, .int .i64 hd, .int .i64 us]] w fun e w' => ∃ g, e = .returned (.slice (some ⟨g, 0, none⟩) 2 2) ∧ (∃ cells dvs, OwnOx w' w.heap.size 47 5 (.slice (some ⟨g, 0, none⟩) 2 2) (twoOps (supL 106 108 111 103 1 sz sq hd)) cells dvs) ∧ Chg 0 0 w w' := by
  have C0 : Chg 0 0 w (w.alloc (.cells #[.int .i64 sz, .int .i64 st, .int .i64 sq, .int .i64 hd, .int .i64 us] 31)) := Chg.alloc (Chg.refl 0 0 w) _
  have hN := implJSuper_ok (w.alloc (.cells #[.int .i64 sz, .int .i64 st, .int .i64 sq, .int .i64 hd, .int .i64 us] 31)) sz hd sq (okS_of_valid hv) (supA_byt _ _ _) (C0.cell m0 (by omega)) (C0.cell m1 (by omega)) (C0.cell m2 (by omega)) (C0.cell m3 (by omega))
  have HC : Hid (Chg 0 0 w (w.alloc (.cells #[.int .i64 sz, .int .i64 st, .int .i64 sq, .int .i64 hd, .int .i64 us] 31))) := C0
  clear C0 m0 m1 m2 m3 hv
  go_enter Tryz.func24, Tryz.ntmps24
  go_wp2_with fail
  generalize w.alloc (.cells #[.int .i64 sz, .int .i64 st, .int .i64 sq, .int .i64 hd, .int .i64 us] 31) = w0 at *
  refine hN.mono ?_
  rintro e w1 ⟨g, rfl, o1, h1⟩
  have HC1 : Hid (Chg 0 0 w w1) := HC.out.trans h1
  have s1 := HC1.out.size
  have HO : Hid (OwnB w1 w.heap.size 5 (.slice (some ⟨g, 0, none⟩) 64 64) (supL 106 108 111 103 1 sz sq hd)) := o1.base (fun g hg => by have := (o1.lt g hg).1; have := HC.out.size; omega)
  have HX : Hid (∃ cells dvs, OwnOx (w1.alloc (.cells #[.int .i64 1, .int .i64 1, .slice (some ⟨g, 0, none⟩) 64 64, .int .i64 2, .int .i64 0, .slice none 0 0] 47)) w.heap.size 47 5 (.slice (some ⟨w1.heap.size, 0, none⟩) 2 2) (twoOps (supL 106 108 111 103 1 sz sq hd)) cells dvs) := twoOps_own w1 w.heap.size g 64 _ s1 HO.out
  have HC2 : Hid (Chg 0 0 w (w1.alloc (.cells #[.int .i64 1, .int .i64 1, .slice (some ⟨g, 0, none⟩) 64 64, .int .i64 2, .int .i64 0, .slice none 0 0] 47))) := HC1.out.alloc _
  clear hN o1 h1
  go_wp2
  go_ret
  exact ⟨_, rfl, HX.out, HC2.out⟩

end Go.Proofs.YtahjaejepkgfdaaGreatDoor

namespace Go.Proofs.YtahjaejepkgfdaaGreatDoor
open Go.RowKit

theorem tri3 {w : World} {s : Nat} {a b c : Value} {t : TypeId} (h : w.heap[s]? = some (.cells #[a, b, c] t (0, 0))) :
    (w.cell? ⟨s, 0, none⟩ = some a ∧ w.cell? ⟨s, 1, none⟩ = some b ∧ w.cell? ⟨s, 2, none⟩ = some c) ∧ w.frozen? ⟨s, 0, none⟩ = false ∧ w.frozen? ⟨s, 1, none⟩ = false ∧ w.frozen? ⟨s, 2, none⟩ = false := by
  simp [World.cell?, World.frozen?, h]

theorem supL_64 {sz sq hd : Int} (h : OkS sz sq hd) : (supL 106 108 111 103 1 sz sq hd).length = 64 := by
  obtain ⟨a1, a2, a3, a4, a5, a6⟩ := h
  obtain ⟨hc0, hc1⟩ := crcV_range (supA 106 108 111 103 1 sz sq hd)
  exact supL_length (pn2 (by omega) (by omega)) (pn4 (by omega) a2) (pn2 a5 (by omega)) (pn4 hc0 hc1)

set_option maxRecDepth 20000 in
set_option maxHeartbeats 2000000 in
theorem l4Super_ok (w : World) (sz st sq hd us : Int) (h : OkS sz sq hd) :
    Calls Tryz.prog 17 #[.agg #[.int .i64 sz, .int .i64 st, .int .i64 sq, .int .i64 hd, .int .i64 us], .int .i64 hd] w fun e w' => ∃ g cp, e = .returned (.agg #[.int .i64 1, .int .i64 1, .slice (some ⟨g, 0, none⟩) 64 cp]) ∧ OwnB w' w.heap.size 5 (.slice (some ⟨g, 0, none⟩) 64 cp) (supL 106 108 111 103 1 sz sq hd) ∧ Chg 0 0 w w' := by
  obtain ⟨z1, z2, z3⟩ := alloc2 w (.cells #[.int .i64 sz, .int .i64 st, .int .i64 sq, .int .i64 hd, .int .i64 us] 31) (.cells #[.int .i64 0, .int .i64 0, .slice none 0 0] 47)
  have hA : Chg 0 0 w ((w.alloc (.cells #[.int .i64 sz, .int .i64 st, .int .i64 sq, .int .i64 hd, .int .i64 us] 31)).alloc (.cells #[.int .i64 0, .int .i64 0, .slice none 0 0] 47)) := (Chg.alloc (Chg.refl 0 0 w) _).alloc _
  have hN := fun w => specJSuper_ok w sz hd sq h (supA_byt _ _ _)
  have Hl : Hid ((supL 106 108 111 103 1 sz sq hd).length = 64) := supL_64 h
  clear h
  go_enter Tryz.func17, Tryz.ntmps17
  go_wp2_with fail
  generalize (w.alloc (.cells #[.int .i64 sz, .int .i64 st, .int .i64 sq, .int .i64 hd, .int .i64 us] 31)).alloc (.cells #[.int .i64 0, .int .i64 0, .slice none 0 0] 47) = w0 at *
  refine (hN _).mono ?_
  rintro e w1 ⟨v, rfl, o1, h1⟩
  have s1 := h1.size
  obtain ⟨g, cp, rfl⟩ : ∃ g c, v = .slice (some ⟨g, 0, none⟩) 64 c := by
    rcases o1.2 with ⟨_, h0⟩ | ⟨g, gc, cur, rfl, _⟩
    · rw [Hl.out] at h0; omega
    · exact ⟨g, gc, by rw [Hl.out]⟩
  have hgl := o1.lt g rfl
  have HC1 : Hid (Chg 0 0 w w1) := hA.trans h1
  obtain ⟨⟨x0, x1, x2⟩, xf0, xf1, xf2⟩ := tri3 ((h1.block (w.heap.size + 1) (by omega) (by omega)).trans z3)
  have HO : Hid (∀ u0 u1 u2 : Value, OwnB (((w1.setCell ⟨w.heap.size + 1, 0, none⟩ u0).setCell ⟨w.heap.size + 1, 1, none⟩ u1).setCell ⟨w.heap.size + 1, 2, none⟩ u2) w.heap.size 5 (.slice (some ⟨g, 0, none⟩) 64 cp) (supL 106 108 111 103 1 sz sq hd) ∧ Chg 0 0 w (((w1.setCell ⟨w.heap.size + 1, 0, none⟩ u0).setCell ⟨w.heap.size + 1, 1, none⟩ u1).setCell ⟨w.heap.size + 1, 2, none⟩ u2)) := by
    intro u0 u1 u2
    have c1 : Chg (w.heap.size + 1) (w.heap.size + 1 + 1) w1 (((w1.setCell ⟨w.heap.size + 1, 0, none⟩ u0).setCell ⟨w.heap.size + 1, 1, none⟩ u1).setCell ⟨w.heap.size + 1, 2, none⟩ u2) := by
      refine Chg.setCell (Chg.setCell (Chg.setCell (Chg.refl _ _ _) ?_ _) ?_ _) ?_ _ <;> exact Or.inl ⟨Nat.le_refl _, Nat.lt_succ_self _⟩
    exact ⟨(o1.base (fun g hg => by have := (o1.lt g hg).1; omega)).chg c1 (fun g' hg' => by cases hg'; show g < w.heap.size + 1 ∨ w.heap.size + 1 + 1 ≤ g; omega), HC1.out.step c1 (by omega)⟩
  clear o1 h1 hN z2 z3 hA
  go_wp2
  exact bodyPost_ret (v := .agg #[.int .i64 1, .int .i64 1, .slice (some ⟨g, 0, none⟩) 64 cp]) (by simp [results, Tryz.results17, go_sem, *]) rfl ⟨g, cp, rfl, (HO.out _ _ _).1, (HO.out _ _ _).2⟩

end Go.Proofs.YtahjaejepkgfdaaGreatDoor

namespace Go.Proofs.YtahjaejepkgfdaaGreatDoor
open Go.RowKit

theorem OwnB.same {w w' : World} {base : Nat} {e : TypeId} {v : Value} {xs : List Int} (h : OwnB w base e v xs) (hs : ∀ j, v.ownBlock = some j → w'.heap[j]? = w.heap[j]?) : OwnB w' base e v xs := by
  obtain ⟨h1, h2⟩ := h
  refine ⟨h1, ?_⟩
  rcases h2 with h2 | ⟨g, cap, cur, hv, hg, hh, r⟩
  · exact Or.inl h2
  · exact Or.inr ⟨g, cap, cur, hv, hg, (hs g (by rw [hv]; rfl)).trans hh, r⟩

theorem row_elem' {w : World} {base : Nat} {e : TypeId} {size n : Nat} {v : Value} {xs : List Value} (h : w.ownsRow base e size v n xs) {j : Nat} (hj : v.ownBlock = some j) : ∃ cur, w.heap[j]? = some (.cells cur e (0, 0)) := by
  rcases h.2 with ⟨h', _⟩ | ⟨g', cap', cur, h', hb, hg, _⟩
  · rw [h'] at hj; cases hj
  · rw [h'] at hj; cases hj; exact ⟨cur, hg⟩

theorem cells_ne {w : World} {i j : Nat} {c c' : Array Value} {t t' : TypeId} (h : w.heap[i]? = some (.cells c t (0, 0))) (h' : w.heap[j]? = some (.cells c' t' (0, 0))) (ht : t ≠ t') : i ≠ j := by
  intro e
  rw [e, h'] at h
  simp only [Option.some.injEq, Obj.cells.injEq] at h
  exact ht h.2.1.symm

end Go.Proofs.YtahjaejepkgfdaaGreatDoor
