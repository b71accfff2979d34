/- The device's small parts: what lies in its rows, has, bytesOf. -/
import Derived.Test.YtplfehjaakkldaaDev
import Derived.Laws.ResultCell
namespace Go.Proofs.Ytplfehjaakkldaa
open Go.RowKit

theorem results_block {P : Program} {fn : Func} {p : Tmp} {ty : TypeId} {w : World} {tmps : Array Value} {a : Addr} {v : Value} (h : fn.results = #[.cell p ty]) (ht : tmps.getD p undef = .pointer (some a)) (hl : (loadVar ty a).run P w = .ok v w) :
    (results fn tmps).run P w = .ok v w := by
  have ht' : tmps[p]?.getD undef = .pointer (some a) := by simpa using ht
  simp only [results, h]
  simp [asAddr, ht', hl]

theorem Dev.rows {w : World} {base p : Nat} {d : Dsk} (h : Dev w base p d) : ∃ gD po m cap, Valid d ∧ base ≤ p ∧
    w.heap[p]? = some (.cells #[.slice (some ⟨gD, 0, none⟩) (d.dur.length / 64) (d.dur.length / 64), .slice po m cap] 79 (0, 0)) ∧ base ≤ gD ∧ m = d.pend.length ∧
    (∀ j, j < d.dur.length → w.cell? ⟨gD, j, none⟩ = some (.int .u8 (d.dur.getD j 0))) ∧
    (0 < d.pend.length → ∃ gP, po = some ⟨gP, 0, none⟩ ∧ base ≤ gP ∧ ∀ j v, (flat d.pend)[j]? = some v → w.cell? ⟨gP, j, none⟩ = some v) := by
  obtain ⟨gD, pv, hv, hp, hb, hd, hpd⟩ := h
  have hd' := hd
  have hpd' := hpd
  have hc : ∀ j, j < d.dur.length → w.cell? ⟨gD, j, none⟩ = some (.int .u8 (d.dur.getD j 0)) := by
    intro j hj
    have h1 := hv.1
    rw [World.ownsRow.cellAt hd j (by omega)]
    simp [List.getD_eq_getElem?_getD, hj]
  have hg : base ≤ gD := (World.ownsRow.lt hd gD rfl).1
  rcases hpd.2 with ⟨e, h0⟩ | ⟨gP, cap, cur, e, hgP, _⟩
  · subst e
    exact ⟨gD, _, _, _, hv, hp, hb, hg, h0.symm, hc, fun h => by omega⟩
  · subst e
    refine ⟨gD, _, _, _, hv, hp, hb, hg, rfl, hc, fun h => ⟨gP, rfl, hgP, fun j v hj => ?_⟩⟩
    have hl := hpd'.1
    rw [World.ownsRow.cellAt hpd' j (by rw [← hl]; exact (List.getElem?_eq_some_iff.1 hj).1)]
    exact hj

theorem there_new (w : World) (c : Array Value) (t : TypeId) (n : Nat) (hn : c.size = n) : (w.alloc (.cells c t)).there w.heap.size 0 n := by
  intro j hj
  have hh := heap_new w (.cells c t)
  constructor
  · rw [World.cell?, hh]; simp; omega
  · rw [World.frozen?, hh]; simp

theorem ret_bool {a b : Bool} (h : a = b) : Ending.returned (.bool a) = .returned (.bool b) := by rw [h]

set_option maxRecDepth 20000 in
set_option maxHeartbeats 400000 in
theorem has_yes (w : World) {base p : Nat} {d : Dsk} (a : Int) (h : Dev w base p d) (h1 : 0 ≤ a) (h2 : a < ((d.dur.length / 64 : Nat) : Int)) :
    Calls Try.prog 68 #[.pointer (some ⟨p, 0, none⟩), .int .i64 a] w fun e w' => e = .returned (.bool true) ∧ w' = w := by
  obtain ⟨gD, po, m, cap, hv, hp, hb, _, _, _, _⟩ := h.rows
  obtain ⟨c0, _, _, _⟩ := two_cells hb
  have hn := hv.2.2.1
  clear hb h hv
  go_enter Try.func68, Try.ntmps68
  go_wp2
  go_ret
  exact ⟨ret_bool (by simp; omega), rfl⟩

set_option maxRecDepth 20000 in
set_option maxHeartbeats 400000 in
theorem has_no (w : World) {base p : Nat} {d : Dsk} (a : Int) (h : Dev w base p d) (h0 : a < 0 ∨ ((d.dur.length / 64 : Nat) : Int) ≤ a) :
    Calls Try.prog 68 #[.pointer (some ⟨p, 0, none⟩), .int .i64 a] w fun e w' => e = .returned (.bool false) ∧ w' = w := by
  obtain ⟨gD, po, m, cap, hv, hp, hb, _, _, _, _⟩ := h.rows
  obtain ⟨c0, _, _, _⟩ := two_cells hb
  have hn := hv.2.2.1
  clear hb h hv
  by_cases h1 : 0 ≤ a
  · have h2 : ((d.dur.length / 64 : Nat) : Int) ≤ a := by omega
    go_enter Try.func68, Try.ntmps68
    go_wp2
    go_ret
    exact ⟨ret_bool (by simp; omega), rfl⟩
  · have h1' : decide (0 ≤ a) = false := by simpa using h1
    go_enter Try.func68, Try.ntmps68
    go_wp2
    go_ret
    exact ⟨rfl, rfl⟩

/-- The 64 cells of a block, as they lie in the rows. -/
theorem flat_getElem {n : Nat} (ps : List Wr) (h : ∀ i, i < ps.length → Good n (ps.getD i (0, []))) (k j : Nat) (hk : k < ps.length) (hj : j < 65) : (flat ps)[k * 65 + j]? = (wcells (ps.getD k (0, [])))[j]? := by
  have e : ps = ps.take k ++ (ps[k] :: ps.drop (k + 1)) := by simp
  have hl : (flat (ps.take k)).length = k * 65 := by rw [flat_length n _ (good_take h), List.length_take, Nat.min_eq_left (by omega)]
  have e1 : flat ps = flat (ps.take k) ++ (wcells ps[k] ++ flat (ps.drop (k + 1))) := by
    have : flat ps = flat (ps.take k ++ (ps[k] :: ps.drop (k + 1))) := by rw [← e]
    rw [this, flat_append]; rfl
  have e2 : ps.getD k (0, []) = ps[k] := by simp [List.getD_eq_getElem?_getD, hk]
  have hw : (wcells ps[k]).length = 65 := by
    have := (h k hk).2.2
    rw [e2] at this
    simp only [wcells, List.length_cons, List.length_map, this]
  rw [e1, e2, List.getElem?_append_right (by omega), hl, Nat.add_sub_cancel_left, List.getElem?_append_left (by omega)]

theorem Dev.lt {w : World} {base p : Nat} {d : Dsk} (h : Dev w base p d) : p < w.heap.size := by
  obtain ⟨_, _, _, _, hb, _⟩ := h
  exact (Array.getElem?_eq_some_iff.1 hb).1

end Go.Proofs.Ytplfehjaakkldaa
