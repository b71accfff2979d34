/- The device's small parts: what lies in its rows, has, bytesOf. -/
import Derived.Test.YtajfobhbbjibcajDev
import Derived.Laws.ResultCell
namespace Go.Proofs.Ytajfobhbbjibcaj
open Go.RowKit

theorem results_block {P : Program} {fn : Func} {p : Tmp} {ty : TypeId} {w : World} {tmps : Array Value} {a : Addr} {v : Value} (h : fn.results = #[.cell p ty]) (ht : tmps.getD p undef = .pointer (some a)) (hl : (loadVar ty a).run P w = .ok v w) :
    (results fn tmps).run P w = .ok v w := by
  have ht' : tmps[p]?.getD undef = .pointer (some a) := by simpa using ht
  simp only [results, h]
  simp [asAddr, ht', hl]

theorem Dev.rows {w : World} {base p : Nat} {d : Dsk} (h : Dev w base p d) : ∃ gD po m cap, Valid d ∧ base ≤ p ∧
    w.heap[p]? = some (.cells #[.slice (some ⟨gD, 0, none⟩) (d.dur.length / 64) (d.dur.length / 64), .slice po m cap] 89 (0, 0)) ∧ base ≤ gD ∧ m = d.pend.length ∧
    (∀ j, j < d.dur.length → w.cell? ⟨gD, j, none⟩ = some (.int .u8 (d.dur.getD j 0))) ∧
    (0 < d.pend.length → ∃ gP, po = some ⟨gP, 0, none⟩ ∧ base ≤ gP ∧ ∀ j v, (flat d.pend)[j]? = some v → w.cell? ⟨gP, j, none⟩ = some v) := by
  obtain ⟨gD, pv, hv, hp, hb, hd, hpd⟩ := h
  have hd' := hd
  have hpd' := hpd
  have hc : ∀ j, j < d.dur.length → w.cell? ⟨gD, j, none⟩ = some (.int .u8 (d.dur.getD j 0)) := by
    intro j hj
    have h1 := hv.1
    rw [World.ownsRow.cellAt hd j (by omega)]
    simp [List.getD_eq_getElem?_getD, hj]
  have hg : base ≤ gD := (World.ownsRow.lt hd gD rfl).1
  rcases hpd.2 with ⟨e, h0⟩ | ⟨gP, cap, cur, e, hgP, _⟩
  · subst e
    exact ⟨gD, _, _, _, hv, hp, hb, hg, h0.symm, hc, fun h => by omega⟩
  · subst e
    refine ⟨gD, _, _, _, hv, hp, hb, hg, rfl, hc, fun h => ⟨gP, rfl, hgP, fun j v hj => ?_⟩⟩
    have hl := hpd'.1
    rw [World.ownsRow.cellAt hpd' j (by rw [← hl]; exact (List.getElem?_eq_some_iff.1 hj).1)]
    exact hj

theorem there_new (w : World) (c : Array Value) (t : TypeId) (n : Nat) (hn : c.size = n) : (w.alloc (.cells c t)).there w.heap.size 0 n := by
  intro j hj
  have hh := heap_new w (.cells c t)
  constructor
  · rw [World.cell?, hh]; simp; omega
  · rw [World.frozen?, hh]; simp

theorem ret_bool {a b : Bool} (h : a = b) : Ending.returned (.bool a) = .returned (.bool b) := by rw [h]

set_option maxRecDepth 20000 in
set_option maxHeartbeats 400000 in
theorem has_yes (w : World) {base p : Nat} {d : Dsk} (a : Int) (h : Dev w base p d) (h1 : 0 ≤ a) (h2 : a < ((d.dur.length / 64 : Nat) : Int)) :
    Calls Try.prog 54 #[.pointer (some ⟨p, 0, none⟩), .int .i64 a] w fun e w' => e = .returned (.bool true) ∧ w' = w := by
  obtain ⟨gD, po, m, cap, hv, hp, hb, _, _, _, _⟩ := h.rows
  obtain ⟨c0, _, _, _⟩ := two_cells hb
  have hn := hv.2.2.1
  clear hb h hv
  go_enter Try.func54, Try.ntmps54
  go_wp2
  go_ret
  exact ⟨ret_bool (by simp; omega), rfl⟩

set_option maxRecDepth 20000 in
set_option maxHeartbeats 400000 in
theorem has_no (w : World) {base p : Nat} {d : Dsk} (a : Int) (h : Dev w base p d) (h0 : a < 0 ∨ ((d.dur.length / 64 : Nat) : Int) ≤ a) :
    Calls Try.prog 54 #[.pointer (some ⟨p, 0, none⟩), .int .i64 a] w fun e w' => e = .returned (.bool false) ∧ w' = w := by
  obtain ⟨gD, po, m, cap, hv, hp, hb, _, _, _, _⟩ := h.rows
  obtain ⟨c0, _, _, _⟩ := two_cells hb
  have hn := hv.2.2.1
  clear hb h hv
  by_cases h1 : 0 ≤ a
  · have h2 : ((d.dur.length / 64 : Nat) : Int) ≤ a := by omega
    go_enter Try.func54, Try.ntmps54
    go_wp2
    go_ret
    exact ⟨ret_bool (by simp; omega), rfl⟩
  · have h1' : decide (0 ≤ a) = false := by simpa using h1
    go_enter Try.func54, Try.ntmps54
    go_wp2
    go_ret
    exact ⟨rfl, rfl⟩

/-- The 64 cells of a block, as they lie in the rows. -/
theorem flat_getElem {n : Nat} (ps : List Wr) (h : ∀ i, i < ps.length → Good n (ps.getD i (0, []))) (k j : Nat) (hk : k < ps.length) (hj : j < 65) : (flat ps)[k * 65 + j]? = (wcells (ps.getD k (0, [])))[j]? := by
  have e : ps = ps.take k ++ (ps[k] :: ps.drop (k + 1)) := by simp
  have hl : (flat (ps.take k)).length = k * 65 := by rw [flat_length n _ (good_take h), List.length_take, Nat.min_eq_left (by omega)]
  have e1 : flat ps = flat (ps.take k) ++ (wcells ps[k] ++ flat (ps.drop (k + 1))) := by
    have : flat ps = flat (ps.take k ++ (ps[k] :: ps.drop (k + 1))) := by rw [← e]
    rw [this, flat_append]; rfl
  have e2 : ps.getD k (0, []) = ps[k] := by simp [List.getD_eq_getElem?_getD, hk]
  have hw : (wcells ps[k]).length = 65 := by
    have := (h k hk).2.2
    rw [e2] at this
    simp only [wcells, List.length_cons, List.length_map, this]
  rw [e1, e2, List.getElem?_append_right (by omega), hl, Nat.add_sub_cancel_left, List.getElem?_append_left (by omega)]

theorem Try.infoU : (Try.prog.info? 5).map (fun i => (i.zero, i.size, i.bytes)) = some (some (.int .u8 0), 1, 1) := by kernel_rfl

set_option maxRecDepth 20000 in
set_option maxHeartbeats 1000000 in
theorem bytesOf_calls (w : World) (xs : List Int) (hx : xs.length = 64) :
    Calls Try.prog 55 #[.agg (xs.map (Value.int .u8)).toArray] w fun e w' => ∃ g, e = .returned (.slice (some ⟨g, 0, none⟩) 64 64) ∧ OwnB w' w.heap.size 5 (.slice (some ⟨g, 0, none⟩) 64 64) xs ∧ Chg 0 0 w w' := by
  obtain ⟨i, hi, hz0, hz1, hz2⟩ := info_parts Try.infoU
  obtain ⟨cs, hcs⟩ : ∃ cs, cs = xs.map (Value.int .u8) := ⟨_, rfl⟩
  rw [← hcs]
  have L1 : cs.length = 64 := by rw [hcs]; simpa using hx
  have L2 : ∀ v ∈ cs, v.oneCell' = true := by rw [hcs]; exact ints_oneCell _ _
  have HL1 : Hid (cs.length = 64) := L1
  have HL2 : Hid (∀ v ∈ cs, v.oneCell' = true) := L2
  have Hcs : Hid (cs = xs.map (Value.int .u8)) := hcs
  have Hx : Hid (xs.length = 64) := hx
  have B0 := heap_new w (.cells cs.toArray 93)
  have HB0 : Hid ((w.alloc (.cells cs.toArray 93)).heap[w.heap.size]? = some (.cells cs.toArray 93 (0, 0))) := B0
  clear L1 L2 hcs hx B0
  go_enter Try.func55, Try.ntmps55
  go_wp2_with (at_make; refine wpList_make_full _ rfl _ _ 22 rfl w.heap.size 5 i (.int .u8 0) 1 Try.underlying22 hi hz0 hz1 _ _ _ _ 64 rfl rfl rfl rfl (by rw [hz2]; omega) (by unfold maxLen; omega) (by simp) ?_)
  intro w1 hown hgrow
  obtain ⟨cur, hg, hcz⟩ : ∃ cur, w1.heap[w.heap.size + 1]? = some (.cells cur 5 (0, 0)) ∧ cur.size = 64 := by
    rcases hown.2 with ⟨h', _⟩ | ⟨g', cap', cur, h', hb, hg, _, _, hs, _⟩
    · cases h'
    · simp only [Value.slice.injEq, Option.some.injEq, Addr.mk.injEq, and_true, true_and] at h'
      obtain ⟨rfl, rfl⟩ := h'
      exact ⟨cur, hg, by simpa using hs⟩
  have hbx : w1.heap[w.heap.size]? = some (.cells cs.toArray 93 (0, 0)) := (hgrow.block w.heap.size (by simp) (by simp)).trans HB0.out
  have C1 : Chg 0 0 w w1 := (Chg.alloc (Chg.refl 0 0 w) _).trans (Chg.ofGrown hgrow (by simp))
  have hsrc : ∀ j v, cs[j]? = some v → w1.cell? ((⟨w.heap.size, 0, none⟩ : Addr).add j) = some v := by
    intro j v hj
    rw [Addr.add_mid, Nat.zero_add, cell_of_row w1 w.heap.size j cs.toArray 93 (0, 0) hbx]
    simpa using hj
  have Hg : Hid (w1.heap[w.heap.size + 1]? = some (.cells cur 5 (0, 0))) := hg
  have Hcz : Hid (cur.size = 64) := hcz
  have Hsrc : Hid (∀ j v, cs[j]? = some v → w1.cell? ((⟨w.heap.size, 0, none⟩ : Addr).add j) = some v) := hsrc
  have hrow : cur.toList.take 0 ++ (cs ++ cur.toList.drop (0 + cs.length)) = cs := by
    rw [List.take_zero, List.nil_append, Nat.zero_add, List.drop_of_length_le (by rw [Array.length_toList, hcz, HL1.out]; exact Nat.le_refl _), List.append_nil]
  have Hrow : Hid (cur.toList.take 0 ++ (cs ++ cur.toList.drop (0 + cs.length)) = cs) := hrow
  clear hown hgrow hg hcz hsrc hbx hrow HB0
  go_wp2_with (refine wpList_copy_own rfl (.tmp 5) (.tmp 6) 22 22 rfl 5 Try.underlying22 (by kernel_rfl) (w.heap.size + 1) 0 64 64 ⟨w.heap.size, 0, none⟩ 64 64 rfl rfl cur 5 Hg.out cs (by rw [HL1.out]; rfl) Hsrc.out (by rw [HL1.out, Hcz.out]; omega) HL2.out ?_; rw [Hrow.out])
  have HO : Hid (OwnB (w1.setRow (w.heap.size + 1) cs.toArray) w.heap.size 5 (.slice (some ⟨w.heap.size + 1, 0, none⟩) 64 64) xs) := by
    show OwnB _ _ _ _ _
    unfold OwnB
    rw [Hx.out, ← Hcs.out]
    refine ⟨by rw [HL1.out], Or.inr ⟨w.heap.size + 1, 64, cs.toArray, rfl, by omega, setRow_heap _ _ _ _ _ _ Hg.out, Nat.le_refl _, by unfold maxLen; omega, by simpa using HL1.out, ?_⟩⟩
    exact List.take_of_length_le (by simp [HL1.out])
  have HC : Hid (Chg 0 0 w (w1.setRow (w.heap.size + 1) cs.toArray)) := C1.step (Chg.setRow _ _ _) (Or.inr (Or.inl (by omega)))
  clear C1 Hg Hcz Hsrc Hrow
  go_ret
  exact ⟨_, rfl, HO.out, HC.out⟩

theorem Dev.lt {w : World} {base p : Nat} {d : Dsk} (h : Dev w base p d) : p < w.heap.size := by
  obtain ⟨_, _, _, _, hb, _⟩ := h
  exact (Array.getElem?_eq_some_iff.1 hb).1

end Go.Proofs.Ytajfobhbbjibcaj
