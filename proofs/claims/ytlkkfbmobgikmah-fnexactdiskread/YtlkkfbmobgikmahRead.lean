/- What a reader sees: the device's has, read and bytesOf; DiskRead of the program. -/
import Derived.Test.YtlkkfbmobgikmahDev
import Derived.Laws.ResultCell
namespace Go.Proofs.Ytlkkfbmobgikmah
open Go.RowKit

/-- The data of the last write of a block, or else what is given. -/
def seeTo (ps : List Wr) (at' : Int) (dflt : List Int) : List Int := ps.foldl (fun acc p => if p.1 = at' then p.2 else acc) dflt
theorem seeTo_none (ps : List Wr) (a : Int) (dflt : List Int) (h : ∀ j, j < ps.length → (ps.getD j (0, [])).1 ≠ a) : seeTo ps a dflt = dflt := by
  induction ps generalizing dflt with
  | nil => rfl
  | cons p r ih =>
    have h0 : p.1 ≠ a := by simpa using h 0 (by simp)
    have hr := ih dflt (fun j hj => by simpa using h (j + 1) (by simpa using hj))
    simp only [seeTo, List.foldl_cons, if_neg h0] at *
    exact hr
theorem seeTo_append (xs ys : List Wr) (a : Int) (dflt : List Int) : seeTo (xs ++ ys) a dflt = seeTo ys a (seeTo xs a dflt) := by simp [seeTo]
theorem seeTo_hit (ps : List Wr) (a : Int) (dflt : List Int) (k : Nat) (hk : k < ps.length) (he : (ps.getD k (0, [])).1 = a) (h : ∀ j, k < j → j < ps.length → (ps.getD j (0, [])).1 ≠ a) : seeTo ps a dflt = (ps.getD k (0, [])).2 := by
  have e : ps = ps.take (k + 1) ++ ps.drop (k + 1) := (List.take_append_drop _ _).symm
  have e0 : seeTo ps a dflt = seeTo (ps.drop (k + 1)) a (seeTo (ps.take (k + 1)) a dflt) := by rw [← seeTo_append, ← e]
  rw [e0, seeTo_none (ps.drop (k + 1)), List.take_succ_eq_append_getElem hk, seeTo_append]
  · have e2 : ps.getD k (0, []) = ps[k] := by simp [List.getD_eq_getElem?_getD, hk]
    rw [e2] at he ⊢
    simp [seeTo, he]
  · intro j hj
    rw [List.length_drop] at hj
    have := h (k + 1 + j) (by omega) (by omega)
    simpa [List.getD_eq_getElem?_getD, List.getElem?_drop] using this

/-- Block a of a disk as a reader sees it. -/
def see (d : Dsk) (a : Nat) : List Int := seeTo d.pend (a : Int) ((d.dur.drop (a * 64)).take 64)
theorem see_length {d : Dsk} (hv : Valid d) (a : Nat) (h : a < d.dur.length / 64) : (see d a).length = 64 := by
  unfold see
  have h0 : ((d.dur.drop (a * 64)).take 64).length = 64 := by
    rw [List.length_take, List.length_drop]
    omega
  have hg := hv.2.2.2.2
  generalize (d.dur.drop (a * 64)).take 64 = x at *
  generalize d.pend = ps at *
  induction ps generalizing x with
  | nil => exact h0
  | cons p r ih =>
    have hp : p.2.length = 64 := by have := (hg 0 (by simp)).2.2; simpa using this
    have hr : ∀ i, i < r.length → Good (d.dur.length / 64) (r.getD i (0, [])) := fun i hi => by have := hg (i + 1) (by simpa using hi); simpa using this
    simp only [seeTo, List.foldl_cons]
    split
    · exact ih p.2 hp hr
    · exact ih x h0 hr

theorem results_block {P : Program} {fn : Func} {p : Tmp} {ty : TypeId} {w : World} {tmps : Array Value} {a : Addr} {v : Value} (h : fn.results = #[.cell p ty]) (ht : tmps.getD p undef = .pointer (some a)) (hl : (loadVar ty a).run P w = .ok v w) :
    (results fn tmps).run P w = .ok v w := by
  have ht' : tmps[p]?.getD undef = .pointer (some a) := by simpa using ht
  simp only [results, h]
  simp [asAddr, ht', hl]

theorem Dev.rows {w : World} {base p : Nat} {d : Dsk} (h : Dev w base p d) : ∃ gD po m cap, Valid d ∧ base ≤ p ∧
    w.heap[p]? = some (.cells #[.slice (some ⟨gD, 0, none⟩) (d.dur.length / 64) (d.dur.length / 64), .slice po m cap] 77 (0, 0)) ∧ base ≤ gD ∧ m = d.pend.length ∧
    (∀ j, j < d.dur.length → w.cell? ⟨gD, j, none⟩ = some (.int .u8 (d.dur.getD j 0))) ∧
    (0 < d.pend.length → ∃ gP, po = some ⟨gP, 0, none⟩ ∧ base ≤ gP ∧ ∀ j v, (flat d.pend)[j]? = some v → w.cell? ⟨gP, j, none⟩ = some v) := by
  obtain ⟨gD, pv, hv, hp, hb, hd, hpd⟩ := h
  have hd' := hd
  have hpd' := hpd
  have hc : ∀ j, j < d.dur.length → w.cell? ⟨gD, j, none⟩ = some (.int .u8 (d.dur.getD j 0)) := by
    intro j hj
    have h1 := hv.1
    rw [World.ownsRow.cellAt hd j (by omega)]
    simp [List.getD_eq_getElem?_getD, hj]
  have hg : base ≤ gD := (World.ownsRow.lt hd gD rfl).1
  rcases hpd.2 with ⟨e, h0⟩ | ⟨gP, cap, cur, e, hgP, _⟩
  · subst e
    exact ⟨gD, _, _, _, hv, hp, hb, hg, h0.symm, hc, fun h => by omega⟩
  · subst e
    refine ⟨gD, _, _, _, hv, hp, hb, hg, rfl, hc, fun h => ⟨gP, rfl, hgP, fun j v hj => ?_⟩⟩
    have hl := hpd'.1
    rw [World.ownsRow.cellAt hpd' j (by rw [← hl]; exact (List.getElem?_eq_some_iff.1 hj).1)]
    exact hj

theorem there_new (w : World) (c : Array Value) (t : TypeId) (n : Nat) (hn : c.size = n) : (w.alloc (.cells c t)).there w.heap.size 0 n := by
  intro j hj
  have hh := heap_new w (.cells c t)
  constructor
  · rw [World.cell?, hh]; simp; omega
  · rw [World.frozen?, hh]; simp
theorem ret_bool {a b : Bool} (h : a = b) : Ending.returned (.bool a) = .returned (.bool b) := by rw [h]

set_option maxHeartbeats 400000 in
theorem has_yes (w : World) {base p : Nat} {d : Dsk} (a : Int) (h : Dev w base p d) (h1 : 0 ≤ a) (h2 : a < ((d.dur.length / 64 : Nat) : Int)) :
    Calls Try.prog 36 #[.pointer (some ⟨p, 0, none⟩), .int .i64 a] w fun e w' => e = .returned (.bool true) ∧ w' = w := by
  obtain ⟨gD, po, m, cap, hv, hp, hb, _, _, _, _⟩ := h.rows
  obtain ⟨c0, _, _, _⟩ := two_cells hb
  have hn := hv.2.2.1
  clear hb h hv
  go_enter Try.func36, Try.ntmps36
  go_wp2
  go_ret
  exact ⟨ret_bool (by simp; omega), rfl⟩

set_option maxHeartbeats 400000 in
theorem has_no (w : World) {base p : Nat} {d : Dsk} (a : Int) (h : Dev w base p d) (h0 : a < 0 ∨ ((d.dur.length / 64 : Nat) : Int) ≤ a) :
    Calls Try.prog 36 #[.pointer (some ⟨p, 0, none⟩), .int .i64 a] w fun e w' => e = .returned (.bool false) ∧ w' = w := by
  obtain ⟨gD, po, m, cap, hv, hp, hb, _, _, _, _⟩ := h.rows
  obtain ⟨c0, _, _, _⟩ := two_cells hb
  have hn := hv.2.2.1
  clear hb h hv
  by_cases h1 : 0 ≤ a
  · have h2 : ((d.dur.length / 64 : Nat) : Int) ≤ a := by omega
    go_enter Try.func36, Try.ntmps36
    go_wp2
    go_ret
    exact ⟨ret_bool (by simp; omega), rfl⟩
  · have h1' : decide (0 ≤ a) = false := by simpa using h1
    go_enter Try.func36, Try.ntmps36
    go_wp2
    go_ret
    exact ⟨rfl, rfl⟩

/-- The 64 cells of a block, as they lie in the rows. -/
theorem flat_getElem {n : Nat} (ps : List Wr) (h : ∀ i, i < ps.length → Good n (ps.getD i (0, []))) (k j : Nat) (hk : k < ps.length) (hj : j < 65) : (flat ps)[k * 65 + j]? = (wcells (ps.getD k (0, [])))[j]? := by
  have e : ps = ps.take k ++ (ps[k] :: ps.drop (k + 1)) := by simp
  have hl : (flat (ps.take k)).length = k * 65 := by rw [flat_length n _ (good_take h), List.length_take, Nat.min_eq_left (by omega)]
  have e1 : flat ps = flat (ps.take k) ++ (wcells ps[k] ++ flat (ps.drop (k + 1))) := by
    have : flat ps = flat (ps.take k ++ (ps[k] :: ps.drop (k + 1))) := by rw [← e]
    rw [this, flat_append]; rfl
  have e2 : ps.getD k (0, []) = ps[k] := by simp [List.getD_eq_getElem?_getD, hk]
  have hw : (wcells ps[k]).length = 65 := by
    have := (h k hk).2.2
    rw [e2] at this
    simp only [wcells, List.length_cons, List.length_map, this]
  rw [e1, e2, List.getElem?_append_right (by omega), hl, Nat.add_sub_cancel_left, List.getElem?_append_left (by omega)]

set_option maxHeartbeats 1000000 in
theorem read_calls (w : World) {base p : Nat} {d : Dsk} (a : Nat) (h : Dev w base p d) (ha : a < d.dur.length / 64) (hps : p < w.heap.size) :
    Calls Try.prog 38 #[.pointer (some ⟨p, 0, none⟩), .int .i64 a] w fun e w' => e = .returned (.agg ((see d a).map (Value.int .u8)).toArray) ∧ Chg 0 0 w w' := by
  obtain ⟨gD, po, m, cap, hv, hp, hb, hgD, rfl, hdur, hpend⟩ := h.rows
  obtain ⟨c0, c1, _, _⟩ := two_cells hb
  have hn := hv.2.2.1
  have hm := hv.2.2.2.1
  go_enter Try.func38, Try.ntmps38
  go_wp2
  generalize hW : World.alloc w _ = W0
  have T0 : W0.there w.heap.size 0 64 := by rw [← hW]; exact there_new w _ _ 64 rfl
  have C0 : Chg 0 0 w W0 := by rw [← hW]; exact Chg.alloc (Chg.refl 0 0 w) _
  clear hW
  have c0 := C0.cell c0 (by omega)
  have c1 := C0.cell c1 (by omega)
  have u1 := Try.underlying65
  have HD : Hid (∀ j, j < d.dur.length → W0.cell? ⟨gD, j, none⟩ = some (.int .u8 (d.dur.getD j 0))) := fun j hj => C0.cell (hdur j hj) (by omega)
  have HP : Hid (0 < d.pend.length → ∃ gP, po = some ⟨gP, 0, none⟩ ∧ base ≤ gP ∧ ∀ j v, (flat d.pend)[j]? = some v → W0.cell? ⟨gP, j, none⟩ = some v) := by
    intro h0
    obtain ⟨gP, e, h1, h2⟩ := hpend h0
    exact ⟨gP, e, h1, fun j v hj => C0.cell (h2 j v hj) (by omega)⟩
  have HV : Hid (Valid d) := hv
  have HL := see_length hv a ha
  have HLen : Hid ((see d a).length = 64) := HL
  have HC0 : Hid (Chg 0 0 w W0) := C0
  have HT0 : Hid (W0.there w.heap.size 0 64) := T0
  clear hdur hpend hb h hv HL C0 T0
  -- the end: the block that is told lies in the result's own block
  have fin : ∀ cs : List Value, cs = (see d a).map (Value.int .u8) → (loadVar 65 ⟨w.heap.size, 0, none⟩).run Try.prog (W0.setCells w.heap.size 0 cs) = .ok (.agg ((see d a).map (Value.int .u8)).toArray) (W0.setCells w.heap.size 0 cs) := by
    intro cs hcs
    have hl : cs.length = 64 := by rw [hcs]; simpa using HLen.out
    rw [← hcs]
    exact run_loadVar_mid _ _ _ _ cs _ (World.rangeAt_setCells_same _ _ _ _ (by rw [hl]; exact HT0.out)) u1 rfl (by rw [hl]; kernel_rfl)
  have Hfin : Hid (∀ cs : List Value, cs = (see d a).map (Value.int .u8) → (loadVar 65 ⟨w.heap.size, 0, none⟩).run Try.prog (W0.setCells w.heap.size 0 cs) = .ok (.agg ((see d a).map (Value.int .u8)).toArray) (W0.setCells w.heap.size 0 cs)) := fin
  have HChg : Hid (∀ cs : List Value, Chg 0 0 w (W0.setCells w.heap.size 0 cs)) := fun cs => HC0.out.step (Chg.setCells w.heap.size cs 0 W0) (Or.inr (Or.inl (Nat.le_refl _)))
  clear fin HC0
  go_loop [5] (fun i => ∃ k : Nat, k ≤ d.pend.length ∧ i = .int .i64 ((k : Int) - 1) ∧ ∀ j, k ≤ j → j < d.pend.length → (d.pend.getD j (0, [])).1 ≠ (a : Int)) (fun i => (intOf i + 1).toNat)
  case atStart => exact ⟨d.pend.length, Nat.le_refl _, rfl, by intro j h1 h2; omega⟩
  case round =>
    obtain ⟨k, hk, rfl, hno⟩ := hrel
    have HNo : Hid (∀ j, k ≤ j → j < d.pend.length → (d.pend.getD j (0, [])).1 ≠ (a : Int)) := hno
    clear hno
    cases k with
    | zero =>
      have hsee : see d a = (d.dur.drop (a * 64)).take 64 := by unfold see; exact seeTo_none _ _ _ (fun j hj => HNo.out j (by omega) hj)
      obtain ⟨cs, hcs⟩ : ∃ cs, cs = (see d a).map (Value.int .u8) := ⟨_, rfl⟩
      have L1 : cs.length = 64 := by rw [hcs]; simpa using HLen.out
      have L2 : ∀ v ∈ cs, v.oneCell' = true := by rw [hcs]; exact ints_oneCell _ _
      have R0 : W0.rangeAt gD (a * 64) cs := by
        intro j v hj
        have hj64 : j < 64 := by have := (List.getElem?_eq_some_iff.1 hj).1; omega
        rw [HD.out (a * 64 + j) (by omega), ← hj, hcs, hsee, List.getElem?_map, List.getElem?_take, if_pos hj64, List.getElem?_drop]
        simp only [List.getD_eq_getElem?_getD]
        rw [List.getElem?_eq_getElem (show a * 64 + j < d.dur.length by omega)]
        rfl
      have HR0 : Hid (W0.rangeAt gD (a * 64) cs) := R0
      have HL2 : Hid (∀ v ∈ cs, v.oneCell' = true) := L2
      have HL1 : Hid (cs.length = 64) := L1
      have e64 : cs.toArray.size = 64 := by simpa using L1
      have HT1 : Hid (W0.there w.heap.size 0 cs.toArray.size) := by show World.there _ _ _ _; rw [e64]; exact HT0.out
      have HI1 : Hid ((Try.prog.info? 65).map (·.size) = some cs.toArray.size) := by show _ = _; rw [e64]; kernel_rfl
      clear e64
      have hfi := Hfin.out cs hcs
      have Hfi : Hid (_ = _) := hfi
      have hcg := HChg.out cs
      clear R0 L1 L2 hcs hsee HD HP HV HNo hfi Hfin HChg
      have hai : (a : Int) < ((d.dur.length / 64 : Nat) : Int) := by omega
      go_wp2_with (first
        | (refine wpList_load_mid rfl 65 (.tmp 39) rfl gD (a * 64) rfl cs _ HR0.out u1 rfl (by rw [HL1.out]; kernel_rfl) ?_)
        | (refine wpList_store_mid rfl 65 (.tmp 4) (.tmp 40) rfl w.heap.size 0 cs.toArray rfl rfl HT1.out HI1.out (all_oneCell_toArray HL2.out) ?_))
      exact bodyPost_ret (results_block Try.results38 rfl Hfi.out) rfl ⟨rfl, hcg⟩
    | succ k =>
      obtain ⟨gP, rfl, hgP, hcel⟩ := HP.out (by omega)
      have e0 := flat_getElem d.pend HV.out.2.2.2.2 k 0 (by omega) (by omega)
      have hq : W0.cell? ⟨gP, k * 65, none⟩ = some (.int .i64 (d.pend.getD k (0, [])).1) := hcel (k * 65) _ (by rw [show k * 65 = k * 65 + 0 from rfl, e0]; rfl)
      have hik : (k : Int) < (d.pend.length : Int) := by omega
      rw [show ((k + 1 : Nat) : Int) - 1 = (k : Int) from by omega]
      by_cases hit : (d.pend.getD k (0, [])).1 = (a : Int)
      · have hsee : see d a = (d.pend.getD k (0, [])).2 := by unfold see; exact seeTo_hit _ _ _ k (by omega) hit (fun j h1 h2 => HNo.out j (by omega) h2)
        obtain ⟨cs, hcs⟩ : ∃ cs, cs = (see d a).map (Value.int .u8) := ⟨_, rfl⟩
        have L1 : cs.length = 64 := by rw [hcs]; simpa using HLen.out
        have L2 : ∀ v ∈ cs, v.oneCell' = true := by rw [hcs]; exact ints_oneCell _ _
        have R0 : W0.rangeAt gP (k * 65 + 1) cs := by
          intro j v hj
          have hj64 : j < 64 := by have := (List.getElem?_eq_some_iff.1 hj).1; omega
          rw [Nat.add_assoc]
          refine hcel _ _ ?_
          rw [flat_getElem d.pend HV.out.2.2.2.2 k (1 + j) (by omega) (by omega), ← hj, hcs, hsee, Nat.add_comm 1 j]
          rfl
        have HR0 : Hid (W0.rangeAt gP (k * 65 + 1) cs) := R0
        have HL2 : Hid (∀ v ∈ cs, v.oneCell' = true) := L2
        have HL1 : Hid (cs.length = 64) := L1
        have e64 : cs.toArray.size = 64 := by simpa using L1
        have HT1 : Hid (W0.there w.heap.size 0 cs.toArray.size) := by show World.there _ _ _ _; rw [e64]; exact HT0.out
        have HI1 : Hid ((Try.prog.info? 65).map (·.size) = some cs.toArray.size) := by show _ = _; rw [e64]; kernel_rfl
        clear e64
        have hfi := Hfin.out cs hcs
        have Hfi : Hid (_ = _) := hfi
        have hcg := HChg.out cs
        have hb1 : ((d.pend.getD k (0, [])).1 == (a : Int)) = true := by rw [beq_iff_eq]; exact hit
        generalize (d.pend.getD k (0, [])).1 = q at *
        clear R0 L1 L2 hcs hsee HD HP HV HNo hfi Hfin HChg hcel e0 hit
        go_wp2_with (first
          | (refine wpList_load_mid rfl 65 (.tmp 32) rfl gP (k * 65 + 1) rfl cs _ HR0.out u1 rfl (by rw [HL1.out]; kernel_rfl) ?_)
          | (refine wpList_store_mid rfl 65 (.tmp 4) (.tmp 33) rfl w.heap.size 0 cs.toArray rfl rfl HT1.out HI1.out (all_oneCell_toArray HL2.out) ?_))
        exact bodyPost_ret (results_block Try.results38 rfl Hfi.out) rfl ⟨rfl, hcg⟩
      · have hb1 : ((d.pend.getD k (0, [])).1 == (a : Int)) = false := by rw [beq_eq_false_iff_ne]; exact hit
        have HN2 : Hid (∀ j, k ≤ j → j < d.pend.length → (d.pend.getD j (0, [])).1 ≠ (a : Int)) := by
          intro j h1 h2
          by_cases e : j = k
          · subst e; exact hit
          · exact HNo.out j (by omega) h2
        generalize (d.pend.getD k (0, [])).1 = q at *
        clear HD HP HV HNo Hfin HChg hcel e0 hit HLen HT0
        go_wp2
        go_round
        case rel => exact ⟨k, by omega, by go_num, HN2.out⟩
        case measure => simp [intOf]

theorem Try.infoU : (Try.prog.info? 5).map (fun i => (i.zero, i.size, i.bytes)) = some (some (.int .u8 0), 1, 1) := by kernel_rfl

set_option maxHeartbeats 1000000 in
theorem bytesOf_calls (w : World) (xs : List Int) (hx : xs.length = 64) :
    Calls Try.prog 37 #[.agg (xs.map (Value.int .u8)).toArray] w fun e w' => ∃ g, e = .returned (.slice (some ⟨g, 0, none⟩) 64 64) ∧ OwnB w' w.heap.size 5 (.slice (some ⟨g, 0, none⟩) 64 64) xs ∧ Chg 0 0 w w' := by
  obtain ⟨i, hi, hz0, hz1, hz2⟩ := info_parts Try.infoU
  obtain ⟨cs, hcs⟩ : ∃ cs, cs = xs.map (Value.int .u8) := ⟨_, rfl⟩
  rw [← hcs]
  have L1 : cs.length = 64 := by rw [hcs]; simpa using hx
  have L2 : ∀ v ∈ cs, v.oneCell' = true := by rw [hcs]; exact ints_oneCell _ _
  have HL1 : Hid (cs.length = 64) := L1
  have HL2 : Hid (∀ v ∈ cs, v.oneCell' = true) := L2
  have Hcs : Hid (cs = xs.map (Value.int .u8)) := hcs
  have Hx : Hid (xs.length = 64) := hx
  have B0 := heap_new w (.cells cs.toArray 65)
  have HB0 : Hid ((w.alloc (.cells cs.toArray 65)).heap[w.heap.size]? = some (.cells cs.toArray 65 (0, 0))) := B0
  clear L1 L2 hcs hx B0
  go_enter Try.func37, Try.ntmps37
  go_wp2_with (at_make; refine wpList_make_full _ rfl _ _ 26 rfl w.heap.size 5 i (.int .u8 0) 1 Try.underlying26 hi hz0 hz1 _ _ _ _ 64 rfl rfl rfl rfl (by rw [hz2]; omega) (by unfold maxLen; omega) (by simp) ?_)
  intro w1 hown hgrow
  obtain ⟨cur, hg, hcz⟩ : ∃ cur, w1.heap[w.heap.size + 1]? = some (.cells cur 5 (0, 0)) ∧ cur.size = 64 := by
    rcases hown.2 with ⟨h', _⟩ | ⟨g', cap', cur, h', hb, hg, _, _, hs, _⟩
    · cases h'
    · simp only [Value.slice.injEq, Option.some.injEq, Addr.mk.injEq, and_true, true_and] at h'
      obtain ⟨rfl, rfl⟩ := h'
      exact ⟨cur, hg, by simpa using hs⟩
  have hbx : w1.heap[w.heap.size]? = some (.cells cs.toArray 65 (0, 0)) := (hgrow.block w.heap.size (by simp) (by simp)).trans HB0.out
  have C1 : Chg 0 0 w w1 := (Chg.alloc (Chg.refl 0 0 w) _).trans (Chg.ofGrown hgrow (by simp))
  have hsrc : ∀ j v, cs[j]? = some v → w1.cell? ((⟨w.heap.size, 0, none⟩ : Addr).add j) = some v := by
    intro j v hj
    rw [Addr.add_mid, Nat.zero_add, cell_of_row w1 w.heap.size j cs.toArray 65 (0, 0) hbx]
    simpa using hj
  have Hg : Hid (w1.heap[w.heap.size + 1]? = some (.cells cur 5 (0, 0))) := hg
  have Hcz : Hid (cur.size = 64) := hcz
  have Hsrc : Hid (∀ j v, cs[j]? = some v → w1.cell? ((⟨w.heap.size, 0, none⟩ : Addr).add j) = some v) := hsrc
  have hrow : cur.toList.take 0 ++ (cs ++ cur.toList.drop (0 + cs.length)) = cs := by
    rw [List.take_zero, List.nil_append, Nat.zero_add, List.drop_of_length_le (by rw [Array.length_toList, hcz, HL1.out]; exact Nat.le_refl _), List.append_nil]
  have Hrow : Hid (cur.toList.take 0 ++ (cs ++ cur.toList.drop (0 + cs.length)) = cs) := hrow
  clear hown hgrow hg hcz hsrc hbx hrow HB0
  go_wp2_with (refine wpList_copy_own rfl (.tmp 5) (.tmp 6) 26 26 rfl 5 Try.underlying26 (by kernel_rfl) (w.heap.size + 1) 0 64 64 ⟨w.heap.size, 0, none⟩ 64 64 rfl rfl cur 5 Hg.out cs (by rw [HL1.out]; rfl) Hsrc.out (by rw [HL1.out, Hcz.out]; omega) HL2.out ?_; rw [Hrow.out])
  have HO : Hid (OwnB (w1.setRow (w.heap.size + 1) cs.toArray) w.heap.size 5 (.slice (some ⟨w.heap.size + 1, 0, none⟩) 64 64) xs) := by
    show OwnB _ _ _ _ _
    unfold OwnB
    rw [Hx.out, ← Hcs.out]
    refine ⟨by rw [HL1.out], Or.inr ⟨w.heap.size + 1, 64, cs.toArray, rfl, by omega, setRow_heap _ _ _ _ _ _ Hg.out, Nat.le_refl _, by unfold maxLen; omega, by simpa using HL1.out, ?_⟩⟩
    exact List.take_of_length_le (by simp [HL1.out])
  have HC : Hid (Chg 0 0 w (w1.setRow (w.heap.size + 1) cs.toArray)) := C1.step (Chg.setRow _ _ _) (Or.inr (Or.inl (by omega)))
  clear C1 Hg Hcz Hsrc Hrow
  go_ret
  exact ⟨_, rfl, HO.out, HC.out⟩

/-- What DiskRead tells. -/
def readD (d : Dsk) (b : Int) : List Int := if validB d = true ∧ 0 ≤ b ∧ b < ((d.dur.length / 64 : Nat) : Int) then see d b.toNat else []

theorem Dev.lt {w : World} {base p : Nat} {d : Dsk} (h : Dev w base p d) : p < w.heap.size := by
  obtain ⟨_, _, _, _, hb, _⟩ := h
  exact (Array.getElem?_eq_some_iff.1 hb).1

set_option maxHeartbeats 1000000 in
theorem implRead_calls (w : World) {lo hi : Nat} {a : Value} {d : Dsk} (b : Int) (h1 : DView w lo hi a d) :
    Calls Try.prog 17 #[a, .int .i64 b] w fun e w' => ∃ v, e = .returned v ∧ OwnB w' w.heap.size 5 v (readD d b) ∧ Chg 0 0 w w' := by
  have d0 := h1
  obtain ⟨dv, pv, rfl, v1, p1⟩ := h1
  obtain ⟨ao, cap, rfl, _, _, _⟩ := v1
  obtain ⟨po, pcap, rfl, _, _, _⟩ := p1
  have hA : Chg 0 0 w (w.alloc (.cells #[.slice ao d.dur.length cap, .slice po d.pend.length pcap] 42)) := Chg.alloc (Chg.refl 0 0 w) _
  have dA := d0.chg hA (by omega)
  cases hV : validB d with
  | false =>
    have hR : readD d b = [] := by unfold readD; rw [if_neg (by rw [hV]; simp)]
    rw [hR]
    go_enter Try.func17, Try.ntmps17
    go_wp2_with fail
    refine (openDevice_no _ dA hV).mono ?_
    rintro e w1 ⟨rfl, hc⟩
    have hch := hA.trans hc
    clear hc hA dA d0 hR
    go_wp2
    go_ret
    exact ⟨_, rfl, OwnB.nil _ _ _, hch⟩
  | true =>
    have hVal := (validB_iff d).1 hV
    by_cases hb : 0 ≤ b ∧ b < ((d.dur.length / 64 : Nat) : Int)
    · have hR : readD d b = see d b.toNat := by unfold readD; rw [if_pos ⟨hV, hb⟩]
      have hlen := see_length hVal b.toNat (by omega)
      rw [hR]
      have Hlen : Hid ((see d b.toNat).length = 64) := hlen
      clear hR hlen hV
      go_enter Try.func17, Try.ntmps17
      go_wp2_with fail
      refine (openDevice_yes _ dA hVal).mono ?_
      rintro e w1 ⟨p, rfl, hdev, hc⟩
      have hch := hA.trans hc
      have hsz := hch.size
      clear hc hA dA d0 hVal
      go_wp2_with fail
      refine (has_yes _ b hdev hb.1 hb.2).mono ?_
      rintro e w2 ⟨rfl, rfl⟩
      go_wp2_with fail
      obtain ⟨n, rfl⟩ := Int.eq_ofNat_of_zero_le hb.1
      rw [Int.toNat_natCast] at Hlen
      have hn : n < d.dur.length / 64 := by omega
      refine (read_calls _ n hdev hn hdev.lt).mono ?_
      rintro e w3 ⟨rfl, h3⟩
      have hch3 := hch.trans h3
      have hsz3 := hch3.size
      clear h3 hch hdev
      go_wp2_with fail
      refine (bytesOf_calls _ _ Hlen.out).mono ?_
      rintro e w4 ⟨g, rfl, ho, h4⟩
      have HO : Hid (OwnB w4 w.heap.size 5 (.slice (some ⟨g, 0, none⟩) 64 64) (see d n)) := ho.base (fun g' hg' => Nat.le_trans hsz3 (ho.lt g' hg').1)
      have hch4 := hch3.trans h4
      clear h4 hch3 ho
      go_wp2
      go_ret
      exact ⟨_, rfl, HO.out, hch4⟩
    · have hR : readD d b = [] := by unfold readD; rw [if_neg (fun h => hb h.2)]
      rw [hR]
      clear hR hV
      go_enter Try.func17, Try.ntmps17
      go_wp2_with fail
      refine (openDevice_yes _ dA hVal).mono ?_
      rintro e w1 ⟨p, rfl, hdev, hc⟩
      have hch := hA.trans hc
      clear hc hA dA d0 hVal
      go_wp2_with fail
      refine (has_no _ b hdev (by omega)).mono ?_
      rintro e w2 ⟨rfl, rfl⟩
      clear hdev
      go_wp2
      go_ret
      exact ⟨_, rfl, OwnB.nil _ _ _, hch⟩

end Go.Proofs.Ytlkkfbmobgikmah
