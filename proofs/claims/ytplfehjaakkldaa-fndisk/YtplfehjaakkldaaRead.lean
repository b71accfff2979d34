/- What a reader sees: the device's read; DiskRead of the program. -/
import Derived.Test.YtplfehjaakkldaaBase
namespace Go.Proofs.Ytplfehjaakkldaa
open Go.RowKit

/-- The data of the last write of a block, or else what is given. -/
def seeTo (ps : List Wr) (at' : Int) (dflt : List Int) : List Int := ps.foldl (fun acc p => if p.1 = at' then p.2 else acc) dflt

theorem seeTo_none (ps : List Wr) (a : Int) (dflt : List Int) (h : ∀ j, j < ps.length → (ps.getD j (0, [])).1 ≠ a) : seeTo ps a dflt = dflt := by
  induction ps generalizing dflt with
  | nil => rfl
  | cons p r ih =>
    have h0 : p.1 ≠ a := by simpa using h 0 (by simp)
    have hr := ih dflt (fun j hj => by simpa using h (j + 1) (by simpa using hj))
    simp only [seeTo, List.foldl_cons, if_neg h0] at *
    exact hr

theorem seeTo_append (xs ys : List Wr) (a : Int) (dflt : List Int) : seeTo (xs ++ ys) a dflt = seeTo ys a (seeTo xs a dflt) := by simp [seeTo]

theorem seeTo_hit (ps : List Wr) (a : Int) (dflt : List Int) (k : Nat) (hk : k < ps.length) (he : (ps.getD k (0, [])).1 = a) (h : ∀ j, k < j → j < ps.length → (ps.getD j (0, [])).1 ≠ a) : seeTo ps a dflt = (ps.getD k (0, [])).2 := by
  have e : ps = ps.take (k + 1) ++ ps.drop (k + 1) := (List.take_append_drop _ _).symm
  have e0 : seeTo ps a dflt = seeTo (ps.drop (k + 1)) a (seeTo (ps.take (k + 1)) a dflt) := by rw [← seeTo_append, ← e]
  rw [e0, seeTo_none (ps.drop (k + 1)), List.take_succ_eq_append_getElem hk, seeTo_append]
  · have e2 : ps.getD k (0, []) = ps[k] := by simp [List.getD_eq_getElem?_getD, hk]
    rw [e2] at he ⊢
    simp [seeTo, he]
  · intro j hj
    rw [List.length_drop] at hj
    have := h (k + 1 + j) (by omega) (by omega)
    simpa [List.getD_eq_getElem?_getD, List.getElem?_drop] using this

/-- Block a of a disk as a reader sees it. -/
def see (d : Dsk) (a : Nat) : List Int := seeTo d.pend (a : Int) ((d.dur.drop (a * 64)).take 64)

theorem see_length {d : Dsk} (hv : Valid d) (a : Nat) (h : a < d.dur.length / 64) : (see d a).length = 64 := by
  unfold see
  have h0 : ((d.dur.drop (a * 64)).take 64).length = 64 := by
    rw [List.length_take, List.length_drop]
    omega
  have hg := hv.2.2.2.2
  generalize (d.dur.drop (a * 64)).take 64 = x at *
  generalize d.pend = ps at *
  induction ps generalizing x with
  | nil => exact h0
  | cons p r ih =>
    have hp : p.2.length = 64 := by have := (hg 0 (by simp)).2.2; simpa using this
    have hr : ∀ i, i < r.length → Good (d.dur.length / 64) (r.getD i (0, [])) := fun i hi => by have := hg (i + 1) (by simpa using hi); simpa using this
    simp only [seeTo, List.foldl_cons]
    split
    · exact ih p.2 hp hr
    · exact ih x h0 hr

set_option maxRecDepth 20000 in
set_option maxHeartbeats 1000000 in
theorem read_calls (w : World) {base p : Nat} {d : Dsk} (a : Nat) (h : Dev w base p d) (ha : a < d.dur.length / 64) (hps : p < w.heap.size) :
    Calls Try.prog 70 #[.pointer (some ⟨p, 0, none⟩), .int .i64 a] w fun e w' => e = .returned (.agg ((see d a).map (Value.int .u8)).toArray) ∧ Chg 0 0 w w' := by
  obtain ⟨gD, po, m, cap, hv, hp, hb, hgD, rfl, hdur, hpend⟩ := h.rows
  obtain ⟨c0, c1, _, _⟩ := two_cells hb
  have hm := hv.2.2.2.1
  go_enter Try.func70, Try.ntmps70
  go_wp2
  generalize hW : World.alloc w _ = W0
  have T0 : W0.there w.heap.size 0 64 := by rw [← hW]; exact there_new w _ _ 64 rfl
  have C0 : Chg 0 0 w W0 := by rw [← hW]; exact Chg.alloc (Chg.refl 0 0 w) _
  have c0 := C0.cell c0 (by omega)
  have c1 := C0.cell c1 (by omega)
  have u1 := Try.underlying98
  have HD : Hid (∀ j, j < d.dur.length → W0.cell? ⟨gD, j, none⟩ = some (.int .u8 (d.dur.getD j 0))) := fun j hj => C0.cell (hdur j hj) (by omega)
  have HP : Hid (0 < d.pend.length → ∃ gP, po = some ⟨gP, 0, none⟩ ∧ base ≤ gP ∧ ∀ j v, (flat d.pend)[j]? = some v → W0.cell? ⟨gP, j, none⟩ = some v) := by
    intro h0
    obtain ⟨gP, e, h1, h2⟩ := hpend h0
    exact ⟨gP, e, h1, fun j v hj => C0.cell (h2 j v hj) (by omega)⟩
  have HV : Hid (Valid d) := hv
  have HL := see_length hv a ha
  have HLen : Hid _ := HL
  have HC0 : Hid _ := C0
  have HT0 : Hid _ := T0
  -- the end: the block that is told lies in the result's own block
  have fin : ∀ cs : List Value, cs = (see d a).map (Value.int .u8) → (loadVar 98 ⟨w.heap.size, 0, none⟩).run Try.prog (W0.setCells w.heap.size 0 cs) = .ok (.agg ((see d a).map (Value.int .u8)).toArray) (W0.setCells w.heap.size 0 cs) := by
    intro cs hcs
    have hl : cs.length = 64 := by rw [hcs]; simpa using HLen.out
    rw [← hcs]
    exact run_loadVar_mid _ _ _ _ cs _ (World.rangeAt_setCells_same _ _ _ _ (by rw [hl]; exact HT0.out)) u1 rfl (by rw [hl]; kernel_rfl)
  have Hfin : Hid _ := fin
  have HChg : Hid (∀ cs : List Value, Chg 0 0 w (W0.setCells w.heap.size 0 cs)) := fun cs => HC0.out.step (Chg.setCells w.heap.size cs 0 W0) (Or.inr (Or.inl (Nat.le_refl _)))
  go_loop [5] (fun i => ∃ k : Nat, k ≤ d.pend.length ∧ i = .int .i64 ((k : Int) - 1) ∧ ∀ j, k ≤ j → j < d.pend.length → (d.pend.getD j (0, [])).1 ≠ (a : Int)) (fun i => (intOf i + 1).toNat)
  case atStart => exact ⟨d.pend.length, Nat.le_refl _, rfl, by intro j h1 h2; omega⟩
  case round =>
    obtain ⟨k, hk, rfl, hno⟩ := hrel
    have HNo : Hid _ := hno
    cases k with
    | zero =>
      have hsee : see d a = (d.dur.drop (a * 64)).take 64 := by unfold see; exact seeTo_none _ _ _ (fun j hj => HNo.out j (by omega) hj)
      obtain ⟨cs, hcs⟩ : ∃ cs, cs = (see d a).map (Value.int .u8) := ⟨_, rfl⟩
      have L1 : cs.length = 64 := by rw [hcs]; simpa using HLen.out
      have L2 : ∀ v ∈ cs, v.oneCell' = true := by rw [hcs]; exact ints_oneCell _ _
      have R0 : W0.rangeAt gD (a * 64) cs := by
        intro j v hj
        have hj64 : j < 64 := by have := (List.getElem?_eq_some_iff.1 hj).1; omega
        rw [HD.out (a * 64 + j) (by omega), ← hj, hcs, hsee, List.getElem?_map, List.getElem?_take, if_pos hj64, List.getElem?_drop]
        simp only [List.getD_eq_getElem?_getD]
        rw [List.getElem?_eq_getElem (show a * 64 + j < d.dur.length by omega)]
        rfl
      have HR0 : Hid _ := R0
      have HL2 : Hid _ := L2
      have HL1 : Hid (cs.length = 64) := L1
      have e64 : cs.toArray.size = 64 := by simpa using L1
      have HT1 : Hid (W0.there w.heap.size 0 cs.toArray.size) := by show World.there _ _ _ _; rw [e64]; exact HT0.out
      have HI1 : Hid ((Try.prog.info? 98).map (·.size) = some cs.toArray.size) := by show _ = _; rw [e64]; kernel_rfl
      clear e64
      have hfi := Hfin.out cs hcs
      have Hfi : Hid (_ = _) := hfi
      have hcg := HChg.out cs
      clear R0 L1 L2 hcs hsee HD HP HV HNo hfi Hfin HChg
      have hai : (a : Int) < ((d.dur.length / 64 : Nat) : Int) := by omega
      go_wp2_with (first
        | (refine wpList_load_mid rfl 98 (.tmp 39) rfl gD (a * 64) rfl cs _ HR0.out u1 rfl (by rw [HL1.out]; kernel_rfl) ?_)
        | (refine wpList_store_mid rfl 98 (.tmp 4) (.tmp 40) rfl w.heap.size 0 cs.toArray rfl rfl HT1.out HI1.out (all_oneCell_toArray HL2.out) ?_))
      exact bodyPost_ret (results_block Try.results70 rfl Hfi.out) rfl ⟨rfl, hcg⟩
    | succ k =>
      obtain ⟨gP, rfl, hgP, hcel⟩ := HP.out (by omega)
      have e0 := flat_getElem d.pend HV.out.2.2.2.2 k 0 (by omega) (by omega)
      have hq : W0.cell? ⟨gP, k * 65, none⟩ = some (.int .i64 (d.pend.getD k (0, [])).1) := hcel (k * 65) _ (by rw [show k * 65 = k * 65 + 0 from rfl, e0]; rfl)
      have hik : (k : Int) < (d.pend.length : Int) := by omega
      rw [show ((k + 1 : Nat) : Int) - 1 = (k : Int) from by omega]
      by_cases hit : (d.pend.getD k (0, [])).1 = (a : Int)
      · have hsee : see d a = (d.pend.getD k (0, [])).2 := by unfold see; exact seeTo_hit _ _ _ k (by omega) hit (fun j h1 h2 => HNo.out j (by omega) h2)
        obtain ⟨cs, hcs⟩ : ∃ cs, cs = (see d a).map (Value.int .u8) := ⟨_, rfl⟩
        have L1 : cs.length = 64 := by rw [hcs]; simpa using HLen.out
        have L2 : ∀ v ∈ cs, v.oneCell' = true := by rw [hcs]; exact ints_oneCell _ _
        have R0 : W0.rangeAt gP (k * 65 + 1) cs := by
          intro j v hj
          have hj64 : j < 64 := by have := (List.getElem?_eq_some_iff.1 hj).1; omega
          rw [Nat.add_assoc]
          refine hcel _ _ ?_
          rw [flat_getElem d.pend HV.out.2.2.2.2 k (1 + j) (by omega) (by omega), ← hj, hcs, hsee, Nat.add_comm 1 j]
          rfl
        have HR0 : Hid _ := R0
        have HL2 : Hid (∀ v ∈ cs, v.oneCell' = true) := L2
        have HL1 : Hid (cs.length = 64) := L1
        have e64 : cs.toArray.size = 64 := by simpa using L1
        have HT1 : Hid (W0.there w.heap.size 0 cs.toArray.size) := by show World.there _ _ _ _; rw [e64]; exact HT0.out
        have HI1 : Hid ((Try.prog.info? 98).map (·.size) = some cs.toArray.size) := by show _ = _; rw [e64]; kernel_rfl
        clear e64
        have hfi := Hfin.out cs hcs
        have Hfi : Hid (_ = _) := hfi
        have hcg := HChg.out cs
        have hb1 : ((d.pend.getD k (0, [])).1 == (a : Int)) = true := by rw [beq_iff_eq]; exact hit
        generalize (d.pend.getD k (0, [])).1 = q at *
        clear R0 L1 L2 hcs hsee HD HP HV HNo hfi Hfin HChg hcel e0 hit
        go_wp2_with (first
          | (refine wpList_load_mid rfl 98 (.tmp 32) rfl gP (k * 65 + 1) rfl cs _ HR0.out u1 rfl (by rw [HL1.out]; kernel_rfl) ?_)
          | (refine wpList_store_mid rfl 98 (.tmp 4) (.tmp 33) rfl w.heap.size 0 cs.toArray rfl rfl HT1.out HI1.out (all_oneCell_toArray HL2.out) ?_))
        exact bodyPost_ret (results_block Try.results70 rfl Hfi.out) rfl ⟨rfl, hcg⟩
      · have hb1 : ((d.pend.getD k (0, [])).1 == (a : Int)) = false := by rw [beq_eq_false_iff_ne]; exact hit
        have HN2 : Hid (∀ j, k ≤ j → j < d.pend.length → (d.pend.getD j (0, [])).1 ≠ (a : Int)) := by
          intro j h1 h2
          by_cases e : j = k
          · subst e; exact hit
          · exact HNo.out j (by omega) h2
        generalize (d.pend.getD k (0, [])).1 = q at *
        go_wp2
        go_round
        case rel => exact ⟨k, by omega, by go_num, HN2.out⟩
        case measure => simp [intOf]

/-- What DiskRead tells. -/
def readD (d : Dsk) (b : Int) : List Int := if validB d = true ∧ 0 ≤ b ∧ b < ((d.dur.length / 64 : Nat) : Int) then see d b.toNat else []

set_option maxRecDepth 20000 in
set_option maxHeartbeats 1000000 in
theorem implRead_calls (w : World) {lo hi : Nat} {a : Value} {d : Dsk} (b : Int) (h1 : DView w lo hi a d) :
    Calls Try.prog 38 #[a, .int .i64 b] w fun e w' => ∃ v, e = .returned v ∧ OwnB w' w.heap.size 5 v (readD d b) ∧ Chg 0 0 w w' := by
  have d0 := h1
  obtain ⟨dv, pv, rfl, v1, p1⟩ := h1
  obtain ⟨ao, cap, rfl, _, _, _⟩ := v1
  obtain ⟨po, pcap, rfl, _, _, _⟩ := p1
  have hA : Chg 0 0 w (w.alloc (.cells #[.slice ao d.dur.length cap, .slice po d.pend.length pcap] 29)) := Chg.alloc (Chg.refl 0 0 w) _
  have dA := d0.chg hA (by omega)
  cases hV : validB d with
  | false =>
    have hR : readD d b = [] := by unfold readD; rw [if_neg (by rw [hV]; simp)]
    rw [hR]
    go_enter Try.func38, Try.ntmps38
    go_wp2_with fail
    refine (openDevice_no _ dA hV).mono ?_
    rintro e w1 ⟨rfl, hc⟩
    have hch := hA.trans hc
    go_wp2
    go_ret
    exact ⟨_, rfl, OwnB.nil _ _ _, hch⟩
  | true =>
    have hVal := (validB_iff d).1 hV
    by_cases hb : 0 ≤ b ∧ b < ((d.dur.length / 64 : Nat) : Int)
    · have hR : readD d b = see d b.toNat := by unfold readD; rw [if_pos ⟨hV, hb⟩]
      have hlen := see_length hVal b.toNat (by omega)
      rw [hR]
      have Hlen : Hid _ := hlen
      go_enter Try.func38, Try.ntmps38
      go_wp2_with fail
      refine (openDevice_yes _ dA hVal).mono ?_
      rintro e w1 ⟨p, rfl, hdev, hc⟩
      have hch := hA.trans hc
      have hsz := hch.size
      go_wp2_with fail
      refine (has_yes _ b hdev hb.1 hb.2).mono ?_
      rintro e w2 ⟨rfl, rfl⟩
      go_wp2_with fail
      obtain ⟨n, rfl⟩ := Int.eq_ofNat_of_zero_le hb.1
      rw [Int.toNat_natCast] at Hlen
      have hn : n < d.dur.length / 64 := by omega
      refine (read_calls _ n hdev hn hdev.lt).mono ?_
      rintro e w3 ⟨rfl, h3⟩
      have hch3 := hch.trans h3
      have hsz3 := hch3.size
      go_wp2_with fail
      refine (bytesOf_calls _ _ Hlen.out).mono ?_
      rintro e w4 ⟨g, rfl, ho, h4⟩
      have HO : Hid _ := ho.base (fun g' hg' => Nat.le_trans hsz3 (ho.lt g' hg').1)
      have hch4 := hch3.trans h4
      go_wp2
      go_ret
      exact ⟨_, rfl, HO.out, hch4⟩
    · have hR : readD d b = [] := by unfold readD; rw [if_neg (fun h => hb h.2)]
      rw [hR]
      go_enter Try.func38, Try.ntmps38
      go_wp2_with fail
      refine (openDevice_yes _ dA hVal).mono ?_
      rintro e w1 ⟨p, rfl, hdev, hc⟩
      have hch := hA.trans hc
      go_wp2_with fail
      refine (has_no _ b hdev (by omega)).mono ?_
      rintro e w2 ⟨rfl, rfl⟩
      go_wp2
      go_ret
      exact ⟨_, rfl, OwnB.nil _ _ _, hch⟩

end Go.Proofs.Ytplfehjaakkldaa
