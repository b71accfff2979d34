/- The device takes a write. -/
import Derived.Test.YtplfehjaakkldaaBase
import Derived.Test.YtplfehjaakkldaaWeak
import Derived.Great.BuildSlice
namespace Go.Proofs.Ytplfehjaakkldaa
open Go.RowKit

theorem flat_snoc (ps : List Wr) (p : Wr) : flat (ps ++ [p]) = flat ps ++ wcells p := by simp [flat]

/-- One write of the cache, laid as the one element of a new row. -/
theorem fill_one (A : Array Value) (hr : A.size = 65) (full : List Value) (h : full.length = 65) :
    Instr.fill (fun i => some (i * 65, 65)) A [(0, .agg full.toArray)] = some full.toArray := by
  have hf := foldl_splice 0 full 0 A (by omega)
  have e : splice A.toList (0 + 0) full = full := by
    unfold splice
    have hal : A.toList.length = 65 := hr
    simp only [Nat.zero_add, List.take_zero, List.nil_append]
    rw [List.drop_of_length_le (by omega), List.append_nil]
  rw [e] at hf
  have hf2 : List.foldl (fun (B : Array Value) (p : Value × Nat) => B.setIfInBounds (0 + p.2) p.1) A (full.zipIdx 0) = full.toArray := Array.ext' (by simpa using hf)
  simp only [Nat.zero_add] at hf2
  simp [Instr.fill, Value.cells, hr, h, hf2]

theorem Valid.snoc {d : Dsk} (hv : Valid d) (hm : d.pend.length < 600) {a : Nat} (ha : a < d.dur.length / 64) {ys : List Int} (hy : ys.length = 64) : Valid ⟨d.dur, d.pend ++ [((a : Int), ys)]⟩ := by
  refine ⟨hv.1, hv.2.1, hv.2.2.1, by simp; omega, fun i hi => ?_⟩
  simp only [List.length_append, List.length_cons, List.length_nil] at hi
  by_cases e : i < d.pend.length
  · have := hv.2.2.2.2 i e
    simpa [List.getD_eq_getElem?_getD, List.getElem?_append_left e] using this
  · obtain rfl : i = d.pend.length := by omega
    simp only [List.getD_eq_getElem?_getD, List.getElem?_concat_length, Option.getD_some]
    exact ⟨by show (0 : Int) ≤ (a : Int); omega, by show (a : Int) < ((d.dur.length / 64 : Nat) : Int); omega, hy⟩

set_option maxRecDepth 20000 in
set_option maxHeartbeats 4000000 in
theorem write_yes (w : World) {base p lo hi : Nat} {d : Dsk} {b : Value} (a : Nat) (ys : List Int) (h : Dev w base p d) (hb : View w lo hi .u8 b ys) (hlo : hi ≤ base) (hy : ys.length = 64) (ha : a < d.dur.length / 64) (hm : d.pend.length < 600) :
    Calls Try.prog 51 #[.pointer (some ⟨p, 0, none⟩), .int .i64 a, b] w fun e w' => e = .returned (.bool true) ∧ Dev w' base p ⟨d.dur, d.pend ++ [((a : Int), ys)]⟩ ∧ Chg base w.heap.size w w' := by
  have Hh : Hid (Dev w base p d) := h
  have hps := h.lt
  obtain ⟨gD, pv, hv, hp, hbx, hdr, hpr⟩ := h
  obtain ⟨po, pn, pc, rfl⟩ := row_slice hpr
  obtain ⟨c0, c1, f0, f1⟩ := two_cells hbx
  have hpn : pn = d.pend.length := by
    rcases hpr.2 with ⟨e, h0⟩ | ⟨g, cap, cur, e, _⟩
    · cases e; exact h0.symm
    · simp only [Value.slice.injEq] at e; exact e.2.1
  subst hpn
  obtain ⟨bo, bcap, rfl, _, _, hbc⟩ := hb
  obtain ⟨xb, xo, rfl, hxh, hxc⟩ : ∃ xb xo, bo = some ⟨xb, xo, none⟩ ∧ xb < hi ∧ ∀ i, i < ys.length → w.cell? ⟨xb, xo + i, none⟩ = some (.int .u8 (ys.getD i 0)) := by
    rcases hbc with e | ⟨x, o, e, _, hh, h⟩
    · rw [e] at hy; simp at hy
    · exact ⟨x, o, e, hh, h⟩
  clear hbc
  obtain ⟨cs, hcs⟩ : ∃ cs, cs = ys.map (Value.int .u8) := ⟨_, rfl⟩
  have L1 : cs.length = 64 := by rw [hcs]; simpa using hy
  have L2 : ∀ v ∈ cs, v.oneCell' = true := by rw [hcs]; exact ints_oneCell _ _
  have R0 : w.rangeAt xb xo cs := by
    intro j v hj
    have hj64 : j < ys.length := by have := (List.getElem?_eq_some_iff.1 hj).1; omega
    rw [hxc j hj64, ← hj, hcs, List.getElem?_map]
    simp only [List.getD_eq_getElem?_getD]
    rw [List.getElem?_eq_getElem hj64]
    rfl
  have hfo := fold_cached a cs L1
  obtain ⟨full, hfull⟩ : ∃ full, full = Value.int .i64 (a : Int) :: cs := ⟨_, rfl⟩
  rw [← hfull] at hfo
  have L3 : full.length = 65 := by rw [hfull, List.length_cons, L1]
  have L4 : ∀ v ∈ full, v.oneCell' = true := by
    intro v hv
    rw [hfull] at hv
    rcases List.mem_cons.1 hv with rfl | hv
    · rfl
    · exact L2 v hv
  have HW : Hid (wcells ((a : Int), ys) = full) := by show _ = _; rw [hfull, hcs]; rfl
  have har := fun w => arrayAt_block w ⟨xb, xo, none⟩ bcap
  have hzc := zero_cached
  have hz0 : ¬ Z65 = #[] := by intro e; have := Z65_size; rw [e] at this; simp at this
  have hz1 := Z65_size
  obtain ⟨ic, hic, hcz0, hcz1, hcz2⟩ := info_parts Try.infoC
  have Hbx : Hid (w.heap[p]? = some (.cells #[.slice (some ⟨gD, 0, none⟩) (d.dur.length / 64) (d.dur.length / 64), .slice po d.pend.length pc] 79 (0, 0))) := hbx
  have Hdr : Hid (w.ownsRow base 98 64 (.slice (some ⟨gD, 0, none⟩) (d.dur.length / 64) (d.dur.length / 64)) (d.dur.length / 64) (d.dur.map (Value.int .u8))) := hdr
  have Hpr : Hid (w.ownsRow base 108 65 (.slice po d.pend.length pc) d.pend.length (flat d.pend)) := hpr
  have HR0 : Hid (w.rangeAt xb xo cs) := R0
  have HL4 : Hid (∀ v ∈ full, v.oneCell' = true) := L4
  have hVs := hv.snoc hm ha hy
  have HVs : Hid (Valid ⟨d.dur, d.pend ++ [((a : Int), ys)]⟩) := hVs
  rw [hy]
  clear hxc hfull hcs L2 L4 hbx hdr hpr R0 hVs hv
  go_enter Try.func51, Try.ntmps51
  go_wp2_with fail
  refine (has_yes _ a Hh.out (by omega) (by omega)).mono ?_
  rintro e w2 ⟨rfl, rfl⟩
  have hne : ((64 : Int) != 64) = false := by simp
  go_wp2
  refine weak_region 14 (fun w' => w'.cell? ⟨p, 1, none⟩ = some (.slice po d.pend.length pc) ∧ w'.rangeAt xb xo cs) (by kernel_rfl) ?_
  have hS : (fun w' : World => w'.cell? ⟨p, 1, none⟩ = some (.slice po d.pend.length pc) ∧ w'.rangeAt xb xo cs) w2.drew := ⟨c1, HR0.out⟩
  have HS : Hid ((fun w' : World => w'.cell? ⟨p, 1, none⟩ = some (.slice po d.pend.length pc) ∧ w'.rangeAt xb xo cs) w2.drew) := hS
  clear hS
  refine weak_take 0 (.pointer (some ⟨p, 0, none⟩)) rfl (by kernel_rfl) (by kernel_rfl) (by kernel_rfl) (by kernel_rfl) (fun _ _ _ h => h) (.inl ⟨by kernel_rfl, fun w' hw' => by go_simp⟩) HS.out ?_
  go_simp
  refine weak_take 1 (.pointer (some ⟨p, 0, none⟩)) rfl (by kernel_rfl) (by kernel_rfl) (by kernel_rfl) (by kernel_rfl) (fun _ _ _ h => h) (.inl ⟨by kernel_rfl, fun w' hw' => by go_simp⟩) HS.out ?_
  go_simp
  refine weak_take 2 (.pointer (some ⟨p, 0, none⟩)) rfl (by kernel_rfl) (by kernel_rfl) (by kernel_rfl) (by kernel_rfl) (fun _ _ _ h => h) (.inl ⟨by kernel_rfl, fun w' hw' => by go_simp⟩) HS.out ?_
  go_simp
  refine weak_take 3 (.pointer (some ⟨p, 1, none⟩)) rfl (by kernel_rfl) (by kernel_rfl) (by kernel_rfl) (by kernel_rfl) (fun _ _ _ h => h) (.inl ⟨by kernel_rfl, fun w' hw' => by go_simp⟩) HS.out ?_
  go_simp
  refine weak_take 4 (.slice po d.pend.length pc) rfl (by kernel_rfl) (by kernel_rfl) (by kernel_rfl) (by kernel_rfl) (fun _ _ _ h => h) (.inl ⟨by kernel_rfl, fun w' hw' => by have h4 := hw'.1; go_simp⟩) HS.out ?_
  go_simp
  refine weak_take 5 (.int .i64 (a : Int)) rfl (by kernel_rfl) (by kernel_rfl) (by kernel_rfl) (by kernel_rfl) (fun _ _ _ h => h) (.inl ⟨by kernel_rfl, fun w' hw' => by go_simp⟩) HS.out ?_
  go_simp
  refine weak_take 6 (.slice (some ⟨xb, xo, none⟩) 64 bcap) rfl (by kernel_rfl) (by kernel_rfl) (by kernel_rfl) (by kernel_rfl) (fun _ _ _ h => h) (.inl ⟨by kernel_rfl, fun w' hw' => by go_simp⟩) HS.out ?_
  go_simp
  refine weak_take 7 (.pointer (some ⟨xb, xo, none⟩)) rfl (by kernel_rfl) (by kernel_rfl) (by kernel_rfl) (by kernel_rfl) (fun _ _ _ h => h) (.inl ⟨by kernel_rfl, fun w' hw' => by go_simp⟩) HS.out ?_
  go_simp
  refine weak_take 8 (.agg cs.toArray) rfl (by kernel_rfl) (by kernel_rfl) (by kernel_rfl) (by kernel_rfl) (fun _ _ _ h => h) (yieldsIf_load_mid (by kernel_rfl) 98 (.tmp 31) rfl xb xo rfl cs _ (fun w' hw' => hw'.2) Try.underlying98 rfl (by rw [L1]; kernel_rfl)) HS.out ?_
  go_simp
  refine weak_take 9 (.agg full.toArray) rfl (by kernel_rfl) (by kernel_rfl) (by kernel_rfl) (by kernel_rfl) (fun _ _ _ h => h) (.inl ⟨by kernel_rfl, fun w' hw' => by go_simp⟩) HS.out ?_
  go_simp
  refine weak_one 10 rfl rfl (by kernel_rfl) ?_
  refine wp_buildSlice 77 108 1 #[(0, .tmp 33)] rfl full.toArray ic _ Try.underlying77 hic hcz0 (by rw [hcz1]; decide) (by rw [hcz1]; decide) (by rw [hcz1, Array.toList_map]; refine fill_one _ ?_ full L3; simp) ?_
  have C3 : Chg 0 0 w2 (w2.drew.alloc (.cells full.toArray 108)) := (Chg.drew (Chg.refl 0 0 w2)).alloc _
  have B3 := heap_new w2.drew (.cells full.toArray 108)
  have hown3 : (w2.drew.alloc (.cells full.toArray 108)).ownsRow base 108 65 (.slice po d.pend.length pc) d.pend.length (flat d.pend) := World.ownsRow.alloc (World.ownsRow.drew Hpr.out) _
  have hc3 := C3.cell c1 (by omega)
  have hr3 : (w2.drew.alloc (.cells full.toArray 108)).rangeAt xb xo cs := fun j v hj => C3.cell (HR0.out j v hj) (by omega)
  have s3 : (w2.drew.alloc (.cells full.toArray 108)).heap.size = w2.heap.size + 1 := by simp
  have hds : w2.drew.heap.size = w2.heap.size := rfl
  rw [hds] at B3 ⊢
  generalize w2.drew.alloc (.cells full.toArray 108) = w3 at *
  refine ⟨fun _ => ⟨hc3, hr3⟩, ?_⟩
  go_simp
  have hnews : ∀ j u, full[j]? = some u → w3.cell? ((⟨w2.heap.size, 0, none⟩ : Addr).add j) = some u := by
    intro j u hj
    rw [Addr.add_mid, Nat.zero_add, cell_of_row w3 w2.heap.size j _ _ _ B3]
    simpa using hj
  refine weak_one 11 rfl rfl (by kernel_rfl) ?_
  refine wp_append_own w3 (.tmp 28) (.tmp 34) 77 rfl base 108 ic _ 65 72 Try.underlying77 hic hcz0 hcz1 hcz2 rfl (by decide) _ _ (flat d.pend) rfl hown3 ⟨w2.heap.size, 0, none⟩ 1 1 full rfl (by rw [L3]) hnews HL4.out (by unfold maxLen; omega) (by omega) (by have := (World.ownsRow.lt Hdr.out gD rfl); omega) ?_
  intro v' w4 hown4 hgrow _
  obtain ⟨vo, vl, vc, rfl⟩ := row_slice hown4
  have hrowb : ∀ k, (Value.slice po d.pend.length pc).ownBlock = some k → base ≤ k ∧ k < w2.heap.size := fun k hk => World.ownsRow.lt Hpr.out k hk
  have hpne : ∀ k, (Value.slice po d.pend.length pc).ownBlock = some k → k ≠ p ∧ k ≠ gD := by
    intro k hk
    obtain ⟨curP, hcP⟩ : ∃ cur, w2.heap[k]? = some (.cells cur 108 (0, 0)) := by
      rcases Hpr.out.2 with ⟨e, _⟩ | ⟨g, cap, cur, e, _, hh, _⟩
      · rw [e] at hk; cases hk
      · rw [e] at hk; cases hk; exact ⟨cur, hh⟩
    obtain ⟨curD, hcD⟩ : ∃ cur, w2.heap[gD]? = some (.cells cur 98 (0, 0)) := by
      rcases Hdr.out.2 with ⟨e, _⟩ | ⟨g, cap, cur, e, _, hh, _⟩
      · cases e
      · simp only [Value.slice.injEq, Option.some.injEq, Addr.mk.injEq, and_true] at e
        obtain ⟨rfl, _⟩ := e
        exact ⟨cur, hh⟩
    constructor
    · intro e
      rw [e, Hbx.out] at hcP
      simp only [Option.some.injEq, Obj.cells.injEq] at hcP
      exact absurd hcP.2.1 (by decide)
    · intro e
      rw [e, hcD] at hcP
      simp only [Option.some.injEq, Obj.cells.injEq] at hcP
      exact absurd hcP.2.1 (by decide)
  have K4 : ∀ k, k < w2.heap.size → (∀ g, (Value.slice po d.pend.length pc).ownBlock = some g → k ≠ g) → w4.heap[k]? = w2.heap[k]? := fun k hk hne' =>
    (hgrow.block k (by omega) (fun e => hne' k e.symm rfl)).trans (C3.block k hk (by omega))
  have hbx4 : w4.heap[p]? = some (.cells #[.slice (some ⟨gD, 0, none⟩) (d.dur.length / 64) (d.dur.length / 64), .slice po d.pend.length pc] 79 (0, 0)) := (K4 p hps (fun g hg e => (hpne g hg).1 e.symm)).trans Hbx.out
  have gDb := World.ownsRow.lt Hdr.out gD rfl
  have kD4 := K4 gD gDb.2 (fun g hg e => (hpne g hg).2 e.symm)
  have hr4 : w4.rangeAt xb xo cs := by
    intro j v hj
    have hx := HR0.out j v hj
    have hxz := lt_of_cell hx
    rw [World.cell?_of_block (w := w2) (a := ⟨xb, xo + j, none⟩) (K4 xb hxz (fun g hg e => by have := hrowb g hg; omega))]
    exact hx
  have s4 := hgrow.size
  obtain ⟨e0, e1, ef0, ef1⟩ := two_cells hbx4
  have HC4 : Hid (Chg base w2.heap.size w2 w4) := by
    refine ⟨hgrow.os.trans C3.os, hgrow.tape.trans C3.tape, hgrow.output.trans C3.output, by omega, fun k hk hh => K4 k hk (fun g hg e => ?_)⟩
    have := hrowb g hg
    omega
  have HN : Hid (w4.ownsRow base 108 65 (.slice vo vl vc) (d.pend.length + 1) (flat d.pend ++ full)) := hown4
  refine ⟨fun _ => ⟨e1, hr4⟩, ?_⟩
  go_simp
  have HS4 : Hid ((fun w' : World => w'.cell? ⟨p, 1, none⟩ = some (.slice po d.pend.length pc) ∧ w'.rangeAt xb xo cs) w4) := ⟨e1, hr4⟩
  refine weak_one 12 rfl rfl (by kernel_rfl) ?_
  go_simp
  refine weak_one 13 rfl rfl (by kernel_rfl) ?_
  go_simp
  refine weak_one 14 rfl rfl (by kernel_rfl) ?_
  have HB : Hid ((w4.setCell ⟨p, 1, none⟩ (.slice vo vl vc)).heap[p]? = some (.cells #[.slice (some ⟨gD, 0, none⟩) (d.dur.length / 64) (d.dur.length / 64), .slice vo vl vc] 79 (0, 0))) := by
    have := heap_setCell_same w4 p 1 _ _ (.slice vo vl vc) hbx4
    show _ = _
    simpa using this
  have HKD : Hid ((w4.setCell ⟨p, 1, none⟩ (.slice vo vl vc)).heap[gD]? = w2.heap[gD]?) := by
    refine (Below.heap_setCell _ _ _ _ ?_).trans kD4
    intro e
    rcases Hdr.out.2 with ⟨e', _⟩ | ⟨g, cap, cur, e', _, hh, _⟩
    · cases e'
    · simp only [Value.slice.injEq, Option.some.injEq, Addr.mk.injEq, and_true] at e'
      obtain ⟨rfl, _⟩ := e'
      have e2 : gD = p := e
      rw [e2, Hbx.out] at hh
      simp only [Option.some.injEq, Obj.cells.injEq] at hh
      exact absurd hh.2.1 (by decide)
  have HPn : Hid ((w4.setCell ⟨p, 1, none⟩ (.slice vo vl vc)).ownsRow base 108 65 (.slice vo vl vc) (d.pend.length + 1) (flat d.pend ++ full)) := by
    refine ownsRow_setCell_other HN.out ?_ _
    intro e
    rcases HN.out.2 with ⟨e', _⟩ | ⟨g, cap, cur, e', _, hh, _⟩
    · rw [e'] at e; cases e
    · rw [e'] at e
      have e2 : g = p := by simpa [Value.ownBlock] using e
      rw [e2, hbx4] at hh
      simp only [Option.some.injEq, Obj.cells.injEq] at hh
      exact absurd hh.2.1 (by decide)
  have HD : Hid (Dev (w4.setCell ⟨p, 1, none⟩ (.slice vo vl vc)) base p ⟨d.dur, d.pend ++ [((a : Int), ys)]⟩) := by
    refine ⟨gD, .slice vo vl vc, HVs.out, hp, HB.out, ?_, ?_⟩
    · refine ⟨Hdr.out.1, ?_⟩
      rcases Hdr.out.2 with h2 | ⟨g, cap, cur, hv', hg', hh, r⟩
      · exact Or.inl h2
      · refine Or.inr ⟨g, cap, cur, hv', hg', ?_, r⟩
        simp only [Value.slice.injEq, Option.some.injEq, Addr.mk.injEq, and_true] at hv'
        rw [← hv'.1] at hh ⊢
        exact HKD.out.trans hh
    · have := HPn.out
      show (w4.setCell _ _).ownsRow _ _ _ _ (d.pend ++ [((a : Int), ys)]).length (flat (d.pend ++ [((a : Int), ys)]))
      rw [flat_snoc, HW.out, List.length_append]
      exact this
  have HCf : Hid (Chg base w2.heap.size w2 (w4.setCell ⟨p, 1, none⟩ (.slice vo vl vc))) := HC4.out.setCell (Or.inl ⟨hp, hps⟩) _
  clear K4 hr4 hown4 hgrow C3 B3 hown3 hc3 hr3 hnews hpne hrowb kD4 HN HPn HKD HB HC4 hbx4
  go_simp
  refine weak_done (by kernel_rfl) (NoPanic.normal ?_)
  go_wp2
  go_ret
  exact ⟨rfl, HD.out, HCf.out⟩
end Go.Proofs.Ytplfehjaakkldaa
