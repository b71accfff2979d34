/- DecodePointers of the program. -/
import Derived.Test.YtdfpllijijaeiaaPtrSpec2
import Derived.Test.YtdfpllijijaeiaaGetPs
import Derived.Test.YtdfpllijijaeiaaBlkImpl
import Derived.Test.YtdfpllijijaeiaaRowZ
import Derived.Test.YtdfpllijijaeiaaHeld
import Derived.Test.YtdfpllijijaeiaaWeak
namespace Go.Proofs.Ytdfpllijijaeiaa
open Go.RowKit

def Z32 : List Value := List.replicate 32 (.int .i64 0)
theorem Z32_eq : (#[.int .i64 0, .int .i64 0, .int .i64 0, .int .i64 0, .int .i64 0, .int .i64 0, .int .i64 0, .int .i64 0, .int .i64 0, .int .i64 0, .int .i64 0, .int .i64 0, .int .i64 0, .int .i64 0, .int .i64 0, .int .i64 0, .int .i64 0, .int .i64 0, .int .i64 0, .int .i64 0, .int .i64 0, .int .i64 0, .int .i64 0, .int .i64 0, .int .i64 0, .int .i64 0, .int .i64 0, .int .i64 0, .int .i64 0, .int .i64 0, .int .i64 0, .int .i64 0] : Array Value) = Z32.toArray := by unfold Z32; rfl
theorem Z32_length : Z32.length = 32 := by unfold Z32; simp
theorem Z32_one : ∀ v ∈ Z32, v.oneCell' = true := by
  intro v hv
  have h : Z32 = List.replicate 32 (.int .i64 0) := by unfold Z32; rfl
  rw [h] at hv
  rw [List.eq_of_mem_replicate hv]; rfl
theorem splice_all {c xs : List Value} (h : xs.length = c.length) : splice c 0 xs = xs := by
  unfold splice
  rw [List.take_zero, List.nil_append, List.drop_eq_nil_of_le (by omega), List.append_nil]
theorem all_goodP (xs : List Int) : (gps xs 32).all blkB = true ↔ ∀ k, k < 32 → goodP (ptrAt xs k) = true := by
  rw [List.all_eq_true]
  constructor
  · intro h k hk
    exact goodP_iff.2 (blkB_iff.1 (h _ (List.mem_map.2 ⟨k, List.mem_range.2 hk, rfl⟩)))
  · intro h x hx
    obtain ⟨k, hk, rfl⟩ := List.mem_map.1 hx
    exact blkB_iff.2 (goodP_iff.1 (h k (List.mem_range.1 hk)))

/-- The bytes, the numbers to tell, the numbers that are read. -/
structure Dec3 (w x : World) (L cur : List Value) : Prop where
  b0 : ArrC x w.heap.size 38 L
  b1 : ArrC x (w.heap.size + 1) 34 Z32
  b2 : ArrC x (w.heap.size + 1 + 1) 34 cur
  ch : Chg 0 0 w x
theorem Dec3.chg {w x y : World} {L cur : List Value} (h : Dec3 w x L cur) (c : Chg 0 0 x y) : Dec3 w y L cur :=
  ⟨h.b0.chg c (by omega), h.b1.chg c (by omega), h.b2.chg c (by omega), h.ch.trans c⟩
theorem Dec3.put {w x y : World} {L cur cur' : List Value} (h : Dec3 w x L cur) (c : Chg (w.heap.size + 1 + 1) (w.heap.size + 1 + 1 + 1) x y) (hb : ArrC y (w.heap.size + 1 + 1) 34 cur') : Dec3 w y L cur' :=
  ⟨h.b0.chg c (by omega), h.b1.chg c (by omega), hb, h.ch.step c (by omega)⟩

set_option maxRecDepth 20000 in
set_option maxHeartbeats 2000000 in
theorem readPs_calls (w : World) (xs : List Int) (hx : xs.length = 64) (hB : Byt xs) :
    Calls Try.prog 14 #[.agg (xs.map (Value.int .u8)).toArray] w fun e w' => (e = .returned (if (gps xs 32).all blkB = true then .tuple #[.agg ((gps xs 32).map (Value.int .i64)).toArray, .bool true] else .tuple #[.agg Z32.toArray, .bool false])) ∧ Chg 0 0 w w' := by
  obtain ⟨L, hL⟩ : ∃ L, L = xs.map (Value.int .u8) := ⟨_, rfl⟩
  rw [← hL]
  have HE0 : Hid (Dec3 w (((w.alloc (.cells L.toArray 38)).alloc (.cells Z32.toArray 34)).alloc (.cells Z32.toArray 34)) L Z32) := by
    show Dec3 _ _ _ _
    obtain ⟨_, h1, h2, h3⟩ := alloc3 w (.cells L.toArray 38) (.cells Z32.toArray 34) (.cells Z32.toArray 34)
    exact ⟨h1, h2, h3, ((Chg.alloc (Chg.refl 0 0 w) _).alloc _).alloc _⟩
  have Hx : Hid (xs.length = 64) := hx
  have HL : Hid (L = xs.map (Value.int .u8)) := hL
  have HB : Hid (Byt xs) := hB
  obtain ⟨ps, hps⟩ : ∃ ps, ps = gps xs 32 := ⟨_, rfl⟩
  rw [← hps]
  obtain ⟨cs, hcs⟩ : ∃ cs, cs = ps.map (Value.int .i64) := ⟨_, rfl⟩
  rw [← hcs]
  have hpl : ps.length = 32 := by rw [hps, gps_len]
  have HV2 : Hid (∀ v ∈ cs, v.oneCell' = true) := by show ∀ v ∈ cs, v.oneCell' = true; rw [hcs]; exact ints_oneCell _ _
  have hln : cs.length = 32 := by rw [hcs, List.length_map]; exact hpl
  have Hln : Hid (cs.length = 32) := hln
  have hics : (Try.prog.info? 34).map (·.size) = some cs.length := by rw [hln]; kernel_rfl
  have hicz : (Try.prog.info? 34).map (·.size) = some Z32.length := by rw [Z32_length]; kernel_rfl
  have Hcs : Hid (cs = ps.map (Value.int .i64)) := hcs
  have Hps : Hid (ps = gps xs 32) := hps
  have Hpl : Hid (ps.length = 32) := hpl
  obtain ⟨vr, hvr⟩ : ∃ vr, vr = (if ps.all blkB = true then Value.tuple #[.agg cs.toArray, .bool true] else .tuple #[.agg Z32.toArray, .bool false]) := ⟨_, rfl⟩
  rw [← hvr]
  have Hvr : Hid (vr = (if ps.all blkB = true then Value.tuple #[.agg cs.toArray, .bool true] else .tuple #[.agg Z32.toArray, .bool false])) := hvr
  clear hL hx hpl hcs hln hps hB hvr
  go_enter Try.func14, Try.ntmps14
  go_upto_region 2 with fail
  simp only [Z32_eq]
  generalize (((w.alloc (.cells L.toArray 38)).alloc (.cells Z32.toArray 34)).alloc (.cells Z32.toArray 34)) = wa at *
  go_cut [7] (fun _ wx => Dec3 w wx L cs)
  case first =>
    have HE1 : Hid (Dec3 w wa.drew L Z32) := HE0.out.chg (Chg.drew (Chg.refl 0 0 wa))
    have HS0 : Hid ((fun _ : World => True) wa.drew) := trivial
    refine held_region (fun _ : World => True) (by kernel_rfl) ?_
    refine held_take 0 (.slice (some ⟨w.heap.size, 0, none⟩) 64 64) rfl (by kernel_rfl) (by kernel_rfl) (by kernel_rfl) (fun _ _ _ h => h) (.inl ⟨by kernel_rfl, fun w' hw' => by go_simp⟩) HS0.out ?_
    go_simp
    refine held_take 1 (.slice (some ⟨w.heap.size + 1 + 1, 0, none⟩) 32 32) rfl (by kernel_rfl) (by kernel_rfl) (by kernel_rfl) (fun _ _ _ h => h) (.inl ⟨by kernel_rfl, fun w' hw' => by go_simp⟩) HS0.out ?_
    go_simp
    generalize wa.drew = x1 at *
    have hvw : View x1 w.heap.size (w.heap.size + 1) .u8 (.slice (some ⟨w.heap.size, 0, none⟩) xs.length 64) xs := by
      have h0 : x1.heap[w.heap.size]? = some (.cells L.toArray 38 (0, 0)) := HE1.out.b0
      rw [HL.out] at h0
      have hv := row_view h0 0 xs.length 64 (by omega) (by rw [Hx.out]; decide) (by rw [Hx.out]; omega)
      rwa [List.drop_zero, List.take_length] at hv
    have hN := getPointers_calls x1 (w.heap.size + 1 + 1) 0 32 32 34 Z32 HE1.out.b2 xs w.heap.size (w.heap.size + 1) w.heap.size 0 64 (by omega) HB.out (by rw [Hx.out]; omega) (by rw [Hx.out]; omega) (by rw [Hx.out]; omega) (by omega) (by omega) (by rw [Z32_length]; omega) hvw
    rw [← Hps.out, ← Hcs.out, splice_all (by rw [Hln.out, Z32_length]), Hx.out] at hN
    refine held_one 2 rfl rfl (by kernel_rfl) ?_
    refine wp_enter 15 #[.slice (some ⟨w.heap.size, 0, none⟩) 64 64, .slice (some ⟨w.heap.size + 1 + 1, 0, none⟩) 32 32] (by first | kernel_rfl | go_simp) hN ?_
    rintro e x2 ⟨⟨v, rfl⟩, ha2, c2⟩
    have HE2 : Hid (Dec3 w x2 L cs) := HE1.out.put c2 ha2
    refine ⟨_, rfl, trivial, ?_⟩
    clear hN ha2 c2 hvw
    go_simp
    refine held_done (by kernel_rfl) (NoPanic.normal ?_)
    go_wp2
    go_meet
    exact HE2.out
  case rest =>
    have HBm : Hid (Dec3 w wc L cs) := hcut
    generalize wc = wf at *
    have u44 := Try.underlying34
    have HR : Hid (wf.rangeAt (w.heap.size + 1 + 1) 0 cs) := HBm.out.b2.range
    have hb1 : wf.heap[w.heap.size + 1]? = some (.cells Z32.toArray 34 (0, 0)) := HBm.out.b1
    have HB1 : Hid (wf.heap[w.heap.size + 1]? = some (.cells Z32.toArray 34 (0, 0))) := hb1
    have hN := areBlocks_calls wf ps (w.heap.size + 1 + 1) 0 32 (by rw [Hpl.out]; omega) (fun i hi => by
      rw [Nat.zero_add]
      refine HBm.out.b2.cell i ?_
      rw [Hcs.out]
      simp [List.getD_eq_getElem?_getD, hi])
    rw [Hpl.out] at hN
    clear hcut HE0 hb1
    cases hb : ps.all blkB with
    | true =>
      rw [hb] at hN
      go_wp2_with (first
        | (go_at_call 16; refine hN.mono ?_; rintro e w' ⟨rfl, rfl⟩)
        | (refine wpList_load_mid rfl 34 (.tmp 4) rfl (w.heap.size + 1 + 1) 0 rfl cs _ HR.out u44 rfl hics ?_)
        | (refine wpList_store_row rfl 34 (.tmp 2) (.tmp 12) rfl rfl (w.heap.size + 1) rfl cs Z32 34 rfl HB1.out (by rw [Z32_length]; exact Hln.out) hics HV2.out ?_; intro wg hbg hcg))
      have HCg : Hid (Chg 0 0 w wg) := HBm.out.ch.step hcg (by omega)
      have hl1 : (loadVar 34 ⟨w.heap.size + 1, 0, none⟩).run Try.prog wg = .ok (.agg cs.toArray) wg := run_loadVar_mid _ _ _ _ cs _ (row_rng hbg) u44 rfl hics
      exact bodyPost_ret (v := .tuple #[.agg cs.toArray, .bool true]) (results_ct Try.results14 rfl rfl hl1) rfl ⟨by rw [Hvr.out, if_pos hb], HCg.out⟩
    | false =>
      rw [hb] at hN
      go_wp2_with (first
        | (go_at_call 16; refine hN.mono ?_; rintro e w' ⟨rfl, rfl⟩)
        | (refine wpList_store_row rfl 34 (.tmp 2) (.tmp 11) rfl rfl (w.heap.size + 1) rfl Z32 Z32 34 (by rw [← Z32_eq]; rfl) HB1.out rfl hicz Z32_one ?_; intro wg hbg hcg))
      have HCg : Hid (Chg 0 0 w wg) := HBm.out.ch.step hcg (by omega)
      have hl1 : (loadVar 34 ⟨w.heap.size + 1, 0, none⟩).run Try.prog wg = .ok (.agg Z32.toArray) wg := run_loadVar_mid _ _ _ _ Z32 _ (row_rng hbg) u44 rfl hicz
      exact bodyPost_ret (v := .tuple #[.agg Z32.toArray, .bool false]) (results_ct Try.results14 rfl rfl hl1) rfl ⟨by rw [Hvr.out, if_neg (by rw [hb]; simp)], HCg.out⟩

theorem decPs_gps (xs : List Int) : decPs xs 32 = gps xs 32 := rfl

set_option maxRecDepth 20000 in
set_option maxHeartbeats 1000000 in
theorem decPtr_some (w : World) (xs : List Int) (b off cap : Nat) (hB : Byt xs) (hl : xs.length = 64)
    (h1 : ∀ i, i < xs.length → w.cell? ⟨b, off + i, none⟩ = some (.int .u8 (xs.getD i 0))) :
    Calls Try.prog 6 #[.slice (some ⟨b, off, none⟩) xs.length cap] w fun e w' => ∃ v K, e = .returned v ∧ OwnF 1 w' w.heap.size 34 v K (decP xs) ∧ K ≤ 32 ∧ Chg 0 0 w w' := by
  obtain ⟨L, hL⟩ : ∃ L, L = xs.map (Value.int .u8) := ⟨_, rfl⟩
  have hLl : L.length = 64 := by rw [hL, List.length_map]; exact hl
  have hR : w.rangeAt b off L := by
    intro j v hj
    have hjl : j < xs.length := by have := (List.getElem?_eq_some_iff.1 hj).1; rw [hLl] at this; omega
    rw [h1 j hjl, ← hj, hL]
    simp [List.getD_eq_getElem?_getD, hjl]
  have hiL : (Try.prog.info? 38).map (·.size) = some L.length := by rw [hLl]; kernel_rfl
  have hN := readPs_calls w xs hl hB
  rw [← hL] at hN
  have HE : Hid (decP xs = if (gps xs 32).all blkB = true then gps xs 32 else []) := by
    show _ = _
    unfold decP
    by_cases h : (gps xs 32).all blkB = true
    · rw [if_pos h, if_pos ⟨hl, (all_goodP xs).1 h⟩]; rfl
    · rw [if_neg h, if_neg (fun h' => h ((all_goodP xs).2 h'.2))]
  have HR : Hid (w.rangeAt b off L) := hR
  have har : ∀ x : World, (Instr.arrayAt 38 (.slice (some ⟨b, off, none⟩) 64 cap)).run Try.prog x = .ok (.pointer (some ⟨b, off, none⟩)) x := fun x => by simp [Instr.arrayAt, run_underlying Try.underlying38]
  have hpl := gps_len xs 32
  rw [hl]
  generalize gps xs 32 = ps at *
  obtain ⟨cs, hcs⟩ : ∃ cs, cs = ps.map (Value.int .i64) := ⟨_, rfl⟩
  rw [← hcs] at hN
  have hln : cs.length = 32 := by rw [hcs, List.length_map]; exact hpl
  have Hln : Hid (cs.length = 32) := hln
  have HV2 : Hid (∀ v ∈ cs, v.oneCell' = true) := by show ∀ v ∈ cs, v.oneCell' = true; rw [hcs]; exact ints_oneCell _ _
  have hics : (Try.prog.info? 34).map (·.size) = some cs.length := by rw [hln]; kernel_rfl
  have hicz : (Try.prog.info? 34).map (·.size) = some Z32.length := by rw [Z32_length]; kernel_rfl
  have Hcs : Hid (cs = ps.map (Value.int .i64)) := hcs
  have Hpl : Hid (ps.length = 32) := hpl
  clear hL hLl hR h1 hl hB hcs hln hpl
  cases hb : ps.all blkB with
  | true =>
    rw [hb, if_pos rfl] at hN
    rw [hb, if_pos rfl] at HE
    go_enter Try.func6, Try.ntmps6
    go_wp2_with (first
      | (refine wpList_load_mid rfl 38 (.tmp 10) rfl b off rfl L _ HR.out Try.underlying38 rfl hiL ?_)
      | (go_at_call 14; refine hN.mono ?_; rintro e w2 ⟨rfl, hc2⟩)
      | (refine wpList_store_row rfl 34 (.tmp 3) (.tmp 13) rfl rfl w2.heap.size rfl cs Z32 34 rfl (by rw [← Z32_eq]; exact heap_new w2 _) (by rw [Z32_length]; exact Hln.out) hics HV2.out ?_; intro wg hbg hcg))
    go_ret
    have hs := hc2.size
    refine ⟨_, 32, rfl, ?_, Nat.le_refl _, hc2.trans ((Chg.alloc (Chg.refl 0 0 w2) _).step hcg (by omega))⟩
    rw [HE.out]
    refine ⟨by rw [List.length_map, Hpl.out], Or.inr ⟨w2.heap.size, 32, cs.toArray, rfl, hs, hbg, Nat.le_refl _, by unfold maxLen; omega, by simpa using Hln.out, ?_⟩⟩
    rw [List.take_of_length_le (by simp; rw [Hln.out]; omega)]
    exact Hcs.out
  | false =>
    rw [hb, if_neg (by simp)] at hN
    rw [hb, if_neg (by simp)] at HE
    go_enter Try.func6, Try.ntmps6
    go_wp2_with (first
      | (refine wpList_load_mid rfl 38 (.tmp 10) rfl b off rfl L _ HR.out Try.underlying38 rfl hiL ?_)
      | (go_at_call 14; refine hN.mono ?_; rintro e w2 ⟨rfl, hc2⟩)
      | (refine wpList_store_row rfl 34 (.tmp 3) (.tmp 13) rfl rfl w2.heap.size rfl Z32 Z32 34 rfl (by rw [← Z32_eq]; exact heap_new w2 _) rfl hicz Z32_one ?_; intro wg hbg hcg))
    go_ret
    refine ⟨_, 0, rfl, ?_, by omega, hc2.trans ((Chg.alloc (Chg.refl 0 0 w2) _).step hcg (by omega))⟩
    rw [HE.out]
    exact ⟨rfl, Or.inl ⟨rfl, rfl⟩⟩

set_option maxRecDepth 20000 in
set_option maxHeartbeats 400000 in
theorem decPtr_other (w : World) (n : Nat) (ao : Option Addr) (cap : Nat) (hn : ¬ n = 64) (_hl : n ≤ 1048576) :
    Calls Try.prog 6 #[.slice ao n cap] w fun e w' => ∃ v K, e = .returned v ∧ OwnF 1 w' w.heap.size 34 v K [] ∧ K ≤ 32 ∧ Chg 0 0 w w' := by
  have hne : ((n : Int) != 64) = true := by simp; omega
  go_enter Try.func6, Try.ntmps6
  go_wp2
  go_ret
  exact ⟨_, 0, rfl, ⟨rfl, Or.inl ⟨rfl, rfl⟩⟩, by omega, Chg.refl _ _ _⟩

theorem implDecodePointers_calls (w : World) {lo hi : Nat} {a : Value} {xs : List Int} (hB : Byt xs) (hl : xs.length ≤ 1048576) (h1 : View w lo hi .u8 a xs) :
    Calls Try.prog 6 #[a] w fun e w' => ∃ v K, e = .returned v ∧ OwnF 1 w' w.heap.size 34 v K (decP xs) ∧ K ≤ 32 ∧ Chg 0 0 w w' := by
  obtain ⟨ao, cap, rfl, _, _, h1⟩ := h1
  by_cases hn : xs.length = 64
  · rcases h1 with rfl | ⟨x, off, rfl, _, _, h1⟩
    · simp at hn
    · exact decPtr_some w xs x off cap hB hn h1
  · rw [show decP xs = [] from by unfold decP; rw [if_neg (fun h => hn h.1)]]
    exact decPtr_other w xs.length ao cap hn hl

end Go.Proofs.Ytdfpllijijaeiaa
