/- EncodeDescriptor of the model, of a block that is valid. -/
import Derived.Test.YteligghapkleaaaGreatDoorAs
import Derived.Test.YteligghapkleaaaGreatDoorMg
namespace Go.Proofs.YteligghapkleaaaGreatDoor
open Go.RowKit

set_option maxRecDepth 20000 in
set_option maxHeartbeats 4000000 in
theorem specDesc_calls (w : World) (q : Int) (ts : List (Int × Bool)) (b off cap : Nat) (hq0 : 1 ≤ q) (hq1 : q ≤ 4294967295) (hl0 : 1 ≤ ts.length) (hl : ts.length ≤ 17) (hR : Rises (ts.map (·.1)) ts.length)
    (h1 : ∀ i, i < ts.length → w.cell? ⟨b, off + i * 2, none⟩ = some (.int .i64 (ts.getD i (0, false)).1) ∧ w.cell? ⟨b, off + i * 2 + 1, none⟩ = some (.bool (ts.getD i (0, false)).2)) :
    Calls Tryz.prog 33 #[.agg #[.int .i64 q, .slice (some ⟨b, off, none⟩) ts.length cap]] w fun e w' => ∃ v, e = .returned v ∧ OwnB w' w.heap.size 5 v (padL (headL 2 ts.length q ++ tagsL ts)) ∧ Chg 0 0 w w' := by
  have C0 : Chg 0 0 w (w.alloc (.cells #[.int .i64 q, .slice (some ⟨b, off, none⟩) ts.length cap] 68)) := Chg.alloc (Chg.refl 0 0 w) _
  have B0 := heap_new w (.cells #[.int .i64 q, .slice (some ⟨b, off, none⟩) ts.length cap] 68)
  have hc2 := pn2 (v := (ts.length : Int)) (by omega) (by omega)
  have hq4 := pn4 (v := q) (by omega) hq1
  have HY : Hid ((headL 2 (ts.length : Int) q).length = 12) := headL_len hc2 hq4
  have hsq := fun w => l3GoodSeq_calls w q
  rw [show goodSeq q = true from by unfold goodSeq; rw [← Bool.decide_and]; exact decide_eq_true ⟨hq0, hq1⟩] at hsq
  have hhd := fun w => l3Head_calls w 2 (ts.length : Int) q (by omega) (by omega) (by omega) hc2 hq4
  have HR : Hid (Rises (ts.map (·.1)) ts.length) := hR
  have H1 : Hid (∀ i, i < ts.length → w.cell? ⟨b, off + i * 2, none⟩ = some (.int .i64 (ts.getD i (0, false)).1) ∧ w.cell? ⟨b, off + i * 2 + 1, none⟩ = some (.bool (ts.getD i (0, false)).2)) := h1
  have s0 : (w.alloc (.cells #[.int .i64 q, .slice (some ⟨b, off, none⟩) ts.length cap] 68)).heap.size = w.heap.size + 1 := by simp
  obtain ⟨n, hn⟩ : ∃ n, n = ts.length := ⟨_, rfl⟩
  have Hn : Hid (n = ts.length) := hn
  rw [← hn] at hl0 hl hhd HY B0 C0 s0 ⊢
  clear hR h1 hc2 hq4 hn
  obtain ⟨k0, k1, _, _⟩ := two_cells B0
  go_enter Tryz.func33, Tryz.ntmps33
  go_wp2_with fail
  generalize w.alloc (.cells #[.int .i64 q, .slice (some ⟨b, off, none⟩) n cap] 68) = w0 at *
  refine (hsq _).mono ?_
  rintro e w1 ⟨rfl, rfl⟩
  have hn1 : ¬ ((n : Int) < 1) := by omega
  have hn2 : ¬ ((17 : Int) < (n : Int)) := by omega
  clear hsq
  go_wp2_with fail
  clear hn1 hn2
  refine (hhd _).mono ?_
  rintro e w2 ⟨v2, rfl, o2, h2⟩
  have HB2 : Hid (w2.heap[w.heap.size]? = some (.cells #[.int .i64 q, .slice (some ⟨b, off, none⟩) n cap] 68 (0, 0))) := (h2.block _ (by omega) (by omega)).trans B0
  obtain ⟨g2, gc2, rfl⟩ := o2.some_of (by rw [HY.out]; omega)
  rw [HY.out] at o2 ⊢
  have HO2 : Hid (OwnB w2 (w.heap.size + 1) 5 (.slice (some ⟨g2, 0, none⟩) 12 gc2) (headL 2 (n : Int) q)) := o2.base (fun g hg => by have := (o2.lt g hg).1; omega)
  have HC2 : Hid (Chg 0 0 w w2) := C0.trans h2
  clear hhd o2 h2 B0 C0 k0 k1
  go_wp2
  go_loopw [5, 6] (fun o x wr => ∃ k : Nat, k ≤ n ∧ x = .int .i64 k ∧ (∃ g cp, o = .slice (some ⟨g, 0, none⟩) (12 + 3 * k) cp) ∧ OwnB wr (w.heap.size + 1) 5 o (headL 2 (n : Int) q ++ tagsL (ts.take k)) ∧ wr.heap[w.heap.size]? = some (.cells #[.int .i64 q, .slice (some ⟨b, off, none⟩) n cap] 68 (0, 0)) ∧ Chg 0 0 w wr) (fun _ x _ => n - (intOf x).toNat)
  case atStart => exact ⟨0, Nat.zero_le _, rfl, ⟨_, _, rfl⟩, by rw [List.take_zero]; show OwnB _ _ _ _ (_ ++ []); rw [List.append_nil]; exact HO2.out, HB2.out, HC2.out⟩
  case round =>
    clear HO2 HB2 HC2
    obtain ⟨k, hk, rfl, ⟨g, cp, rfl⟩, ho, hb, hc⟩ := hrel
    have HBx := tags_mem (HR.out.bound (by rw [List.length_map]; exact Nat.le_refl _))
    have hyl : (headL 2 (n : Int) q ++ tagsL (ts.take k)).length = 12 + 3 * k := by rw [List.length_append, HY.out, tagsL_len (fun x hx => HBx x (List.mem_of_mem_take hx)), List.length_take]; have := Hn.out; omega
    by_cases hlt : k < n
    · have hltx : k < ts.length := by have := Hn.out; omega
      obtain ⟨r1, r2⟩ := H1.out k hltx
      have c1 := hc.cell r1 (by omega)
      have cb := hc.cell r2 (by omega)
      clear r1 r2
      have hi : (k : Int) < (n : Int) := by omega
      have hx : ts.getD k (0, false) = ts[k] := by simp [List.getD_eq_getElem?_getD, hltx]
      obtain ⟨g0, g1⟩ := HBx _ (List.getElem_mem hltx)
      rw [← hx] at g0 g1
      obtain ⟨k0, k1, _, _⟩ := two_cells hb
      have HC : Hid (Chg 0 0 w wr) := hc
      have HO : Hid (OwnB wr (w.heap.size + 1) 5 (.slice (some ⟨g, 0, none⟩) (12 + 3 * k) cp) (headL 2 (n : Int) q ++ tagsL (ts.take k))) := ho
      have HB : Hid (wr.heap[w.heap.size]? = some (.cells #[.int .i64 q, .slice (some ⟨b, off, none⟩) n cap] 68 (0, 0))) := hb
      have HT : Hid (headL 2 (n : Int) q ++ tagsL (ts.take (k + 1)) = headL 2 (n : Int) q ++ tagsL (ts.take k) ++ putN (ts.getD k (0, false)).1 2 ++ [if (ts.getD k (0, false)).2 then 1 else 0]) := by show _ = _; rw [tagsL_take hltx]; unfold tagL; rw [← List.append_assoc, ← List.append_assoc]
      have H2 : Hid _ := put2_len ⟨g0, g1⟩
      have HYl : Hid _ := hyl
      have hN := l3GoodBlock_calls wr (ts.getD k (0, false)).1
      rw [show (decide (0 ≤ (ts.getD k (0, false)).1) && decide ((ts.getD k (0, false)).1 < 2048)) = true from by rw [decide_eq_true g0, decide_eq_true g1]; rfl] at hN
      have HF : Hid (∀ w2 : World, Same wr w2 → Hid (OwnB w2 (w.heap.size + 1) 5 (.slice (some ⟨g, 0, none⟩) (12 + 3 * k) cp) (headL 2 (n : Int) q ++ tagsL (ts.take k)) ∧ w2.heap[w.heap.size]? = some (.cells #[.int .i64 q, .slice (some ⟨b, off, none⟩) n cap] 68 (0, 0)) ∧ Chg 0 0 w w2 ∧ w2.cell? ⟨b, off + k * 2 + 1, none⟩ = some (.bool (ts.getD k (0, false)).2))) := fun w2 h => ⟨HO.out.chg (h.chg 0 0) (by intro g _; omega), by rw [h.heap]; exact HB.out, HC.out.trans (h.chg 0 0), (h.cell _).trans cb⟩
      have HXk : Hid (∀ j, k = j + 1 → wr.cell? ⟨b, off + j * 2, none⟩ = some (.int .i64 (ts.getD j (0, false)).1) ∧ (ts.getD j (0, false)).1 < (ts.getD k (0, false)).1) := fun j e => ⟨hc.cell (H1.out j (by omega)).1 (by omega), by rw [e, ← tags_getD, ← tags_getD]; exact HR.out.ahead (by omega)⟩
      have hbl := lt_of_cell cb
      have hbw := lt_of_cell (H1.out k hltx).1
      generalize (ts.getD k (0, false)).1 = y at *
      generalize (ts.getD k (0, false)).2 = ee at *
      generalize headL 2 (n : Int) q ++ tagsL (ts.take k) = L at *
      go_wp2_with fail
      refine hN.mono ?_
      rintro e w2 ⟨rfl, rfl⟩
      by_cases hk0 : k = 0
      · subst hk0
        simp only [Nat.zero_mul, Nat.add_zero] at c1
        go_wp2
        go_quiet (fail)
        go_wp2_with fail
        have hf := HF.out _ ((Same.refl w2).drewN nq)
        generalize w2.drewN nq = w3 at *
        have HO3 : Hid (OwnB w3 (w.heap.size + 1) 5 (.slice (some ⟨g, 0, none⟩) (12 + 3 * 0) cp) L) := hf.out.1
        have HB3 : Hid _ := hf.out.2.1
        have HC3 : Hid _ := hf.out.2.2.1
        have HE3 : Hid _ := hf.out.2.2.2
        have hN := specPut_calls w3 y 2 (by omega)
        refine hN.mono ?_
        rintro e w4 ⟨r, rfl, or', h4⟩
        have s3 := (Array.getElem?_eq_some_iff.1 HB3.out).1
        have s4 := h4.size
        have HO4 : Hid (OwnB w4 (w.heap.size + 1) 5 (.slice (some ⟨g, 0, none⟩) (12 + 3 * 0) cp) L) := HO3.out.chg h4 (by intro g _; omega)
        have HV4 : Hid (View w4 w3.heap.size w4.heap.size .u8 r (putN y 2)) := or'.view (by rw [H2.out]; omega) (fun g hg => (or'.lt g hg).2)
        have HC4 : Hid _ := HC3.out.trans h4
        have HB4 : Hid _ := (h4.block _ (Array.getElem?_eq_some_iff.1 HB3.out).1 (by omega)).trans HB3.out
        have HE4 : Hid _ := h4.cell HE3.out (by omega)
        obtain ⟨r0, r1, r2, rfl⟩ := row_slice or'
        go_wp2_with (at_builtin; refine wpList_app_seen rfl (.tmp 64) (.tmp 71) rfl (w.heap.size + 1) _ L rfl HO4.out (by omega) _ _ _ (putN y 2) rfl HV4.out (by rw [H2.out]; omega) (by rw [H2.out, HYl.out]; omega) ?_)
        intro v' w5 ho5 hc5
        have HO5 : Hid (OwnB w5 (w.heap.size + 1) 5 v' (L ++ putN y 2)) := ho5
        have HC5 : Hid _ := HC4.out.step hc5 (by omega)
        have hlt5 := (Array.getElem?_eq_some_iff.1 HB4.out).1
        have HB5 : Hid _ := (hc5.block _ hlt5 (by omega)).trans HB4.out
        have ce := hc5.cell HE4.out (by omega)
        have hlt6 := (Array.getElem?_eq_some_iff.1 HB5.out).1
        obtain ⟨kk0, kk1, _, _⟩ := two_cells HB5.out
        obtain ⟨vg, vc, rfl⟩ := ho5.some_of (by rw [List.length_append, H2.out]; omega)
        have HLl : Hid ((L ++ putN y 2).length = 12 + 3 * 0 + 2) := by show _ = _; rw [List.length_append, H2.out, HYl.out]
        rw [HLl.out] at HO5 ⊢
        simp only [Nat.zero_mul, Nat.add_zero] at ce
        cases ee with
        | true =>
          have HTx : Hid (headL 2 (n : Int) q ++ tagsL (ts.take (0 + 1)) = L ++ (putN y 2 ++ [1])) := by show _ = _; rw [HT.out]; simp
          have e6 : Chg 0 0 w5 (w5.alloc (.cells #[.int .u8 1] 5)) := Chg.alloc (Chg.refl 0 0 w5) _
          have HO6 : Hid (OwnB (w5.alloc (.cells #[.int .u8 1] 5)) (w.heap.size + 1) 5 (.slice (some ⟨vg, 0, none⟩) (12 + 3 * 0 + 2) vc) (L ++ putN y 2)) := HO5.out.chg e6 (by intro g _; omega)
          have HV6 : Hid (View (w5.alloc (.cells #[.int .u8 1] 5)) w5.heap.size (w5.heap.size + 1) .u8 (.slice (some ⟨w5.heap.size, 0, none⟩) 1 1) [1]) := by
            refine ⟨_, 1, rfl, by simp, ⟨by simp, by simp⟩, Or.inr ⟨_, 0, rfl, Nat.le_refl _, Nat.lt_succ_self _, fun i hi => ?_⟩⟩
            have hi2 : i < 1 := by simpa using hi
            have hnw := heap_new w5 (.cells #[.int .u8 1] 5)
            simp only [World.cell?, hnw]
            rcases i with _ | i
            all_goals first | rfl | omega
          have HC6 : Hid _ := HC5.out.trans e6
          have HB6 : Hid _ := (e6.block _ hlt6 (by omega)).trans HB5.out
          have b6 : Hid (w.heap.size + 1 ≤ (w5.alloc (.cells #[.int .u8 1] 5)).heap.size) := by show _ ≤ _; have := e6.size; omega
          go_wp2_with (at_builtin; refine wpList_app_seen rfl (.tmp 79) (.tmp 80) rfl (w.heap.size + 1) _ (L ++ putN y 2) rfl HO6.out b6.out _ _ _ [1] rfl HV6.out (by simp) (by rw [HLl.out]; show _ + 1 ≤ _; omega) ?_)
          intro v7 w7 ho7 hc7
          have HO7 : Hid (OwnB w7 (w.heap.size + 1) 5 v7 (headL 2 (n : Int) q ++ tagsL (ts.take (0 + 1)))) := by show OwnB _ _ _ _ _; rw [HTx.out]; exact ho7
          have HC7 : Hid _ := HC6.out.step hc7 (by omega)
          have HB7 : Hid _ := (hc7.block _ (Array.getElem?_eq_some_iff.1 HB6.out).1 (by omega)).trans HB6.out
          have HV7 : Hid (∃ g cp, v7 = .slice (some ⟨g, 0, none⟩) (12 + 3 * (0 + 1)) cp) := by
            have hl5 : (headL 2 (n : Int) q ++ tagsL (ts.take (0 + 1))).length = 12 + 3 * (0 + 1) := by
              rw [HTx.out, List.length_append, List.length_append, H2.out, HYl.out]
              show _ + (2 + 1) = _
              omega
            obtain ⟨g', c', e'⟩ := HO7.out.some_of (by rw [hl5]; omega)
            exact ⟨g', c', by rw [e', hl5]⟩
          go_wp2
          go_roundw
          case rel => exact ⟨0 + 1, by omega, by go_num, HV7.out, HO7.out, HB7.out, HC7.out⟩
          case measure => simp [intOf]; omega
        | false =>
          have HTx : Hid (headL 2 (n : Int) q ++ tagsL (ts.take (0 + 1)) = L ++ (putN y 2 ++ [0])) := by show _ = _; rw [HT.out]; simp
          have e6 : Chg 0 0 w5 (w5.alloc (.cells #[.int .u8 0] 5)) := Chg.alloc (Chg.refl 0 0 w5) _
          have HO6 : Hid (OwnB (w5.alloc (.cells #[.int .u8 0] 5)) (w.heap.size + 1) 5 (.slice (some ⟨vg, 0, none⟩) (12 + 3 * 0 + 2) vc) (L ++ putN y 2)) := HO5.out.chg e6 (by intro g _; omega)
          have HV6 : Hid (View (w5.alloc (.cells #[.int .u8 0] 5)) w5.heap.size (w5.heap.size + 1) .u8 (.slice (some ⟨w5.heap.size, 0, none⟩) 1 1) [0]) := by
            refine ⟨_, 1, rfl, by simp, ⟨by simp, by simp⟩, Or.inr ⟨_, 0, rfl, Nat.le_refl _, Nat.lt_succ_self _, fun i hi => ?_⟩⟩
            have hi2 : i < 1 := by simpa using hi
            have hnw := heap_new w5 (.cells #[.int .u8 0] 5)
            simp only [World.cell?, hnw]
            rcases i with _ | i
            all_goals first | rfl | omega
          have HC6 : Hid _ := HC5.out.trans e6
          have HB6 : Hid _ := (e6.block _ hlt6 (by omega)).trans HB5.out
          have b6 : Hid (w.heap.size + 1 ≤ (w5.alloc (.cells #[.int .u8 0] 5)).heap.size) := by show _ ≤ _; have := e6.size; omega
          go_wp2_with (at_builtin; refine wpList_app_seen rfl (.tmp 82) (.tmp 83) rfl (w.heap.size + 1) _ (L ++ putN y 2) rfl HO6.out b6.out _ _ _ [0] rfl HV6.out (by simp) (by rw [HLl.out]; show _ + 1 ≤ _; omega) ?_)
          intro v7 w7 ho7 hc7
          have HO7 : Hid (OwnB w7 (w.heap.size + 1) 5 v7 (headL 2 (n : Int) q ++ tagsL (ts.take (0 + 1)))) := by show OwnB _ _ _ _ _; rw [HTx.out]; exact ho7
          have HC7 : Hid _ := HC6.out.step hc7 (by omega)
          have HB7 : Hid _ := (hc7.block _ (Array.getElem?_eq_some_iff.1 HB6.out).1 (by omega)).trans HB6.out
          have HV7 : Hid (∃ g cp, v7 = .slice (some ⟨g, 0, none⟩) (12 + 3 * (0 + 1)) cp) := by
            have hl5 : (headL 2 (n : Int) q ++ tagsL (ts.take (0 + 1))).length = 12 + 3 * (0 + 1) := by
              rw [HTx.out, List.length_append, List.length_append, H2.out, HYl.out]
              show _ + (2 + 1) = _
              omega
            obtain ⟨g', c', e'⟩ := HO7.out.some_of (by rw [hl5]; omega)
            exact ⟨g', c', by rw [e', hl5]⟩
          go_wp2
          go_roundw
          case rel => exact ⟨0 + 1, by omega, by go_num, HV7.out, HO7.out, HB7.out, HC7.out⟩
          case measure => simp [intOf]; omega
      · obtain ⟨j, rfl⟩ : ∃ j, k = j + 1 := ⟨k - 1, by omega⟩
        obtain ⟨c0, hjy⟩ := HXk.out j rfl
        have hj1 : (0 : Int) < (j : Int) + 1 := by omega
        have hj2 : (j : Int) < (n : Int) := by omega
        generalize (ts.getD j (0, false)).1 = z at *
        go_wp2
        go_quiet (fail)
        go_wp2_with fail
        have hf := HF.out _ ((Same.refl w2).drewN nq)
        generalize w2.drewN nq = w3 at *
        have HO3 : Hid (OwnB w3 (w.heap.size + 1) 5 (.slice (some ⟨g, 0, none⟩) (12 + 3 * (j + 1)) cp) L) := hf.out.1
        have HB3 : Hid _ := hf.out.2.1
        have HC3 : Hid _ := hf.out.2.2.1
        have HE3 : Hid _ := hf.out.2.2.2
        have hN := specPut_calls w3 y 2 (by omega)
        refine hN.mono ?_
        rintro e w4 ⟨r, rfl, or', h4⟩
        have s3 := (Array.getElem?_eq_some_iff.1 HB3.out).1
        have s4 := h4.size
        have HO4 : Hid (OwnB w4 (w.heap.size + 1) 5 (.slice (some ⟨g, 0, none⟩) (12 + 3 * (j + 1)) cp) L) := HO3.out.chg h4 (by intro g _; omega)
        have HV4 : Hid (View w4 w3.heap.size w4.heap.size .u8 r (putN y 2)) := or'.view (by rw [H2.out]; omega) (fun g hg => (or'.lt g hg).2)
        have HC4 : Hid _ := HC3.out.trans h4
        have HB4 : Hid _ := (h4.block _ (Array.getElem?_eq_some_iff.1 HB3.out).1 (by omega)).trans HB3.out
        have HE4 : Hid _ := h4.cell HE3.out (by omega)
        obtain ⟨r0, r1, r2, rfl⟩ := row_slice or'
        go_wp2_with (at_builtin; refine wpList_app_seen rfl (.tmp 64) (.tmp 71) rfl (w.heap.size + 1) _ L rfl HO4.out (by omega) _ _ _ (putN y 2) rfl HV4.out (by rw [H2.out]; omega) (by rw [H2.out, HYl.out]; omega) ?_)
        intro v' w5 ho5 hc5
        have HO5 : Hid (OwnB w5 (w.heap.size + 1) 5 v' (L ++ putN y 2)) := ho5
        have HC5 : Hid _ := HC4.out.step hc5 (by omega)
        have hlt5 := (Array.getElem?_eq_some_iff.1 HB4.out).1
        have HB5 : Hid _ := (hc5.block _ hlt5 (by omega)).trans HB4.out
        have ce := hc5.cell HE4.out (by omega)
        have hlt6 := (Array.getElem?_eq_some_iff.1 HB5.out).1
        obtain ⟨kk0, kk1, _, _⟩ := two_cells HB5.out
        obtain ⟨vg, vc, rfl⟩ := ho5.some_of (by rw [List.length_append, H2.out]; omega)
        have HLl : Hid ((L ++ putN y 2).length = 12 + 3 * (j + 1) + 2) := by show _ = _; rw [List.length_append, H2.out, HYl.out]
        rw [HLl.out] at HO5 ⊢
        cases ee with
        | true =>
          have HTx : Hid (headL 2 (n : Int) q ++ tagsL (ts.take ((j + 1) + 1)) = L ++ (putN y 2 ++ [1])) := by show _ = _; rw [HT.out]; simp
          have e6 : Chg 0 0 w5 (w5.alloc (.cells #[.int .u8 1] 5)) := Chg.alloc (Chg.refl 0 0 w5) _
          have HO6 : Hid (OwnB (w5.alloc (.cells #[.int .u8 1] 5)) (w.heap.size + 1) 5 (.slice (some ⟨vg, 0, none⟩) (12 + 3 * (j + 1) + 2) vc) (L ++ putN y 2)) := HO5.out.chg e6 (by intro g _; omega)
          have HV6 : Hid (View (w5.alloc (.cells #[.int .u8 1] 5)) w5.heap.size (w5.heap.size + 1) .u8 (.slice (some ⟨w5.heap.size, 0, none⟩) 1 1) [1]) := by
            refine ⟨_, 1, rfl, by simp, ⟨by simp, by simp⟩, Or.inr ⟨_, 0, rfl, Nat.le_refl _, Nat.lt_succ_self _, fun i hi => ?_⟩⟩
            have hi2 : i < 1 := by simpa using hi
            have hnw := heap_new w5 (.cells #[.int .u8 1] 5)
            simp only [World.cell?, hnw]
            rcases i with _ | i
            all_goals first | rfl | omega
          have HC6 : Hid _ := HC5.out.trans e6
          have HB6 : Hid _ := (e6.block _ hlt6 (by omega)).trans HB5.out
          have b6 : Hid (w.heap.size + 1 ≤ (w5.alloc (.cells #[.int .u8 1] 5)).heap.size) := by show _ ≤ _; have := e6.size; omega
          go_wp2_with (at_builtin; refine wpList_app_seen rfl (.tmp 79) (.tmp 80) rfl (w.heap.size + 1) _ (L ++ putN y 2) rfl HO6.out b6.out _ _ _ [1] rfl HV6.out (by simp) (by rw [HLl.out]; show _ + 1 ≤ _; omega) ?_)
          intro v7 w7 ho7 hc7
          have HO7 : Hid (OwnB w7 (w.heap.size + 1) 5 v7 (headL 2 (n : Int) q ++ tagsL (ts.take ((j + 1) + 1)))) := by show OwnB _ _ _ _ _; rw [HTx.out]; exact ho7
          have HC7 : Hid _ := HC6.out.step hc7 (by omega)
          have HB7 : Hid _ := (hc7.block _ (Array.getElem?_eq_some_iff.1 HB6.out).1 (by omega)).trans HB6.out
          have HV7 : Hid (∃ g cp, v7 = .slice (some ⟨g, 0, none⟩) (12 + 3 * ((j + 1) + 1)) cp) := by
            have hl5 : (headL 2 (n : Int) q ++ tagsL (ts.take ((j + 1) + 1))).length = 12 + 3 * ((j + 1) + 1) := by
              rw [HTx.out, List.length_append, List.length_append, H2.out, HYl.out]
              show _ + (2 + 1) = _
              omega
            obtain ⟨g', c', e'⟩ := HO7.out.some_of (by rw [hl5]; omega)
            exact ⟨g', c', by rw [e', hl5]⟩
          go_wp2
          go_roundw
          case rel => exact ⟨(j + 1) + 1, by omega, by go_num, HV7.out, HO7.out, HB7.out, HC7.out⟩
          case measure => simp [intOf]; omega
        | false =>
          have HTx : Hid (headL 2 (n : Int) q ++ tagsL (ts.take ((j + 1) + 1)) = L ++ (putN y 2 ++ [0])) := by show _ = _; rw [HT.out]; simp
          have e6 : Chg 0 0 w5 (w5.alloc (.cells #[.int .u8 0] 5)) := Chg.alloc (Chg.refl 0 0 w5) _
          have HO6 : Hid (OwnB (w5.alloc (.cells #[.int .u8 0] 5)) (w.heap.size + 1) 5 (.slice (some ⟨vg, 0, none⟩) (12 + 3 * (j + 1) + 2) vc) (L ++ putN y 2)) := HO5.out.chg e6 (by intro g _; omega)
          have HV6 : Hid (View (w5.alloc (.cells #[.int .u8 0] 5)) w5.heap.size (w5.heap.size + 1) .u8 (.slice (some ⟨w5.heap.size, 0, none⟩) 1 1) [0]) := by
            refine ⟨_, 1, rfl, by simp, ⟨by simp, by simp⟩, Or.inr ⟨_, 0, rfl, Nat.le_refl _, Nat.lt_succ_self _, fun i hi => ?_⟩⟩
            have hi2 : i < 1 := by simpa using hi
            have hnw := heap_new w5 (.cells #[.int .u8 0] 5)
            simp only [World.cell?, hnw]
            rcases i with _ | i
            all_goals first | rfl | omega
          have HC6 : Hid _ := HC5.out.trans e6
          have HB6 : Hid _ := (e6.block _ hlt6 (by omega)).trans HB5.out
          have b6 : Hid (w.heap.size + 1 ≤ (w5.alloc (.cells #[.int .u8 0] 5)).heap.size) := by show _ ≤ _; have := e6.size; omega
          go_wp2_with (at_builtin; refine wpList_app_seen rfl (.tmp 82) (.tmp 83) rfl (w.heap.size + 1) _ (L ++ putN y 2) rfl HO6.out b6.out _ _ _ [0] rfl HV6.out (by simp) (by rw [HLl.out]; show _ + 1 ≤ _; omega) ?_)
          intro v7 w7 ho7 hc7
          have HO7 : Hid (OwnB w7 (w.heap.size + 1) 5 v7 (headL 2 (n : Int) q ++ tagsL (ts.take ((j + 1) + 1)))) := by show OwnB _ _ _ _ _; rw [HTx.out]; exact ho7
          have HC7 : Hid _ := HC6.out.step hc7 (by omega)
          have HB7 : Hid _ := (hc7.block _ (Array.getElem?_eq_some_iff.1 HB6.out).1 (by omega)).trans HB6.out
          have HV7 : Hid (∃ g cp, v7 = .slice (some ⟨g, 0, none⟩) (12 + 3 * ((j + 1) + 1)) cp) := by
            have hl5 : (headL 2 (n : Int) q ++ tagsL (ts.take ((j + 1) + 1))).length = 12 + 3 * ((j + 1) + 1) := by
              rw [HTx.out, List.length_append, List.length_append, H2.out, HYl.out]
              show _ + (2 + 1) = _
              omega
            obtain ⟨g', c', e'⟩ := HO7.out.some_of (by rw [hl5]; omega)
            exact ⟨g', c', by rw [e', hl5]⟩
          go_wp2
          go_roundw
          case rel => exact ⟨(j + 1) + 1, by omega, by go_num, HV7.out, HO7.out, HB7.out, HC7.out⟩
          case measure => simp [intOf]; omega
    · obtain rfl : k = n := by omega
      have ht : ts.take k = ts := List.take_of_length_le (by have := Hn.out; omega)
      rw [ht] at ho hyl
      have sz := hc.size
      have hN := l3PadE_calls wr (by rw [hyl]; omega) (ho.view (hi := wr.heap.size) (by rw [hyl]; omega) (fun g hg => (ho.lt g hg).2))
      have HC : Hid _ := hc
      have hge : ¬ ((k : Int) < (k : Int)) := by omega
      go_wp2_with fail
      refine hN.mono ?_
      rintro e w2 ⟨v, rfl, o2, h2⟩
      have HO2 : Hid (OwnB w2 w.heap.size 5 v (padL (headL 2 (k : Int) q ++ tagsL ts))) := o2.base (fun g hg => by have := (o2.lt g hg).1; omega)
      have HC2 : Hid _ := HC.out.trans h2
      go_wp2
      go_ret
      exact ⟨_, rfl, HO2.out, HC2.out⟩

end Go.Proofs.YteligghapkleaaaGreatDoor
