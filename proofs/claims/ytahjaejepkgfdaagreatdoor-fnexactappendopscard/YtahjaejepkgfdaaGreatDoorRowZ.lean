/- Several short texts in one: SpecRev, Cells2, RowZ. -/
import Derived.Test.YtahjaejepkgfdaaGreatDoorPutByt
import Derived.Test.YtahjaejepkgfdaaGreatDoorSpecBeg
import Derived.Test.YtahjaejepkgfdaaGreatDoorGoodBlk
import Derived.Test.YtahjaejepkgfdaaGreatDoorBytSeen
import Derived.Test.YtahjaejepkgfdaaGreatDoorByt
import Derived.Test.YtahjaejepkgfdaaGreatDoorCopyRow
import Derived.Deep.MidRow
namespace Go.Proofs.YtahjaejepkgfdaaGreatDoor
open Go.RowKit

theorem headL_len {k c q : Int} (hc : (putN c 2).length = 2) (hq : (putN q 4).length = 4) : (headL k c q).length = 12 := by
  unfold headL mg; simp [hc, hq]
theorem Rises.bound {xs : List Int} {n : Nat} (h : Rises xs n) (hn : xs.length ≤ n) : ∀ x ∈ xs, 0 ≤ x ∧ x < 2048 := by
  intro x hx
  obtain ⟨i, hi, rfl⟩ := List.mem_iff_getElem.1 hx
  have h1 := h.pos i (by omega)
  have h2 := (fol_iff.1 (h i (by omega))).2
  have e : xs.getD i 0 = xs[i] := by simp [List.getD_eq_getElem?_getD, hi]
  rw [e] at h1 h2
  exact ⟨h1, h2⟩
theorem Rises.ahead {xs : List Int} {n j : Nat} (h : Rises xs n) (hj : j + 1 < n) : xs.getD j 0 < xs.getD (j + 1) 0 := by
  have := (fol_iff.1 (h (j + 1) hj)).1
  rwa [show prevI xs (j + 1) = xs.getD j 0 from by unfold prevI; rw [if_neg (by omega)]; rfl] at this

set_option maxHeartbeats 1000000 in
theorem l3PadE_calls (w : World) {lo hi : Nat} {a : Value} {xs : List Int} (hl : xs.length ≤ 64) (h1 : View w lo hi .u8 a xs) :
    Calls Tryz.prog 69 #[a] w fun e w' => ∃ v, e = .returned v ∧ OwnB w' w.heap.size 5 v (padL xs) ∧ Chg 0 0 w w' := by
  have v0 := h1
  obtain ⟨ao, cap, rfl, _, _, _⟩ := h1
  obtain ⟨n, hn⟩ : ∃ n : Nat, n = 64 - xs.length := ⟨_, rfl⟩
  have hN : Calls Tryz.prog 64 #[.int .i64 (64 - (xs.length : Int))] w fun e w' => ∃ g, e = .returned (.slice (some ⟨g, 0, none⟩) n n) ∧ OwnB w' w.heap.size 5 (.slice (some ⟨g, 0, none⟩) n n) (List.replicate n 0) ∧ Chg 0 0 w w' := by
    have := l2Zero_calls w n (by omega)
    rwa [show ((n : Nat) : Int) = 64 - (xs.length : Int) by omega] at this
  have Hn : Hid _ := hn
  clear hn
  go_enter Tryz.func69, Tryz.ntmps69
  go_wp2_with fail
  refine hN.mono ?_
  rintro e w1 ⟨g, rfl, ho, hc⟩
  have hs := hc.size
  have hN2 := l2Join_any (xs := xs) (ys := List.replicate n 0) (lo' := w.heap.size) w1 (by omega) (by simp; have := Hn.out; omega) (v0.chg hc (by omega)) (ho.view (hi := w1.heap.size) (by simp; have := Hn.out; omega) (fun g hg => (ho.lt g hg).2))
  clear hN ho v0
  go_wp2_with fail
  refine hN2.mono ?_
  rintro e w2 ⟨v, rfl, o2, hc2⟩
  have HO : Hid (OwnB w2 w.heap.size 5 v (padL xs)) := by
    show OwnB _ _ _ _ _
    unfold padL
    rw [← Hn.out]
    exact o2.base (fun g hg => by have := (o2.lt g hg).1; omega)
  have HC : Hid _ := hc.trans hc2
  go_wp2
  go_ret
  exact ⟨_, rfl, HO.out, HC.out⟩

set_option maxRecDepth 20000 in
set_option maxHeartbeats 4000000 in
theorem specRevoke_calls (w : World) (q : Int) (xs : List Int) (b off cap : Nat) (hq0 : 1 ≤ q) (hq1 : q ≤ 4294967295) (hl0 : 1 ≤ xs.length) (hl : xs.length ≤ 26) (hR : Rises xs xs.length)
    (h1 : ∀ i, i < xs.length → w.cell? ⟨b, off + i, none⟩ = some (.int .i64 (xs.getD i 0))) :
    Calls Tryz.prog 65 #[.agg #[.int .i64 q, .slice (some ⟨b, off, none⟩) xs.length cap]] w fun e w' => ∃ v, e = .returned v ∧ OwnB w' w.heap.size 5 v (padL (headL 3 xs.length q ++ putPs xs)) ∧ Chg 0 0 w w' := by
  have C0 : Chg 0 0 w (w.alloc (.cells #[.int .i64 q, .slice (some ⟨b, off, none⟩) xs.length cap] 122)) := Chg.alloc (Chg.refl 0 0 w) _
  have B0 := heap_new w (.cells #[.int .i64 q, .slice (some ⟨b, off, none⟩) xs.length cap] 122)
  have hc2 := pn2 (v := (xs.length : Int)) (by omega) (by omega)
  have hq4 := pn4 (v := q) (by omega) hq1
  have HY : Hid ((headL 3 (xs.length : Int) q).length = 12) := headL_len hc2 hq4
  have hsq := fun w => l3GoodSeq_calls w q
  rw [show goodSeq q = true from by unfold goodSeq; rw [← Bool.decide_and]; exact decide_eq_true ⟨hq0, hq1⟩] at hsq
  have hhd := fun w => l3Head_calls w 3 (xs.length : Int) q (by omega) (by omega) (by omega) hc2 hq4
  have HR : Hid (Rises xs xs.length) := hR
  have H1 : Hid (∀ i, i < xs.length → w.cell? ⟨b, off + i, none⟩ = some (.int .i64 (xs.getD i 0))) := h1
  have s0 : (w.alloc (.cells #[.int .i64 q, .slice (some ⟨b, off, none⟩) xs.length cap] 122)).heap.size = w.heap.size + 1 := by simp
  obtain ⟨n, hn⟩ : ∃ n, n = xs.length := ⟨_, rfl⟩
  have Hn : Hid (n = xs.length) := hn
  rw [← hn] at hl0 hl hhd HY B0 C0 s0 ⊢
  clear hR h1 hc2 hq4 hn
  obtain ⟨k0, k1, _, _⟩ := two_cells B0
  go_enter Tryz.func65, Tryz.ntmps65
  go_wp2_with fail
  generalize w.alloc (.cells #[.int .i64 q, .slice (some ⟨b, off, none⟩) n cap] 122) = w0 at *
  refine (hsq _).mono ?_
  rintro e w1 ⟨rfl, rfl⟩
  have hn1 : ¬ ((n : Int) < 1) := by omega
  have hn2 : ¬ ((26 : Int) < (n : Int)) := by omega
  clear hsq
  go_wp2_with fail
  clear hn1 hn2
  refine (hhd _).mono ?_
  rintro e w2 ⟨v2, rfl, o2, h2⟩
  have HB2 : Hid (w2.heap[w.heap.size]? = some (.cells #[.int .i64 q, .slice (some ⟨b, off, none⟩) n cap] 122 (0, 0))) := (h2.block _ (by omega) (by omega)).trans B0
  obtain ⟨g2, gc2, rfl⟩ := o2.some_of (by rw [HY.out]; omega)
  rw [HY.out] at o2 ⊢
  have HO2 : Hid (OwnB w2 (w.heap.size + 1) 5 (.slice (some ⟨g2, 0, none⟩) 12 gc2) (headL 3 (n : Int) q)) := o2.base (fun g hg => by have := (o2.lt g hg).1; omega)
  have HC2 : Hid (Chg 0 0 w w2) := C0.trans h2
  clear hhd o2 h2 B0 C0 k0 k1
  go_wp2
  go_loopw [5, 6] (fun o x wr => ∃ k : Nat, k ≤ n ∧ x = .int .i64 k ∧ (∃ g cp, o = .slice (some ⟨g, 0, none⟩) (12 + 2 * k) cp) ∧ OwnB wr (w.heap.size + 1) 5 o (headL 3 (n : Int) q ++ putPs (xs.take k)) ∧ wr.heap[w.heap.size]? = some (.cells #[.int .i64 q, .slice (some ⟨b, off, none⟩) n cap] 122 (0, 0)) ∧ Chg 0 0 w wr) (fun _ x _ => n - (intOf x).toNat)
  case atStart => exact ⟨0, Nat.zero_le _, rfl, ⟨_, _, rfl⟩, by rw [List.take_zero]; show OwnB _ _ _ _ (_ ++ []); rw [List.append_nil]; exact HO2.out, HB2.out, HC2.out⟩
  case round =>
    clear HO2 HB2 HC2
    obtain ⟨k, hk, rfl, ⟨g, cp, rfl⟩, ho, hb, hc⟩ := hrel
    have HBx := HR.out.bound (Nat.le_refl _)
    have hyl : (headL 3 (n : Int) q ++ putPs (xs.take k)).length = 12 + 2 * k := by rw [List.length_append, HY.out, putPs_len (fun x hx => HBx x (List.mem_of_mem_take hx)), List.length_take]; have := Hn.out; omega
    by_cases hlt : k < n
    · have hltx : k < xs.length := by have := Hn.out; omega
      have c1 := hc.cell (H1.out k hltx) (by omega)
      have hi : (k : Int) < (n : Int) := by omega
      have hx : xs.getD k 0 = xs[k] := by simp [List.getD_eq_getElem?_getD, hltx]
      obtain ⟨g0, g1⟩ := HBx _ (List.getElem_mem hltx)
      rw [← hx] at g0 g1
      obtain ⟨k0, k1, _, _⟩ := two_cells hb
      have HC : Hid (Chg 0 0 w wr) := hc
      have HO : Hid (OwnB wr (w.heap.size + 1) 5 (.slice (some ⟨g, 0, none⟩) (12 + 2 * k) cp) (headL 3 (n : Int) q ++ putPs (xs.take k))) := ho
      have HB : Hid (wr.heap[w.heap.size]? = some (.cells #[.int .i64 q, .slice (some ⟨b, off, none⟩) n cap] 122 (0, 0))) := hb
      have HT : Hid (headL 3 (n : Int) q ++ putPs (xs.take (k + 1)) = headL 3 (n : Int) q ++ putPs (xs.take k) ++ putN (xs.getD k 0) 2) := by show _ = _; rw [putPs_take hltx, ← List.append_assoc]
      have H2 : Hid _ := put2_len ⟨g0, g1⟩
      have HYl : Hid _ := hyl
      have hN := l3GoodBlock_calls wr (xs.getD k 0)
      rw [show (decide (0 ≤ xs.getD k 0) && decide (xs.getD k 0 < 2048)) = true from by rw [decide_eq_true g0, decide_eq_true g1]; rfl] at hN
      have fin : ∀ w2 : World, Same wr w2 → Hid (OwnB w2 (w.heap.size + 1) 5 (.slice (some ⟨g, 0, none⟩) (12 + 2 * k) cp) (headL 3 (n : Int) q ++ putPs (xs.take k)) ∧ w2.heap[w.heap.size]? = some (.cells #[.int .i64 q, .slice (some ⟨b, off, none⟩) n cap] 122 (0, 0)) ∧ Chg 0 0 w w2) := fun w2 h => ⟨HO.out.chg (h.chg 0 0) (by intro g _; omega), by rw [h.heap]; exact HB.out, HC.out.trans (h.chg 0 0)⟩
      have HF : Hid _ := fin
      clear fin
      have HXk : Hid (∀ j, k = j + 1 → wr.cell? ⟨b, off + j, none⟩ = some (.int .i64 (xs.getD j 0)) ∧ xs.getD j 0 < xs.getD k 0) := fun j e => ⟨hc.cell (H1.out j (by omega)) (by omega), by rw [e]; exact HR.out.ahead (by omega)⟩
      generalize xs.getD k 0 = y at *
      generalize headL 3 (n : Int) q ++ putPs (xs.take k) = L at *
      clear ho hc hx hb HBx hyl HB HC HO
      go_wp2_with fail
      refine hN.mono ?_
      rintro e w2 ⟨rfl, rfl⟩
      by_cases hk0 : k = 0
      · subst hk0
        rw [Nat.add_zero] at c1
        go_wp2
        go_quiet (fail)
        go_wp2_with fail
        have hf := HF.out _ ((Same.refl w2).drewN nq)
        generalize w2.drewN nq = w3 at *
        have HO3 : Hid (OwnB w3 (w.heap.size + 1) 5 (.slice (some ⟨g, 0, none⟩) (12 + 2 * 0) cp) L) := hf.out.1
        have HB3 : Hid _ := hf.out.2.1
        have HC3 : Hid _ := hf.out.2.2
        have hN := specPut_calls w3 y 2 (by omega)
        refine hN.mono ?_
        rintro e w4 ⟨r, rfl, or', h4⟩
        have s3 := (Array.getElem?_eq_some_iff.1 HB3.out).1
        have s4 := h4.size
        have HO4 : Hid (OwnB w4 (w.heap.size + 1) 5 (.slice (some ⟨g, 0, none⟩) (12 + 2 * 0) cp) L) := HO3.out.chg h4 (by intro g _; omega)
        have HV4 : Hid (View w4 w3.heap.size w4.heap.size .u8 r (putN y 2)) := or'.view (by rw [H2.out]; omega) (fun g hg => (or'.lt g hg).2)
        have HC4 : Hid _ := HC3.out.trans h4
        have HB4 : Hid _ := (h4.block _ (Array.getElem?_eq_some_iff.1 HB3.out).1 (by omega)).trans HB3.out
        obtain ⟨r0, r1, r2, rfl⟩ := row_slice or'
        go_wp2_with (at_builtin; refine wpList_app_seen rfl (.tmp 61) (.tmp 67) rfl (w.heap.size + 1) _ L rfl HO4.out (by omega) _ _ _ (putN y 2) rfl HV4.out (by rw [H2.out]; omega) (by rw [H2.out, HYl.out]; omega) ?_)
        intro v' w5 ho5 hc5
        have HO5 : Hid (OwnB w5 (w.heap.size + 1) 5 v' (headL 3 (n : Int) q ++ putPs (xs.take (0 + 1)))) := by show OwnB _ _ _ _ _; rw [HT.out]; exact ho5
        have HC5 : Hid _ := HC4.out.step hc5 (by omega)
        have hlt5 := (Array.getElem?_eq_some_iff.1 HB4.out).1
        have HB5 : Hid _ := (hc5.block _ hlt5 (by omega)).trans HB4.out
        have HV5 : Hid (∃ g cp, v' = .slice (some ⟨g, 0, none⟩) (12 + 2 * (0 + 1)) cp) := by
          have hl5 : (headL 3 (n : Int) q ++ putPs (xs.take (0 + 1))).length = 12 + 2 * (0 + 1) := by have e := congrArg List.length HT.out; have e2 : (L ++ putN y 2).length = L.length + (putN y 2).length := List.length_append; rw [H2.out, HYl.out] at e2; omega
          obtain ⟨g', c', e'⟩ := HO5.out.some_of (by rw [hl5]; omega)
          exact ⟨g', c', by rw [e', hl5]⟩
        go_wp2
        go_roundw
        case rel => exact ⟨0 + 1, by omega, by go_num, HV5.out, HO5.out, HB5.out, HC5.out⟩
        case measure => simp [intOf]; omega
      · obtain ⟨j, rfl⟩ : ∃ j, k = j + 1 := ⟨k - 1, by omega⟩
        obtain ⟨c0, hjy⟩ := HXk.out j rfl
        have hj1 : (0 : Int) < (j : Int) + 1 := by omega
        have hj2 : (j : Int) < (n : Int) := by omega
        generalize xs.getD j 0 = z at *
        go_wp2
        go_quiet (fail)
        go_wp2_with fail
        have hf := HF.out _ ((Same.refl w2).drewN nq)
        generalize w2.drewN nq = w3 at *
        have HO3 : Hid (OwnB w3 (w.heap.size + 1) 5 (.slice (some ⟨g, 0, none⟩) (12 + 2 * (j + 1)) cp) L) := hf.out.1
        have HB3 : Hid _ := hf.out.2.1
        have HC3 : Hid _ := hf.out.2.2
        have hN := specPut_calls w3 y 2 (by omega)
        refine hN.mono ?_
        rintro e w4 ⟨r, rfl, or', h4⟩
        have s3 := (Array.getElem?_eq_some_iff.1 HB3.out).1
        have s4 := h4.size
        have HO4 : Hid (OwnB w4 (w.heap.size + 1) 5 (.slice (some ⟨g, 0, none⟩) (12 + 2 * (j + 1)) cp) L) := HO3.out.chg h4 (by intro g _; omega)
        have HV4 : Hid (View w4 w3.heap.size w4.heap.size .u8 r (putN y 2)) := or'.view (by rw [H2.out]; omega) (fun g hg => (or'.lt g hg).2)
        have HC4 : Hid _ := HC3.out.trans h4
        have HB4 : Hid _ := (h4.block _ (Array.getElem?_eq_some_iff.1 HB3.out).1 (by omega)).trans HB3.out
        obtain ⟨r0, r1, r2, rfl⟩ := row_slice or'
        go_wp2_with (at_builtin; refine wpList_app_seen rfl (.tmp 61) (.tmp 67) rfl (w.heap.size + 1) _ L rfl HO4.out (by omega) _ _ _ (putN y 2) rfl HV4.out (by rw [H2.out]; omega) (by rw [H2.out, HYl.out]; omega) ?_)
        intro v' w5 ho5 hc5
        have HO5 : Hid (OwnB w5 (w.heap.size + 1) 5 v' (headL 3 (n : Int) q ++ putPs (xs.take ((j + 1) + 1)))) := by show OwnB _ _ _ _ _; rw [HT.out]; exact ho5
        have HC5 : Hid _ := HC4.out.step hc5 (by omega)
        have hlt5 := (Array.getElem?_eq_some_iff.1 HB4.out).1
        have HB5 : Hid _ := (hc5.block _ hlt5 (by omega)).trans HB4.out
        have HV5 : Hid (∃ g cp, v' = .slice (some ⟨g, 0, none⟩) (12 + 2 * ((j + 1) + 1)) cp) := by
          have hl5 : (headL 3 (n : Int) q ++ putPs (xs.take ((j + 1) + 1))).length = 12 + 2 * ((j + 1) + 1) := by have e := congrArg List.length HT.out; have e2 : (L ++ putN y 2).length = L.length + (putN y 2).length := List.length_append; rw [H2.out, HYl.out] at e2; omega
          obtain ⟨g', c', e'⟩ := HO5.out.some_of (by rw [hl5]; omega)
          exact ⟨g', c', by rw [e', hl5]⟩
        go_wp2
        go_roundw
        case rel => exact ⟨(j + 1) + 1, by omega, by go_num, HV5.out, HO5.out, HB5.out, HC5.out⟩
        case measure => simp [intOf]; omega
    · obtain rfl : k = n := by omega
      have ht : xs.take k = xs := List.take_of_length_le (by have := Hn.out; omega)
      rw [ht] at ho hyl
      have sz := hc.size
      have hN := l3PadE_calls wr (by rw [hyl]; omega) (ho.view (hi := wr.heap.size) (by rw [hyl]; omega) (fun g hg => (ho.lt g hg).2))
      have HC : Hid _ := hc
      have hge : ¬ ((k : Int) < (k : Int)) := by omega
      go_wp2_with fail
      refine hN.mono ?_
      rintro e w2 ⟨v, rfl, o2, h2⟩
      have HO2 : Hid (OwnB w2 w.heap.size 5 v (padL (headL 3 (k : Int) q ++ putPs xs))) := o2.base (fun g hg => by have := (o2.lt g hg).1; omega)
      have HC2 : Hid _ := HC.out.trans h2
      go_wp2
      go_ret
      exact ⟨_, rfl, HO2.out, HC2.out⟩

end Go.Proofs.YtahjaejepkgfdaaGreatDoor

namespace Go.Proofs.YtahjaejepkgfdaaGreatDoor
open Go.RowKit

theorem wpList_store_row {P : Program} {ops : Array Oper} {rest : List Oper} {op : Oper} {a : Act} {w : World} {Q : Exit → Act → World → Prop} (hgd : op.guard = none) (T : TypeId) (x y : Operand) (ho : op.op = .store T x y) (hd : op.dst = none) (g : Nat) (hx : a.eval x = .pointer (some ⟨g, 0, none⟩))
    (full L : List Value) (t : TypeId) (hy : a.eval y = .agg full.toArray) (hg : w.heap[g]? = some (.cells L.toArray t (0, 0))) (hl : full.length = L.length) (hi : (P.info? T).map (·.size) = some full.length) (h1 : ∀ v ∈ full, v.oneCell' = true)
    (h : ∀ w', w'.heap[g]? = some (.cells full.toArray t (0, 0)) → Chg g (g + 1) w w' → wpList P ops Q rest a w') : wpList P ops Q (op :: rest) a w :=
  wpList_plain hgd fun _ hK => wp_store_row T x y ho hd g hx full L t hy hg hl hi h1 (fun w' h2 h3 => hK _ _ (h w' h2 h3))

end Go.Proofs.YtahjaejepkgfdaaGreatDoor

namespace Go.Proofs.YtahjaejepkgfdaaGreatDoor
open Go.RowKit

theorem row_view {w : World} {b : Nat} {xs : List Int} {t : TypeId} (h : w.heap[b]? = some (.cells (xs.map (Value.int .u8)).toArray t (0, 0))) (o n cap : Nat) (hn : o + n ≤ xs.length) (hl : xs.length ≤ 1048576) (hc : n ≤ cap) : View w b (b + 1) .u8 (.slice (some ⟨b, o, none⟩) n cap) ((xs.drop o).take n) := by
  have hlen : ((xs.drop o).take n).length = n := by rw [List.length_take, List.length_drop]; omega
  refine ⟨_, cap, by rw [hlen], by rw [hlen]; omega, ⟨by rw [hlen]; exact hc, by simp⟩, Or.inr ⟨b, o, rfl, Nat.le_refl _, Nat.lt_succ_self _, fun i hi => ?_⟩⟩
  rw [hlen] at hi
  simp only [World.cell?, h, List.getElem?_toArray, List.getElem?_map, List.getD_eq_getElem?_getD, List.getElem?_take, List.getElem?_drop, if_pos hi]
  rw [List.getElem?_eq_getElem (show o + i < xs.length by omega)]
  rfl

theorem row_rng {w : World} {b : Nat} {cs : List Value} {t : TypeId} (h : w.heap[b]? = some (.cells cs.toArray t (0, 0))) : w.rangeAt b 0 cs := by
  intro j v hj
  rw [Nat.zero_add]
  simp [World.cell?, h, hj]

/-- 64 cells that bear 0, kept closed. -/
def Z64 : List Value := [.int .u8 0, .int .u8 0, .int .u8 0, .int .u8 0, .int .u8 0, .int .u8 0, .int .u8 0, .int .u8 0, .int .u8 0, .int .u8 0, .int .u8 0, .int .u8 0, .int .u8 0, .int .u8 0, .int .u8 0, .int .u8 0, .int .u8 0, .int .u8 0, .int .u8 0, .int .u8 0, .int .u8 0, .int .u8 0, .int .u8 0, .int .u8 0, .int .u8 0, .int .u8 0, .int .u8 0, .int .u8 0, .int .u8 0, .int .u8 0, .int .u8 0, .int .u8 0, .int .u8 0, .int .u8 0, .int .u8 0, .int .u8 0, .int .u8 0, .int .u8 0, .int .u8 0, .int .u8 0, .int .u8 0, .int .u8 0, .int .u8 0, .int .u8 0, .int .u8 0, .int .u8 0, .int .u8 0, .int .u8 0, .int .u8 0, .int .u8 0, .int .u8 0, .int .u8 0, .int .u8 0, .int .u8 0, .int .u8 0, .int .u8 0, .int .u8 0, .int .u8 0, .int .u8 0, .int .u8 0, .int .u8 0, .int .u8 0, .int .u8 0, .int .u8 0]

theorem Z64_eq : (#[.int .u8 0, .int .u8 0, .int .u8 0, .int .u8 0, .int .u8 0, .int .u8 0, .int .u8 0, .int .u8 0, .int .u8 0, .int .u8 0, .int .u8 0, .int .u8 0, .int .u8 0, .int .u8 0, .int .u8 0, .int .u8 0, .int .u8 0, .int .u8 0, .int .u8 0, .int .u8 0, .int .u8 0, .int .u8 0, .int .u8 0, .int .u8 0, .int .u8 0, .int .u8 0, .int .u8 0, .int .u8 0, .int .u8 0, .int .u8 0, .int .u8 0, .int .u8 0, .int .u8 0, .int .u8 0, .int .u8 0, .int .u8 0, .int .u8 0, .int .u8 0, .int .u8 0, .int .u8 0, .int .u8 0, .int .u8 0, .int .u8 0, .int .u8 0, .int .u8 0, .int .u8 0, .int .u8 0, .int .u8 0, .int .u8 0, .int .u8 0, .int .u8 0, .int .u8 0, .int .u8 0, .int .u8 0, .int .u8 0, .int .u8 0, .int .u8 0, .int .u8 0, .int .u8 0, .int .u8 0, .int .u8 0, .int .u8 0, .int .u8 0, .int .u8 0] : Array Value) = Z64.toArray := by unfold Z64; rfl

theorem Z64_length : Z64.length = 64 := by unfold Z64; rfl

theorem Z64_one : ∀ v ∈ Z64, v.oneCell' = true := by
  intro v hv
  have : v = .int .u8 0 := by
    have h : Z64 = List.replicate 64 (.int .u8 0) := by unfold Z64; rfl
    rw [h] at hv
    exact List.eq_of_mem_replicate hv
  rw [this]; rfl

/-- What lies in memory while a block is begun: the header, the block that is told, the block that is written. -/
structure Beg (w x : World) (hd : Obj) (cur : List Value) : Prop where
  b0 : x.heap[w.heap.size]? = some hd
  b1 : x.heap[w.heap.size + 1]? = some (.cells Z64.toArray 60 (0, 0))
  b2 : x.heap[w.heap.size + 1 + 1]? = some (.cells cur.toArray 60 (0, 0))
  ch : Chg 0 0 w x

theorem Beg.lt {w x : World} {hd : Obj} {cur : List Value} (h : Beg w x hd cur) : w.heap.size + 1 + 1 < x.heap.size := (Array.getElem?_eq_some_iff.1 h.b2).1

theorem Beg.chg {w x y : World} {hd : Obj} {cur : List Value} (h : Beg w x hd cur) (c : Chg 0 0 x y) : Beg w y hd cur :=
  have := h.lt
  ⟨(c.block _ (by omega) (by omega)).trans h.b0, (c.block _ (by omega) (by omega)).trans h.b1, (c.block _ (by omega) (by omega)).trans h.b2, h.ch.trans c⟩

theorem Beg.put {w x y : World} {hd : Obj} {cur cur' : List Value} (h : Beg w x hd cur) (c : Chg (w.heap.size + 1 + 1) (w.heap.size + 1 + 1 + 1) x y) (hb : y.heap[w.heap.size + 1 + 1]? = some (.cells cur'.toArray 60 (0, 0))) : Beg w y hd cur' :=
  have := h.lt
  ⟨(c.block _ (by omega) (by omega)).trans h.b0, (c.block _ (by omega) (by omega)).trans h.b1, hb, h.ch.step c (by omega)⟩

theorem View.cellAt' {w : World} {lo hi g n cap : Nat} {xs : List Int} (h : View w lo hi .u8 (.slice (some ⟨g, 0, none⟩) n cap) xs) (i : Nat) (hi : i < xs.length) : w.cell? ⟨g, i, none⟩ = some (.int .u8 (xs.getD i 0)) := by
  obtain ⟨_, _, e, _, _, h⟩ := h
  simp only [Value.slice.injEq] at e
  rcases h with h | ⟨b, off, ha, _, _, h3⟩
  · rw [h] at hi; simp at hi
  · rw [← e.1] at ha
    cases ha
    have := h3 i hi
    rwa [Nat.zero_add] at this

theorem results_one {P : Program} {fn : Func} {p : Tmp} {ty : TypeId} {w : World} {tmps : Array Value} {a : Addr} {v : Value} (h : fn.results = #[.cell p ty]) (ht : tmps.getD p undef = .pointer (some a)) (hl : (loadVar ty a).run P w = .ok v w) :
    (results fn tmps).run P w = .ok v w := by
  have ht' : tmps[p]?.getD undef = .pointer (some a) := by simpa using ht
  simp only [results, h]
  simp [asAddr, ht', hl]

end Go.Proofs.YtahjaejepkgfdaaGreatDoor
