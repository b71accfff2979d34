/- The law on FormatAnswer: the walk. (made by tools/mklawfmt.py) -/
import Derived.Test.YtoagahpoblcioaaDoorFmtImpl
import Derived.Test.YtoagahpoblcioaaDoorFmtSpec
import Derived.Test.YtoagahpoblcioaaDoorFmtArg4
namespace Go.Proofs.YtoagahpoblcioaaDoor
open Go.RowKit Go.Lib

/-- What the law holds in memory. -/
def FSt (w : World) (kind : Int) (path to' : ByteArray) (ch co cs : Int) (cd : ByteArray) (code : Int) (data : ByteArray) (na : Option Addr) (nc : Nat) (names : List ByteArray) (handle k l s b sq hd us rn cm : Int) (W : World) : Prop :=
  W.heap[w.heap.size]? = some (.cells (cCall kind path to' ch co cs cd) 23 (0, 0)) ∧ W.heap[w.heap.size + 1]? = some (.cells (cAns code data (.slice na names.length nc) handle k l s b sq hd us rn cm) 30 (0, 0)) ∧ Chg 0 0 w W
section
variable {w W W' : World} {kind : Int} {path to' : ByteArray} {ch co cs : Int} {cd : ByteArray} {code : Int} {data : ByteArray} {na : Option Addr} {nc : Nat} {names : List ByteArray} {handle k l s b sq hd us rn cm : Int}
theorem FSt.keep (h : FSt w kind path to' ch co cs cd code data na nc names handle k l s b sq hd us rn cm W) (c : Chg 0 0 W W') : FSt w kind path to' ch co cs cd code data na nc names handle k l s b sq hd us rn cm W' :=
  ⟨(c.block _ (Array.getElem?_eq_some_iff.1 h.1).1 (by omega)).trans h.1, (c.block _ (Array.getElem?_eq_some_iff.1 h.2.1).1 (by omega)).trans h.2.1, h.2.2.trans c⟩
theorem FSt.c (h : FSt w kind path to' ch co cs cd code data na nc names handle k l s b sq hd us rn cm W) : ∀ j, W.cell? ⟨w.heap.size, j, none⟩ = (cCall kind path to' ch co cs cd)[j]? := Lib.cell_of_heap h.1
theorem FSt.a (h : FSt w kind path to' ch co cs cd code data na nc names handle k l s b sq hd us rn cm W) : ∀ j, W.cell? ⟨w.heap.size + 1, j, none⟩ = (cAns code data (.slice na names.length nc) handle k l s b sq hd us rn cm)[j]? := Lib.cell_of_heap h.2.1
end

set_option maxRecDepth 20000 in
set_option maxHeartbeats 4000000 in
theorem lawFormat_walk (w : World) (kind : Int) (path to' : ByteArray) (ch co cs : Int) (cd : ByteArray) (code : Int) (data : ByteArray) (na : Option Addr) (nc : Nat) (names : List ByteArray) (handle k l s b sq hd us rn cm : Int)
    (hI : In64 [code, handle, k, l, s, b, sq, hd, us, rn, cm]) (z1 : path.size ≤ 9223372036854775807) (z2 : to'.size ≤ 9223372036854775807) (z3 : cd.size ≤ 9223372036854775807) (z4 : data.size ≤ 9223372036854775807) (hz : ∀ n ∈ names, n.size ≤ 9223372036854775807)
    (hN : SView w 0 w.heap.size (.slice na names.length nc) names) (hp : Pow w) :
    Calls Tryd.prog 3 #[.agg (cCall kind path to' ch co cs cd), .agg (cAns code data (.slice na names.length nc) handle k l s b sq hd us rn cm)] w fun e w' => e = .returned (.bool true) ∧ Below w.heap.size w w' := by
  have hmx : Tryd.prog.follows .mixedOrders = true := by kernel_rfl
  obtain ⟨fA, fB, fs, fc⟩ := two_new w (.cells (cCall kind path to' ch co cs cd) 23) (.cells (cAns code data (.slice na names.length nc) handle k l s b sq hd us rn cm) 30)
  have HS0 : Hid (FSt w kind path to' ch co cs cd code data na nc names handle k l s b sq hd us rn cm ((w.alloc (.cells (cCall kind path to' ch co cs cd) 23)).alloc (.cells (cAns code data (.slice na names.length nc) handle k l s b sq hd us rn cm) 30))) := ⟨fA, fB, fc⟩
  have hC := fun W => szCall_calls W kind path to' ch co cs cd 1048576 (by omega) (by omega) z1 z2 z3
  have HN : Hid (∀ W, Chg 0 0 w W → SView W 0 w.heap.size (.slice na names.length nc) names) := fun W c => hN.chg c (by omega)
  have HP : Hid (Pow w) := hp
  clear fA fB fc hN hp
  go_enter Tryd.func3, Tryd.ntmps3
  go_wp2_with fail
  generalize (w.alloc (.cells (cCall kind path to' ch co cs cd) 23)).alloc (.cells (cAns code data (.slice na names.length nc) handle k l s b sq hd us rn cm) 30) = w0 at *
  refine (hC _).mono ?_
  rintro e w1 ⟨r1, rfl, hr1, c1⟩
  have HS1 : Hid (FSt w kind path to' ch co cs cd code data na nc names handle k l s b sq hd us rn cm w1) := HS0.out.keep c1
  clear hC c1 HS0
  by_cases n1 : r1 < 0
  · go_wp2
    go_ret
    exact ⟨rfl, HS1.out.2.2.below (by omega)⟩
  have r1l : r1 ≤ 1048576 := by omega
  clear hr1
  have hA := szAnswer_calls w1 code data na nc names handle k l s b sq hd us rn cm r1 (by omega) r1l (HN.out _ HS1.out.2.2) hz z4
  have xa := HS1.out.a
  go_wp2_with fail
  refine hA.mono ?_
  rintro e w2 ⟨r2, rfl, hr2, c2⟩
  have HS2 : Hid (FSt w kind path to' ch co cs cd code data na nc names handle k l s b sq hd us rn cm w2) := HS1.out.keep c2
  clear hA c2 HS1 xa
  by_cases n2 : r2 < 0
  · go_wp2
    go_ret
    exact ⟨rfl, HS2.out.2.2.below (by omega)⟩
  have hnz : (nmL names).length ≤ 2097152 := by rw [nmL_size]; omega
  have hnl : names.length ≤ 1048576 := by omega
  have hdz : data.size ≤ 1048576 := by omega
  clear hr2 hz z1 z2 z3 z4
  have HT : Hid (∀ W, FSt w kind path to' ch co cs cd code data na nc names handle k l s b sq hd us rn cm W → Calls Tryd.prog 8 #[.agg (cAns code data (.slice na names.length nc) handle k l s b sq hd us rn cm)] W fun e w' => ∃ g, e = .returned (.agg (cAns code data (.slice (some ⟨g, 0, none⟩) names.length names.length) handle k l s b sq hd us rn cm)) ∧ W.heap.size ≤ g ∧ w'.heap[g]? = some (cN 9 names) ∧ Chg 0 0 W w') := fun W h => toAnswer_calls W code data na nc names handle k l s b sq hd us rn cm hnl (HN.out _ h.2.2)
  have HSF : Hid (∀ W g, W.heap[g]? = some (cN 9 names) → Calls Tryd.prog 6 #[.agg (cCall kind path to' ch co cs cd), .agg (cAns code data (.slice (some ⟨g, 0, none⟩) names.length names.length) handle k l s b sq hd us rn cm)] W fun e w' => e = .returned (.string (fmtV kind code data names handle k l s b sq hd us rn cm)) ∧ Chg 0 0 W w') := fun W g h => specFormat_calls W kind path to' ch co cs cd code data (some ⟨g, 0, none⟩) names.length names handle k l s b sq hd us rn cm hI hdz hnz (cN_view h hnl)
  have HIF : Hid (∀ W g, FSt w kind path to' ch co cs cd code data na nc names handle k l s b sq hd us rn cm W → W.heap[g]? = some (cN 9 names) → Calls Tryd.prog 9 #[.agg (cCall kind path to' ch co cs cd), .agg (cAns code data (.slice (some ⟨g, 0, none⟩) names.length names.length) handle k l s b sq hd us rn cm)] W fun e w' => e = .returned (.string (fmtV kind code data names handle k l s b sq hd us rn cm)) ∧ Chg 0 0 W w') := fun W g hS h => implFormat_calls W kind path to' ch co cs cd code data (some ⟨g, 0, none⟩) names.length names handle k l s b sq hd us rn cm hI hdz hnz (cN_view h hnl) ⟨_, rfl⟩ (HP.out.chg hS.2.2)
  obtain ⟨F, HF⟩ : ∃ F, Hid (F = (fmtV kind code data names handle k l s b sq hd us rn cm)) := ⟨_, rfl⟩
  rw [← HF.out] at HSF HIF
  clear HF hI
  go_wp2
  refine held_region (FSt w kind path to' ch co cs cd code data na nc names handle k l s b sq hd us rn cm) hmx ?_
  have HS : Hid (FSt w kind path to' ch co cs cd code data na nc names handle k l s b sq hd us rn cm w2.drew) := HS2.out.keep (Chg.drew (Chg.refl 0 0 w2))
  generalize w2.drew = wd at *
  refine held_take 0 (.agg (cCall kind path to' ch co cs cd)) rfl (by kernel_rfl) (by kernel_rfl) (by kernel_rfl) (fun _ _ _ h => h) (.inl ⟨by kernel_rfl, fun w' hw' => by have hc := FSt.c hw'; go_simp⟩) HS.out ?_
  go_simp
  refine held_take 2 (.agg (cAns code data (.slice na names.length nc) handle k l s b sq hd us rn cm)) rfl (by kernel_rfl) (by kernel_rfl) (by kernel_rfl) (fun _ _ _ h => h) (.inl ⟨by kernel_rfl, fun w' hw' => by have ha := FSt.a hw'; go_simp⟩) HS.out ?_
  go_simp
  refine held_one 1 rfl rfl (by kernel_rfl) ?_
  refine wp_enter 7 #[.agg (cCall kind path to' ch co cs cd)] (by first | kernel_rfl | go_simp) (toCall_calls _ kind path to' ch co cs cd) ?_
  rintro e v1 ⟨rfl, k1⟩
  have H1 : Hid (FSt w kind path to' ch co cs cd code data na nc names handle k l s b sq hd us rn cm v1) := HS.out.keep k1
  clear k1
  refine ⟨_, rfl, H1.out, ?_⟩
  go_simp
  refine held_one 3 rfl rfl (by kernel_rfl) ?_
  refine wp_enter 8 #[.agg (cAns code data (.slice na names.length nc) handle k l s b sq hd us rn cm)] (by first | kernel_rfl | go_simp) (HT.out _ H1.out) ?_
  rintro e v2 ⟨g, rfl, _, hg, k2⟩
  have H2 : Hid (FSt w kind path to' ch co cs cd code data na nc names handle k l s b sq hd us rn cm v2) := H1.out.keep k2
  have Hg : Hid (v2.heap[g]? = some (cN 9 names)) := hg
  clear k2 hg
  refine ⟨_, rfl, H2.out, ?_⟩
  go_simp
  refine held_one 4 rfl rfl (by kernel_rfl) ?_
  refine wp_enter 6 #[.agg (cCall kind path to' ch co cs cd), .agg (cAns code data (.slice (some ⟨g, 0, none⟩) names.length names.length) handle k l s b sq hd us rn cm)] (by first | kernel_rfl | go_simp) (HSF.out _ _ Hg.out) ?_
  rintro e v3 ⟨rfl, k3⟩
  have H3 : Hid (FSt w kind path to' ch co cs cd code data na nc names handle k l s b sq hd us rn cm v3) := H2.out.keep k3
  clear k3
  refine ⟨_, rfl, H3.out, ?_⟩
  go_simp
  refine held_take 5 (.string F) rfl (by kernel_rfl) (by kernel_rfl) (by kernel_rfl) (fun _ _ _ h => h) (.inl ⟨by kernel_rfl, fun w' hw' => by go_simp⟩) H3.out ?_
  go_simp
  refine held_done (by kernel_rfl) (NoPanic.normal ?_)
  clear H1 H2 Hg HS HS2 HSF
  have xa := H3.out.a
  have hT := HT.out _ H3.out
  go_wp2_with fail
  refine hT.mono ?_
  rintro e w5 ⟨g5, rfl, _, hg5, k5⟩
  have HS6 : Hid (FSt w kind path to' ch co cs cd code data na nc names handle k l s b sq hd us rn cm (w5.alloc (.cells (cAns code data (.slice (some ⟨g5, 0, none⟩) names.length names.length) handle k l s b sq hd us rn cm) 39))) := (H3.out.keep k5).keep (Chg.alloc (Chg.refl 0 0 w5) _)
  have HX6 : Hid ((w5.alloc (.cells (cAns code data (.slice (some ⟨g5, 0, none⟩) names.length names.length) handle k l s b sq hd us rn cm) 39)).heap[w5.heap.size]? = some (.cells (cAns code data (.slice (some ⟨g5, 0, none⟩) names.length names.length) handle k l s b sq hd us rn cm) 39 (0, 0))) := heap_new w5 _
  have HG6 : Hid ((w5.alloc (.cells (cAns code data (.slice (some ⟨g5, 0, none⟩) names.length names.length) handle k l s b sq hd us rn cm) 39)).heap[g5]? = some (cN 9 names)) := (Lib.alloc_old _ _ _ (Array.getElem?_eq_some_iff.1 hg5).1).trans hg5
  clear hT k5 hg5 xa H3
  go_wp2
  generalize w5.alloc (.cells (cAns code data (.slice (some ⟨g5, 0, none⟩) names.length names.length) handle k l s b sq hd us rn cm) 39) = w6 at *
  generalize w5.heap.size = X at *
  refine held_region (fun W => FSt w kind path to' ch co cs cd code data na nc names handle k l s b sq hd us rn cm W ∧ W.heap[X]? = some (.cells (cAns code data (.slice (some ⟨g5, 0, none⟩) names.length names.length) handle k l s b sq hd us rn cm) 39 (0, 0)) ∧ W.heap[g5]? = some (cN 9 names)) hmx ?_
  have HSX : Hid ((fun W => FSt w kind path to' ch co cs cd code data na nc names handle k l s b sq hd us rn cm W ∧ W.heap[X]? = some (.cells (cAns code data (.slice (some ⟨g5, 0, none⟩) names.length names.length) handle k l s b sq hd us rn cm) 39 (0, 0)) ∧ W.heap[g5]? = some (cN 9 names)) w6.drew) := ⟨HS6.out.keep (Chg.drew (Chg.refl 0 0 w6)), HX6.out, HG6.out⟩
  have Hkeep : Hid (∀ W W', (fun W => FSt w kind path to' ch co cs cd code data na nc names handle k l s b sq hd us rn cm W ∧ W.heap[X]? = some (.cells (cAns code data (.slice (some ⟨g5, 0, none⟩) names.length names.length) handle k l s b sq hd us rn cm) 39 (0, 0)) ∧ W.heap[g5]? = some (cN 9 names)) W → Chg 0 0 W W' → (fun W => FSt w kind path to' ch co cs cd code data na nc names handle k l s b sq hd us rn cm W ∧ W.heap[X]? = some (.cells (cAns code data (.slice (some ⟨g5, 0, none⟩) names.length names.length) handle k l s b sq hd us rn cm) 39 (0, 0)) ∧ W.heap[g5]? = some (cN 9 names)) W') := fun W W' h c => ⟨h.1.keep c, (c.block _ (Array.getElem?_eq_some_iff.1 h.2.1).1 (by omega)).trans h.2.1, (c.block _ (Array.getElem?_eq_some_iff.1 h.2.2).1 (by omega)).trans h.2.2⟩
  generalize w6.drew = wd at *
  refine held_take 0 (.agg (cCall kind path to' ch co cs cd)) rfl (by kernel_rfl) (by kernel_rfl) (by kernel_rfl) (fun _ _ _ h => h) (.inl ⟨by kernel_rfl, fun w' hw' => by have hc := FSt.c hw'.1; go_simp⟩) HSX.out ?_
  go_simp
  refine held_take 2 (.agg (cAns code data (.slice (some ⟨g5, 0, none⟩) names.length names.length) handle k l s b sq hd us rn cm)) rfl (by kernel_rfl) (by kernel_rfl) (by kernel_rfl) (fun _ _ _ h => h) (.inl ⟨by kernel_rfl, fun w' hw' => by have ha := Lib.cell_of_heap hw'.2.1; go_simp⟩) HSX.out ?_
  go_simp
  refine held_one 1 rfl rfl (by kernel_rfl) ?_
  refine wp_enter 7 #[.agg (cCall kind path to' ch co cs cd)] (by first | kernel_rfl | go_simp) (toCall_calls _ kind path to' ch co cs cd) ?_
  rintro e v1 ⟨rfl, k1⟩
  have H1 : Hid ((fun W => FSt w kind path to' ch co cs cd code data na nc names handle k l s b sq hd us rn cm W ∧ W.heap[X]? = some (.cells (cAns code data (.slice (some ⟨g5, 0, none⟩) names.length names.length) handle k l s b sq hd us rn cm) 39 (0, 0)) ∧ W.heap[g5]? = some (cN 9 names)) v1) := Hkeep.out _ _ HSX.out k1
  clear k1
  refine ⟨_, rfl, H1.out, ?_⟩
  go_simp
  refine held_one 3 rfl rfl (by kernel_rfl) ?_
  refine wp_enter 9 #[.agg (cCall kind path to' ch co cs cd), .agg (cAns code data (.slice (some ⟨g5, 0, none⟩) names.length names.length) handle k l s b sq hd us rn cm)] (by first | kernel_rfl | go_simp) (HIF.out _ _ H1.out.1 H1.out.2.2) ?_
  rintro e v3 ⟨rfl, k3⟩
  have H3 : Hid ((fun W => FSt w kind path to' ch co cs cd code data na nc names handle k l s b sq hd us rn cm W ∧ W.heap[X]? = some (.cells (cAns code data (.slice (some ⟨g5, 0, none⟩) names.length names.length) handle k l s b sq hd us rn cm) 39 (0, 0)) ∧ W.heap[g5]? = some (cN 9 names)) v3) := Hkeep.out _ _ H1.out k3
  clear k3
  refine ⟨_, rfl, H3.out, ?_⟩
  go_simp
  refine held_take 4 (.string F) rfl (by kernel_rfl) (by kernel_rfl) (by kernel_rfl) (fun _ _ _ h => h) (.inl ⟨by kernel_rfl, fun w' hw' => by go_simp⟩) H3.out ?_
  go_simp
  refine held_done (by kernel_rfl) (NoPanic.normal ?_)
  clear H1 HSX HS6 HX6 HG6 HIF
  have e1 : (F.toList != F.toList) = false := by simp
  have e2 : (F.toList == F.toList) = true := by simp
  go_wp2
  refine held_region (fun W => FSt w kind path to' ch co cs cd code data na nc names handle k l s b sq hd us rn cm W ∧ W.heap[X]? = some (.cells (cAns code data (.slice (some ⟨g5, 0, none⟩) names.length names.length) handle k l s b sq hd us rn cm) 39 (0, 0)) ∧ W.heap[g5]? = some (cN 9 names)) hmx ?_
  have HSX : Hid ((fun W => FSt w kind path to' ch co cs cd code data na nc names handle k l s b sq hd us rn cm W ∧ W.heap[X]? = some (.cells (cAns code data (.slice (some ⟨g5, 0, none⟩) names.length names.length) handle k l s b sq hd us rn cm) 39 (0, 0)) ∧ W.heap[g5]? = some (cN 9 names)) v3.drew) := Hkeep.out _ _ H3.out (Chg.drew (Chg.refl 0 0 v3))
  generalize v3.drew = wd at *
  refine held_take 0 (.agg (cAns code data (.slice (some ⟨g5, 0, none⟩) names.length names.length) handle k l s b sq hd us rn cm)) rfl (by kernel_rfl) (by kernel_rfl) (by kernel_rfl) (fun _ _ _ h => h) (.inl ⟨by kernel_rfl, fun w' hw' => by have ha := Lib.cell_of_heap hw'.2.1; go_simp⟩) HSX.out ?_
  go_simp
  refine held_take 1 (.agg (cAns code data (.slice na names.length nc) handle k l s b sq hd us rn cm)) rfl (by kernel_rfl) (by kernel_rfl) (by kernel_rfl) (fun _ _ _ h => h) (.inl ⟨by kernel_rfl, fun w' hw' => by have ha := FSt.a hw'.1; go_simp⟩) HSX.out ?_
  go_simp
  refine held_one 2 rfl rfl (by kernel_rfl) ?_
  refine wp_enter 8 #[.agg (cAns code data (.slice na names.length nc) handle k l s b sq hd us rn cm)] (by first | kernel_rfl | go_simp) (HT.out _ HSX.out.1) ?_
  rintro e v4 ⟨g7, rfl, _, hg7, k4⟩
  have H4 : Hid ((fun W => FSt w kind path to' ch co cs cd code data na nc names handle k l s b sq hd us rn cm W ∧ W.heap[X]? = some (.cells (cAns code data (.slice (some ⟨g5, 0, none⟩) names.length names.length) handle k l s b sq hd us rn cm) 39 (0, 0)) ∧ W.heap[g5]? = some (cN 9 names)) v4) := Hkeep.out _ _ HSX.out k4
  have Hg7 : Hid (v4.heap[g7]? = some (cN 9 names)) := hg7
  clear k4 hg7
  refine ⟨_, rfl, H4.out, ?_⟩
  go_simp
  refine held_one 3 rfl rfl (by kernel_rfl) ?_
  refine wp_enter 10 #[.agg (cAns code data (.slice (some ⟨g5, 0, none⟩) names.length names.length) handle k l s b sq hd us rn cm), .agg (cAns code data (.slice (some ⟨g7, 0, none⟩) names.length names.length) handle k l s b sq hd us rn cm)] (by first | kernel_rfl | go_simp) (eqAnswer_calls _ code data _ _ names handle k l s b sq hd us rn cm (cN_view H4.out.2.2 hnl) (cN_view Hg7.out hnl)) ?_
  rintro e v5 ⟨rfl, k5⟩
  have H5 : Hid ((fun W => FSt w kind path to' ch co cs cd code data na nc names handle k l s b sq hd us rn cm W ∧ W.heap[X]? = some (.cells (cAns code data (.slice (some ⟨g5, 0, none⟩) names.length names.length) handle k l s b sq hd us rn cm) 39 (0, 0)) ∧ W.heap[g5]? = some (cN 9 names)) v5) := Hkeep.out _ _ H4.out k5
  clear k5
  refine ⟨_, rfl, H5.out, ?_⟩
  go_simp
  refine held_take 4 (.bool false) rfl (by kernel_rfl) (by kernel_rfl) (by kernel_rfl) (fun _ _ _ h => h) (.inl ⟨by kernel_rfl, fun w' hw' => by go_simp⟩) H5.out ?_
  go_simp
  refine held_done (by kernel_rfl) (NoPanic.normal ?_)
  have HZ : Hid (Chg 0 0 w v5) := H5.out.1.2.2
  go_wp2
  go_ret
  exact ⟨rfl, HZ.out.below (by omega)⟩

end Go.Proofs.YtoagahpoblcioaaDoor
