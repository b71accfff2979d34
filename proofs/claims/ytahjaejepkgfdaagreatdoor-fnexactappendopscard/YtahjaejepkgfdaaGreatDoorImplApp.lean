/- AppendOps of the program. (made by tools/mkimplapp.py) -/
import Derived.Test.YtahjaejepkgfdaaGreatDoorSpecApp
import Derived.Test.YtahjaejepkgfdaaGreatDoorImplBlk
namespace Go.Proofs.YtahjaejepkgfdaaGreatDoor
open Go.RowKit Go.Shelf
attribute [local go_sem] Oper.semAt_some

section
variable {P : Program} {n l : Nat} {md : Region.Mode} {ops : Array Oper} {Q : Exit → Act → World → Prop} {S : World → Prop}
/-- Two are ready: either comes first. -/
theorem heldR_two (i j : Nat) {o o' : Oper} {fuel : Nat} {listed : Array Bool} {a : Act} {w : World} (hi : ops[i]? = some o) (hj : ops[j]? = some o') (hn : noDefer ops = true) (hw : o.guard = none) (hw' : o'.guard = none) (hr : Region.ready md ops listed = [i, j])
    (h : o.wp P a w (fun a' w' => S w' ∧ wpAnyHR l n P md ops Q S fuel (listed.setIfInBounds i true) a' w') Q)
    (h' : o'.wp P a w (fun a' w' => S w' ∧ wpAnyHR l n P md ops Q S fuel (listed.setIfInBounds j true) a' w') Q) : wpAnyHR l n P md ops Q S (fuel + 1) listed a w := by
  refine ⟨fun h0 => (by rw [hr] at h0; cases h0), fun k hk => ?_⟩
  rw [hr] at hk
  simp only [List.mem_cons, List.not_mem_nil, or_false] at hk
  rcases hk with rfl | rfl
  · unfold wpOpIn
    simp only [hi]
    rw [if_pos (by simp [Region.wanted, hw])]
    exact opIn_of (noDefer_spec hn hi) h
  · unfold wpOpIn
    simp only [hj]
    rw [if_pos (by simp [Region.wanted, hw'])]
    exact opIn_of (noDefer_spec hn hj) h'
end

set_option maxHeartbeats 400000 in
theorem positionFrom_any (w : World) (size p n : Int) (h1 : 16 ≤ size) (h2 : size ≤ 512) (h3 : 1 ≤ p) (h4 : p ≤ 512) (h5 : 0 ≤ n) (h6 : n ≤ 1000) :
    Calls Tryz.prog 26 #[.int .i64 p, .int .i64 n, .int .i64 size] w fun e w' => e = .returned (.int .i64 (placeI size p n)) ∧ w' = w := by
  have hm := Int.emod_nonneg (p - 1 + n) (b := size) (by omega)
  have hm2 := Int.emod_lt_of_pos (p - 1 + n) (b := size) (by omega)
  go_enter Tryz.func26, Tryz.ntmps26
  go_wp2
  go_ret
  exact ⟨rfl, rfl⟩

theorem row_grown {w w' : World} {base : Nat} {e : TypeId} {size n : Nat} {v : Value} {xs : List Value} {row : Option Nat} (h : w.ownsRow base e size v n xs) (hg : w.grownBy w' row) (hr : ∀ g, row = some g → v.ownBlock ≠ some g) : w'.ownsRow base e size v n xs := by
  obtain ⟨h1, h2⟩ := h
  refine ⟨h1, ?_⟩
  rcases h2 with h2 | ⟨g, cap, cur, hv, hb, hh, r⟩
  · exact Or.inl h2
  · refine Or.inr ⟨g, cap, cur, hv, hb, ?_, r⟩
    rw [hg.block g (Array.getElem?_eq_some_iff.1 hh).1 (fun e => hr g e.symm (by rw [hv]; rfl))]; exact hh
theorem OwnOx.grown {w w' : World} {base : Nat} {eO eB : TypeId} {v : Value} {os : List Opx} {cells : List Value} {dvs : Nat → Value} {row : Option Nat} (h : OwnOx w base eO eB v os cells dvs) (hg : w.grownBy w' row) (hr : ∀ g, row = some g → ∃ o : Obj, w.heap[g]? = some o ∧ o.isCells = false) : OwnOx w' base eO eB v os cells dvs := by
  refine ⟨row_grown h.row hg (fun g e hv => ?_), h.at0, h.at1, h.at2, fun i hi => row_grown (h.data i hi) hg (fun g e hv => ?_), h.apart⟩
  · obtain ⟨o, h1, h2⟩ := hr g e
    obtain ⟨cur, h3⟩ := row_elem' h.row hv
    rw [h1] at h3; cases h3; cases h2
  · obtain ⟨o, h1, h2⟩ := hr g e
    obtain ⟨cur, h3⟩ := row_elem' (h.data i hi) hv
    rw [h1] at h3; cases h3; cases h2
theorem OwnOx.noneA (w : World) (base : Nat) : OwnOx w base 47 5 (.slice Option.none 0 0) [] [] (fun _ => .slice Option.none 0 0) :=
  ⟨World.ownsRow_nil _ _ _ _, fun i h => absurd h (Nat.not_lt_zero i), fun i h => absurd h (Nat.not_lt_zero i), fun i h => absurd h (Nat.not_lt_zero i), fun i h => absurd h (Nat.not_lt_zero i), fun _ j _ _ h => absurd h (Nat.not_lt_zero j)⟩

/-- The operations of these blocks. -/
def opsB (sz hd : Int) (tl : List (List Int)) (pre : List (Fin 1000 × Fin tl.length)) : List Opx := pre.map fun z => (1, 1 + placeI sz hd (z.1.val : Int), tl.getD z.2.val [])
theorem opsB_snoc (sz hd : Int) (tl : List (List Int)) (pre : List (Fin 1000 × Fin tl.length)) (x : Fin 1000 × Fin tl.length) : opsB sz hd tl (pre ++ [x]) = opsB sz hd tl pre ++ [(1, 1 + placeI sz hd (x.1.val : Int), tl.getD x.2.val [])] := by unfold opsB; simp
theorem opsB_length (sz hd : Int) (tl : List (List Int)) (pre : List (Fin 1000 × Fin tl.length)) : (opsB sz hd tl pre).length = pre.length := by unfold opsB; simp
theorem opsB_all {sz hd : Int} {tl : List (List Int)} {zs : List (Fin 1000 × Fin tl.length)} (h : vals2 zs = diag tl.length) : opsB sz hd tl zs = putL sz hd tl tl.length := by
  have e : opsB sz hd tl zs = (vals2 zs).map fun p => ((1, 1 + placeI sz hd (p.1 : Int), tl.getD p.2 []) : Opx) := by unfold opsB vals2; rw [List.map_map]; rfl
  rw [e, h]
  unfold diag putL
  rw [List.map_map]
  rfl

/-- What the loop keeps. -/
structure ApI (w : World) (lx bo : Nat) (sz st sq hd us : Int) (init : List Opx) (tl : List (List Int)) (M : Nat) (pre : List (Fin 1000 × Fin tl.length)) (V : World) : Prop where
  out : ∃ ov cells dvs, V.heap[bo]? = some (.cells #[ov] 29 (0, 0)) ∧ OwnOx V w.heap.size 47 5 ov (init ++ opsB sz hd tl pre) cells dvs ∧ (∀ g, ov.ownBlock = some g → g < lx ∨ M ≤ g) ∧ (∀ i g, i < (init ++ opsB sz hd tl pre).length → (dvs i).ownBlock = some g → g < lx ∨ M ≤ g)
  lg : V.heap[w.heap.size]? = some (logO 31 sz st sq hd us)
  ch : Chg 0 0 w V
  m : lx < M

set_option maxHeartbeats 4000000 in
/-- Behind the append of an operation: what the round leaves. -/
theorem ap_fin {w W9 X3 X4 : World} {b1 Bt M L8 cp8 g8 lo hi N gd : Nat} {sz st sq hd us pl : Int} {ini : List Opx} {tl : List (List Int)} {zs : List (Fin 1000 × Fin tl.length)} {x : Fin 1000 × Fin tl.length} {blk : List Int} {ov : Value} {cells c8 : List Value} {dvs : Nat → Value}
    (Hob : W9.heap[b1]? = some (.cells #[ov] 29 (0, 0))) (Hoo : OwnOx W9 w.heap.size 47 5 ov (ini ++ opsB sz hd tl zs) cells dvs) (Hq1 : ∀ g, ov.ownBlock = some g → g < Bt ∨ M ≤ g) (Hq2 : ∀ i g, i < (ini ++ opsB sz hd tl zs).length → (dvs i).ownBlock = some g → g < Bt ∨ M ≤ g)
    (Hlg : W9.heap[w.heap.size]? = some (logO 31 sz st sq hd us)) (Hch : Chg 0 0 w W9) (HKl : ∀ k, KA Bt lo hi k → k ≤ Bt ∧ k ≠ b1 ∧ (k = Bt ∨ k < w.heap.size)) (HSn2 : ini ++ opsB sz hd tl (zs ++ [x]) = (ini ++ opsB sz hd tl zs) ++ [(1, 1 + pl, blk)])
    (c13 : Chg 0 0 W9 X3) (o8 : OwnOx X4 w.heap.size 47 5 (.slice (some ⟨g8, 0, none⟩) L8 cp8) ((ini ++ opsB sz hd tl zs) ++ [(1, 1 + pl, blk)]) c8 (fun i => if i < (ini ++ opsB sz hd tl zs).length then dvs i else (fun _ => .slice (some ⟨gd, 0, none⟩) 64 64) (i - (ini ++ opsB sz hd tl zs).length)))
    (gr8 : X3.grownBy X4 ov.ownBlock) (wh8 : ∀ g, (Value.slice (some ⟨g8, 0, none⟩) L8 cp8).ownBlock = some g → ov.ownBlock = some g ∨ X3.heap.size ≤ g) (zf : X4.heap[b1]? = some (.cells #[ov] 29 (0, 0)))
    (h1 : w.heap.size < b1 ∧ w.heap.size ≤ Bt ∧ b1 < N ∧ Bt < N ∧ b1 ≠ Bt) (h2 : N ≤ M ∧ M ≤ W9.heap.size ∧ M ≤ gd) (hm : Bt < M) :
    (KeepM N M W9 (X4.setCell ⟨b1, 0, none⟩ (.slice (some ⟨g8, 0, none⟩) L8 cp8)) ∧ KpT (KA Bt lo hi) (N + 2) W9 (X4.setCell ⟨b1, 0, none⟩ (.slice (some ⟨g8, 0, none⟩) L8 cp8))) ∧ ApI w Bt b1 sz st sq hd us ini tl M (zs ++ [x]) (X4.setCell ⟨b1, 0, none⟩ (.slice (some ⟨g8, 0, none⟩) L8 cp8)) := by
  obtain ⟨h11, h12, h13, h14, h15⟩ := h1
  obtain ⟨h21, h22, h23⟩ := h2
  have s4 := gr8.size
  have s13 := c13.size
  have sch := Hch.size
  have hnb : ∀ k, some k = ov.ownBlock → w.heap.size ≤ k ∧ k ≠ Bt ∧ (k < Bt ∨ M ≤ k) := fun k e => by have h1 := World.ownsRow.lt Hoo.row k e.symm; have h2 := Hq1 k e.symm; omega
  have key : ∀ k : Nat, k < W9.heap.size → k ≠ b1 → some k ≠ ov.ownBlock → (X4.setCell ⟨b1, 0, none⟩ (.slice (some ⟨g8, 0, none⟩) L8 cp8)).heap[k]? = W9.heap[k]? := fun k hk h1 h2 => (Below.heap_setCell _ _ _ _ (by simpa using h1)).trans ((gr8.block k (by omega) h2).trans (c13.block k hk (by omega)))
  have hsz : (X4.setCell ⟨b1, 0, none⟩ (.slice (some ⟨g8, 0, none⟩) L8 cp8)).heap.size = X4.heap.size := by simp
  have cY : Chg w.heap.size W9.heap.size W9 (X4.setCell ⟨b1, 0, none⟩ (.slice (some ⟨g8, 0, none⟩) L8 cp8)) := by
    have c8 : Chg w.heap.size W9.heap.size X3 X4 := ⟨gr8.os, gr8.tape, gr8.output, gr8.size, fun k hk ho => gr8.block k hk (fun e => by have h1 := World.ownsRow.lt Hoo.row k e.symm; omega)⟩
    exact ((c13.widen (by omega) (by omega)).trans c8).setCell (p := ⟨b1, 0, none⟩) (Or.inl ⟨by show w.heap.size ≤ b1; omega, by show b1 < W9.heap.size; omega⟩) _
  have cS : Chg b1 (b1 + 1) X4 (X4.setCell ⟨b1, 0, none⟩ (.slice (some ⟨g8, 0, none⟩) L8 cp8)) := Chg.setCell (p := ⟨b1, 0, none⟩) (Chg.refl _ _ X4) (Or.inl ⟨Nat.le_refl _, Nat.lt_succ_self _⟩) _
  have o9 := o8.chg cS (fun g hg => by obtain ⟨cu, hcu⟩ := row_elem' o8.row hg; have := cells_ne hcu zf (by decide); omega) (fun i g hi hg => by obtain ⟨cu, hcu⟩ := row_elem' (o8.data i hi) hg; have := cells_ne hcu zf (by decide); omega)
  rw [← HSn2] at o9
  refine ⟨⟨⟨by omega, fun k h1 h2 => key k (by omega) (by omega) (fun e => by have := hnb k e; omega)⟩, fun k hk => ?_, fun k cs' ty fr ht e => ?_, fun k o _ e ho => ?_⟩, ⟨_, _, _, Boxed.set _ zf, o9, ?_, ?_⟩, ?_, Hch.step cY (by omega), hm⟩
  · obtain ⟨h1, h2, h3⟩ := HKl k hk
    exact key k (by omega) h2 (fun e => by have := hnb k e; omega)
  · refine key k (Array.getElem?_eq_some_iff.1 e).1 (fun h => ?_) (fun h => ?_)
    · rw [h, Hob] at e; cases e; exact absurd ht (by unfold tyA; decide)
    · obtain ⟨cur, h3⟩ := row_elem' Hoo.row h.symm
      rw [h3] at e; cases e; exact absurd ht (by unfold tyA; decide)
  · refine key k (Array.getElem?_eq_some_iff.1 e).1 (fun h => ?_) (fun h => ?_)
    · rw [h, Hob] at e; cases e; cases ho
    · obtain ⟨cur, h3⟩ := row_elem' Hoo.row h.symm
      rw [h3] at e; cases e; cases ho
  · intro g hg
    rcases wh8 g hg with h | h
    · exact Hq1 g h
    · omega
  · intro i g hi hg
    by_cases hil : i < (ini ++ opsB sz hd tl zs).length
    · rw [if_pos hil] at hg; exact Hq2 i g hil hg
    · rw [if_neg hil] at hg; have := ob_eq hg; omega
  · exact (key _ (by omega) (by omega) (fun e => by obtain ⟨cu, hcu⟩ := row_elem' Hoo.row e.symm; exact cells_ne hcu Hlg (by decide) rfl)).trans Hlg

set_option maxRecDepth 100000 in
set_option maxHeartbeats 16000000 in
theorem implAppend_calls (w : World) {lo hi : Nat} {a : Value} {t : Tx} (sz st sq hd us : Int) (hl : cntT t ≤ 1048576) (hhi : hi ≤ w.heap.size) (hby : ∀ x ∈ t.homes, Byt x.2) (hM : Mag w) (h1 : TView w lo hi a t) :
    Calls Tryz.prog 8 #[logV sz st sq hd us, a] w fun e w' => ∃ v, e = .returned v ∧ (∃ cells dvs, OwnOx w' w.heap.size 47 5 v (appO sz st sq hd us t) cells dvs) ∧ Chg 0 0 w w' := by
  have hT := h1
  obtain ⟨hv, rv, rfl, p1, v1⟩ := h1
  obtain ⟨po, pcap, rfl⟩ := p1.slice
  obtain ⟨ao, cap, rfl⟩ := v1.slice
  have hMl := hM.lt
  have hmx : Tryz.prog.follows .mixedOrders = true := by kernel_rfl
  obtain ⟨h57, h64⟩ := TL_len hby
  have HT : Hid (∀ W, Chg 0 0 w W → TView W lo hi (.agg #[.int .i64 t.seq, .slice po t.homes.length pcap, .slice ao t.revs.length cap]) t) := fun W hW => hT.chg hW (by omega)
  have HMg : Hid (∀ W, Chg 0 0 w W → Mag W) := fun W hW => hM.chg hW (by omega)
  have HSeq : Hid (∀ (W : World) (Bt : Nat), Chg 0 0 w W → W.heap[Bt]? = some (.cells #[.int .i64 t.seq, .slice po t.homes.length pcap, .slice ao t.revs.length cap] 35 (0, 0)) → SeqM Tryz.prog 49 #[.pointer (some ⟨Bt, 0, none⟩)] (encT (TL t)) (KpT (KA Bt lo hi)) (fun zs => vals2 zs = diag (TL t).length) (fun zs => vals2 zs = diag zs.length) 500 W) :=
    fun W Bt hW hB => of_seq Bt lo hi t _ _ W hl hby (hM.chg hW (by omega)) hB (p1.chg hW (by omega)) (v1.chg hW (by omega)) (by have := hW.size; omega)
  have hA : Chg 0 0 w ((w.alloc (logO 31 sz st sq hd us)).alloc (.cells #[.int .i64 t.seq, .slice po t.homes.length pcap, .slice ao t.revs.length cap] 35)) := (Chg.alloc (Chg.refl 0 0 w) _).alloc _
  obtain ⟨z, b0, b1⟩ := alloc2 w (logO 31 sz st sq hd us) (.cells #[.int .i64 t.seq, .slice po t.homes.length pcap, .slice ao t.revs.length cap] 35)
  obtain ⟨rz, Hrz⟩ : ∃ rz : Int, Hid (rz = if takesB sz st sq hd us t = true then ((TL t).length : Int) else 0) := ⟨_, rfl⟩
  have hN : ∀ W, Chg 0 0 w W → Calls Tryz.prog 23 #[logV sz st sq hd us, .agg #[.int .i64 t.seq, .slice po t.homes.length pcap, .slice ao t.revs.length cap]] W fun e w' => e = .returned (.int .i64 rz) ∧ Chg 0 0 W w' := fun W hW => by rw [Hrz.out]; exact taken_calls W sz st sq hd us hl (by have := hW.size; omega) hby (hM.chg hW (by omega)) (HT.out W hW)
  clear hT p1 v1 hM HT
  refine (callsIn_wide (n := 0)).1 ?_
  refine callsIn_of_wp_marks Tryz.func8 rfl trivial ?_ rfl
  simp only [Tryz.ntmps8, List.size_toArray, List.length_cons, List.length_nil, Nat.reduceAdd, Nat.reduceSub, Array.replicate_succ, Array.replicate_zero, List.push_toArray, List.append_toArray, List.nil_append, List.cons_append]
  gi_wp2
  generalize (w.alloc (logO 31 sz st sq hd us)).alloc (.cells #[.int .i64 t.seq, .slice po t.homes.length pcap, .slice ao t.revs.length cap] 35) = w0 at *
  refine ⟨trivial, rfl, (callsIn_wide.2 (hN _ hA)).mono ?_⟩
  rintro e w1 ⟨rfl, h1⟩
  have HB0 : Hid _ := (h1.block _ (by omega) (by omega)).trans b0
  have HB1 : Hid _ := (h1.block _ (by omega) (by omega)).trans b1
  have HA : Hid _ := hA.trans h1
  have hs := h1.size
  clear h1 b0 b1 hA hN
  by_cases htk : takesB sz st sq hd us t = true
  case neg =>
    have Ht : Hid (appO sz st sq hd us t = []) := by show _ = _; unfold appO; rw [if_neg htk]
    have hr := Hrz.out
    rw [if_neg htk] at hr
    rw [hr]
    clear htk hr
    gi_wp2
    refine ⟨_, results_tmp rfl _ _ _, _, rfl, ⟨_, _, by rw [Ht.out]; exact OwnOx.noneA _ _⟩, HA.out⟩
  obtain ⟨hIn, hvt, h_q, hlt, hle⟩ := takesB_spec htk
  have hvl : validLog sz st sq hd us = true := by unfold takesB at htk; simp only [Bool.and_eq_true] at htk; exact htk.1
  have Ht : Hid (appO sz st sq hd us t = startL sz st sq hd ++ putL sz hd (TL t) (TL t).length ++ [(2, 0, [])]) := by show _ = _; unfold appO; rw [if_pos htk]
  have hr := Hrz.out
  rw [if_pos htk] at hr
  have hn1 := TL_pos hvt
  have hne : (rz == 0) = false := by simp; omega
  unfold InLog at hIn
  obtain ⟨⟨i1, i2⟩, ⟨i3, i4⟩, ⟨i5, i6⟩, ⟨i7, i8⟩, i9, i10⟩ := hIn
  have Hpl : Hid (∀ W (k : Nat), k < 1000 → Calls Tryz.prog 26 #[.int .i64 hd, .int .i64 (k : Int), .int .i64 sz] W fun e w' => e = .returned (.int .i64 (placeI sz hd (k : Int))) ∧ w' = W) := fun W k hk => positionFrom_any W sz hd k i1 i2 i7 (by omega) (by omega) (by omega)
  have Hpr : Hid (∀ k : Nat, 1 ≤ placeI sz hd (k : Int) ∧ placeI sz hd (k : Int) ≤ 512) := fun k => by have := @placeI_range sz hd k i1; omega
  have HSt : Hid (∀ W, Chg 0 0 w W → Calls Tryz.prog 24 #[logV sz st sq hd us] W fun e w' => ∃ g, e = .returned (.slice (some ⟨g, 0, none⟩) 2 2) ∧ (∃ cells dvs, OwnOx w' W.heap.size 47 5 (.slice (some ⟨g, 0, none⟩) 2 2) (twoOps (supL 106 108 111 103 1 sz sq hd)) cells dvs) ∧ Chg 0 0 W w') := fun W hW => by have hm := HMg.out W hW; exact startOps_ok W sz st sq hd us hvl hm.m0 hm.m1 hm.m2 hm.m3
  clear htk hr h_q hvt hn1 hle hlt hvl HMg Hrz
  have cV : Chg 0 0 w1 (w1.alloc (.cells #[.slice none 0 0] 29)) := Chg.alloc (Chg.refl 0 0 w1) _
  have HBo : Hid ((w1.alloc (.cells #[.slice none 0 0] 29)).heap[w1.heap.size]? = some (.cells #[.slice none 0 0] 29 (0, 0))) := heap_new w1 _
  have HC0 : Hid _ := (cV.block _ (by omega) (by omega)).trans HB0.out
  have HC1 : Hid _ := (cV.block _ (by omega) (by omega)).trans HB1.out
  have HCA : Hid _ := HA.out.trans cV
  have sV : (w1.alloc (.cells #[.slice none 0 0] 29)).heap.size = w1.heap.size + 1 := by simp
  obtain ⟨x0, x1, x2, x3, x4⟩ := five_cells HC0.out
  clear HB0 HB1 HA cV
  by_cases hst : st = 0
  · have Hst : Hid (startL sz st sq hd = twoOps (supL 106 108 111 103 1 sz sq hd)) := by show _ = _; unfold startL; rw [if_pos hst]
    subst hst
    gi_wp2
    generalize w1.alloc (.cells #[.slice none 0 0] 29) = wv at *
    refine ⟨trivial, rfl, (callsIn_wide.2 (HSt.out _ HCA.out)).mono ?_⟩
    rintro e w3 ⟨g3, rfl, ⟨cs3, ds3, o3⟩, h3⟩
    have s3 := h3.size
    have zo := (h3.block _ (by omega) (by omega)).trans HBo.out
    have f0 := Boxed.cell zo
    have f1 := Boxed.frozen zo
    have cS : Chg w1.heap.size (w1.heap.size + 1) w3 (w3.setCell ⟨w1.heap.size, 0, none⟩ (.slice (some ⟨g3, 0, none⟩) 2 2)) := Chg.setCell (p := ⟨w1.heap.size, 0, none⟩) (Chg.refl _ _ w3) (Or.inl ⟨Nat.le_refl _, Nat.lt_succ_self _⟩) _
    have HDo : Hid ((w3.setCell ⟨w1.heap.size, 0, none⟩ (.slice (some ⟨g3, 0, none⟩) 2 2)).heap[w1.heap.size]? = some (.cells #[.slice (some ⟨g3, 0, none⟩) 2 2] 29 (0, 0))) := Boxed.set _ zo
    have HD0 : Hid _ := (cS.block _ (by omega) (by omega)).trans ((h3.block _ (by omega) (by omega)).trans HC0.out)
    have HD1 : Hid _ := (cS.block _ (by omega) (by omega)).trans ((h3.block _ (by omega) (by omega)).trans HC1.out)
    have HDA : Hid _ := (HCA.out.trans h3).step cS (by omega)
    have HDx : Hid (OwnOx (w3.setCell ⟨w1.heap.size, 0, none⟩ (.slice (some ⟨g3, 0, none⟩) 2 2)) w.heap.size 47 5 (.slice (some ⟨g3, 0, none⟩) 2 2) (startL sz 0 sq hd) cs3 ds3) := by
      rw [Hst.out]
      exact (o3.chg cS (fun g hg => by have := World.ownsRow.lt o3.row g hg; omega) (fun i g hi hg => by have := (o3.data i hi).lt g hg; omega)).base (by omega)
    have sS : (w3.setCell ⟨w1.heap.size, 0, none⟩ (.slice (some ⟨g3, 0, none⟩) 2 2)).heap.size = w3.heap.size := by simp
    obtain ⟨⟨k0, k1, k2⟩, _⟩ := tri HD1.out
    clear o3 h3 cS zo x0 x1 x2 x3 x4 HBo HC0 HC1 HCA
    gi_wp2
    generalize w3.setCell ⟨w1.heap.size, 0, none⟩ (.slice (some ⟨g3, 0, none⟩) 2 2) = wz at *
    have sV1 := Nat.le_of_eq sS
    have sV2 := Nat.le_of_eq sS.symm
    clear f0 f1 sS
    clear k0 k1 k2
    have y3 := heap_new wz (.cells #[.int .i64 t.seq, .slice po t.homes.length pcap, .slice ao t.revs.length cap] 35)
    have cB : Chg 0 0 wz (wz.alloc (.cells #[.int .i64 t.seq, .slice po t.homes.length pcap, .slice ao t.revs.length cap] 35)) := Chg.alloc (Chg.refl 0 0 wz) _
    have sB : (wz.alloc (.cells #[.int .i64 t.seq, .slice po t.homes.length pcap, .slice ao t.revs.length cap] 35)).heap.size = wz.heap.size + 1 := by simp
    refine ⟨trivial, rfl, (callsIn_wide.2 (blocksOf_calls _ _ _ _)).mono ?_⟩
    rintro e wq ⟨rfl, rfl⟩
    have hszz := (Array.getElem?_eq_some_iff.1 HDo.out).1
    have cL := HDA.out.trans cB
    have xo := (cB.block _ hszz (by omega)).trans HDo.out
    have xl := (cB.block _ (by omega) (by omega)).trans HD0.out
    have ox := HDx.out.chg cB (fun g hg => by omega) (fun i g hi hg => by omega)
    have oxl : ∀ g, ((.slice (some ⟨g3, 0, none⟩) 2 2) : Value).ownBlock = some g → g < wz.heap.size := fun g hg => (World.ownsRow.lt HDx.out.row g hg).2
    have oxd : ∀ i g, i < (startL sz 0 sq hd).length → (ds3 i : Value).ownBlock = some g → g < wz.heap.size := fun i g hi hg => ((HDx.out.data i hi).lt g hg).2
    generalize wz.alloc (.cells #[.int .i64 t.seq, .slice po t.homes.length pcap, .slice ao t.revs.length cap] 35) = wL at *
    generalize hBt : wz.heap.size = Bt at *
    have sB1 := Nat.le_of_eq sB
    have sB2 := Nat.le_of_eq sB.symm
    clear sB
    have hseq := HSeq.out wL Bt cL y3
    have Hln : Hid ((startL sz 0 sq hd).length = 2) := by show _ = _; rw [Hst.out]; rfl
    clear HDo HD0 HDA HDx cB hBt HSeq HD1
    gi_wp2
    have hI' : ∀ M : Nat, OwnFrom wL.heap.size (ApI w Bt w1.heap.size sz 0 sq hd us (startL sz 0 sq hd) (TL t) M) := by
      rintro M pre A C row ⟨⟨ov, cells, dvs, hb, ho, hq1, hq2⟩, hlg, hch, hm⟩ hg hr
      have hne : ∀ k, k < wL.heap.size → some k ≠ row := fun k hk e => by have := (hr _ e.symm).1; omega
      exact ⟨⟨ov, cells, dvs, (hg.block _ (Array.getElem?_eq_some_iff.1 hb).1 (hne _ (by omega))).trans hb, ho.grown hg (fun g e => (hr g e).2), hq1, hq2⟩, (hg.block _ (Array.getElem?_eq_some_iff.1 hlg).1 (hne _ (by omega))).trans hlg, ⟨hg.os.trans hch.os, hg.tape.trans hch.tape, hg.output.trans hch.output, Nat.le_trans hch.size hg.size, fun k hk ho => (hg.block k (Nat.lt_of_lt_of_le hk hch.size) (hne _ (by omega))).trans (hch.block k hk ho)⟩, hm⟩
    refine range_ownM (n := 0) (Kp := KpT (KA Bt lo hi) (wL.heap.size + 2)) (gf := 49) (lb := #[.pointer (some ⟨Bt, 0, none⟩)]) rfl (enters_of Tryz.func49 (by kernel_rfl) rfl)
      hseq (fun h => h) (Below.refl _ _) (fun _ => rfl) KpT.trans (fun V o _ hb => KpT.put o hb (fun k hk => by unfold KA at hk; omega) (by omega))
      (fun M => ApI w Bt w1.heap.size sz 0 sq hd us (startL sz 0 sq hd) (TL t) M) (fun _ _ _ _ => False)
      hI' (fun _ _ _ _ _ _ h _ _ => h) ?hIF (fun _ _ _ _ _ h _ _ => h) ?h0
      (fun x a' V => ∃ Bx, wL.heap.size ≤ Bx ∧ V.heap[Bx]? = some (.cells (((TL t).getD x.2.val []).map (Value.int .u8)).toArray 60 (0, 0)) ∧ a' = { tmps := #[logV sz 0 sq hd us, .agg #[.int .i64 t.seq, .slice po t.homes.length pcap, .slice ao t.revs.length cap], .pointer (some ⟨w.heap.size, 0, none⟩), .pointer (some ⟨w.heap.size + 1, 0, none⟩), .slice none 0 0, .pointer (some ⟨w1.heap.size, 0, none⟩), .int .i64 (x.1.val : Int), .pointer (some ⟨Bx, 0, none⟩), undef, logV sz 0 sq hd us, .agg #[.int .i64 t.seq, .slice po t.homes.length pcap, .slice ao t.revs.length cap], .int .i64 rz, .bool false, .pointer (some ⟨w.heap.size, 1, none⟩), .int .i64 0, .bool true, logV sz 0 sq hd us, (.slice (some ⟨g3, 0, none⟩) 2 2), .agg #[.int .i64 t.seq, .slice po t.homes.length pcap, .slice ao t.revs.length cap], .func (.func 49) #[] #[.pointer (some ⟨Bt, 0, none⟩)], .int .i64 (x.1.val : Int), .agg (((TL t).getD x.2.val []).map (Value.int .u8)).toArray, undef, undef, undef, undef, undef, undef, undef, undef, undef, undef, undef, undef, undef, undef, undef, undef, undef, undef], defers := [] })
      ?hAx ?assign ?body ?done (fun _ _ _ _ _ _ _ h _ => h.elim)
    case hIF =>
      rintro M zs A C ⟨⟨ov, cells, dvs, hb, ho, hq1, hq2⟩, hlg, hch, hm⟩ hc hm'
      exact ⟨⟨ov, cells, dvs, (hc.block _ (Array.getElem?_eq_some_iff.1 hb).1 (by omega)).trans hb, ho.chg hc (fun g hg => by have := hq1 g hg; omega) (fun i g hi hg => by have := hq2 i g hi hg; omega), hq1, hq2⟩, (hc.block _ (Array.getElem?_eq_some_iff.1 hlg).1 (by omega)).trans hlg, hch.step hc (by omega), hm⟩
    case h0 =>
      intro V hV hsz
      exact ⟨⟨_, _, _, (hV.block _ (by omega)).trans xo, by rw [show opsB sz hd (TL t) [] = [] from rfl, List.append_nil]; exact ox.chg (Chg.ofBelow hV 0 0) (fun g hg => by omega) (fun i g hi hg => by omega), fun g hg => Or.inl (oxl g hg), by rw [show opsB sz hd (TL t) [] = [] from rfl, List.append_nil]; exact fun i g hi hg => Or.inl (oxd i g hi hg)⟩, (hV.block _ (by omega)).trans xl, cL.step (Chg.ofBelow hV 0 0) (by omega), by omega⟩
    case hAx =>
      rintro x a' _ A C row ⟨Bx, h1, h2, h3⟩ hg hr
      exact ⟨Bx, h1, cells_stay h2 hg (fun r e => (hr r e).2), h3⟩
    case assign =>
      rintro M l' zs x V K' hM' hMV hi' hK'
      simp only [encT]
      have hln : (((TL t).getD x.2.val []).map (Value.int .u8)).length = 64 := by rw [List.length_map]; exact h64 _ (getD_mem x.2)
      have h1c : ∀ v ∈ ((TL t).getD x.2.val []).map (Value.int .u8), v.oneCell' = true := ints_oneCell _ _
      have hics : (Tryz.prog.info? 60).map (·.size) = some (((TL t).getD x.2.val []).map (Value.int .u8)).length := by rw [hln]; kernel_rfl
      generalize ((TL t).getD x.2.val []).map (Value.int .u8) = cs at *
      gi_wp2_with (refine wpListIn_plain rfl fun K hK => ?_; refine opIn_of (fun _ h => by cases h) ?_; refine wp_store_row 60 (.tmp 7) (.tmp 21) rfl rfl V.heap.size rfl cs _ 60 rfl (heap_new V _) (by rw [hln]; rfl) hics h1c ?_; intro wg hbg hcg; refine hK _ _ ?_)
      have cv : Chg 0 0 V wg := (Chg.alloc (Chg.refl 0 0 V) _).step hcg (Or.inr (Or.inl (Nat.le_refl _)))
      refine hK' _ _ (KeepM.chg cv hMV (by omega)) (KpT.chg0 cv (fun k hk => by unfold KA at hk; omega)) ?_ ⟨V.heap.size, by omega, hbg, rfl⟩
      exact hI' M _ V wg none hi' (chg_grown cv) (fun r e => by cases e)
    case body =>
      rintro M l' zs x a' V hM' hMV ⟨⟨ov, cells, dvs, hob, hoo, hq1, hq2⟩, hlg, hch, hm⟩ ⟨Bx, hBx, hbx, rfl⟩ hlen
      have HSn := opsB_snoc sz hd (TL t) zs x
      have hb64 : ((TL t).getD x.2.val []).length = 64 := h64 _ (getD_mem x.2)
      have hx1 := x.1.isLt
      have hpl := Hpl.out V x.1.val hx1
      have hpr := Hpr.out x.1.val
      obtain ⟨blk, hblk⟩ : ∃ blk, blk = (TL t).getD x.2.val [] := ⟨_, rfl⟩
      obtain ⟨pl, hplv⟩ : ∃ pl, pl = placeI sz hd (x.1.val : Int) := ⟨_, rfl⟩
      rw [← hblk] at HSn hb64 hbx ⊢
      rw [← hplv] at HSn hpl hpr
      have HSn2 : Hid (startL sz 0 sq hd ++ opsB sz hd (TL t) (zs ++ [x]) = (startL sz 0 sq hd ++ opsB sz hd (TL t) zs) ++ [(1, 1 + pl, blk)]) := by show _ = _; rw [HSn, List.append_assoc]
      have Hlen : Hid ((startL sz 0 sq hd ++ opsB sz hd (TL t) zs).length = 2 + zs.length) := by show _ = _; rw [List.length_append, Hln.out, opsB_length]
      have Hb64 : Hid _ := hb64
      have hwp : IntKind.i64.wrap (1 + pl) = 1 + pl := by rw [IntKind.wrap_i64]; omega
      obtain ⟨cs, Hcs⟩ : ∃ cs, Hid (cs = blk.map (Value.int .u8)) := ⟨_, rfl⟩
      rw [← Hcs.out] at hbx ⊢
      have hln : cs.length = 64 := by rw [Hcs.out, List.length_map]; exact hb64
      have hics : (Tryz.prog.info? 60).map (·.size) = some cs.length := by rw [hln]; kernel_rfl
      have HbX : Hid _ := hbx
      have Hob : Hid _ := hob
      have Hoo : Hid _ := hoo
      have Hq1 : Hid _ := hq1
      have Hq2 : Hid (∀ i g, i < (startL sz 0 sq hd ++ opsB sz hd (TL t) zs).length → (dvs i).ownBlock = some g → g < Bt ∨ M ≤ g) := hq2
      have Hlg : Hid (V.heap[w.heap.size]? = some (logO 31 sz 0 sq hd us)) := hlg
      have Hch : Hid (Chg 0 0 w V) := hch
      have hsV := hch.size
      have HKl : Hid (∀ k, KA Bt lo hi k → k ≤ Bt ∧ k ≠ w1.heap.size ∧ (k = Bt ∨ k < w.heap.size)) := fun k hk => by unfold KA at hk; omega
      obtain ⟨x0, x1, x2, x3, x4⟩ := five_cells hlg
      clear hblk hplv HSn hb64 hbx hob hoo hq1 hq2 hlg hch hln hseq
      gi_wp2
      refine ⟨trivial, rfl, ((callsIn_wide.2 hpl).inRound l').mono ?_⟩
      rintro e W9 ⟨rfl, rfl⟩
      gi_wp2
      clear x0 x1 x2 x3 x4 hpl
      refine heldR_region (fun W : World => W.heap[Bx]? = some (.cells cs.toArray 60 (0, 0))) hmx ?_
      have zdo : W9.drew.heap[w1.heap.size]? = some (.cells #[ov] 29 (0, 0)) := Hob.out
      have Hdb : Hid (W9.drew.heap[Bx]? = some (.cells cs.toArray 60 (0, 0))) := HbX.out
      have Hdo : Hid (OwnOx W9.drew w.heap.size 47 5 ov (startL sz 0 sq hd ++ opsB sz hd (TL t) zs) cells dvs) := Hoo.out.chg (Chg.drew (Chg.refl 0 0 W9)) (fun g hg => by omega) (fun i g hi hg => by omega)
      have Hcd : Hid (Chg 0 0 W9 W9.drew) := Chg.drew (Chg.refl _ _ W9)
      have sd : W9.heap.size ≤ W9.drew.heap.size := Nat.le_refl _
      have sd2 : W9.drew.heap.size ≤ W9.heap.size := Nat.le_refl _
      generalize W9.drew = X at *
      refine heldR_take 1 (.int .i64 (1 + pl)) rfl (by kernel_rfl) (by kernel_rfl) (by kernel_rfl) (by kernel_rfl) (fun _ _ _ h => h) (.inl ⟨by kernel_rfl, fun w' hw' => by go_simp⟩) Hdb.out ?_
      go_simp
      refine heldR_take 2 (.agg cs.toArray) rfl (by kernel_rfl) (by kernel_rfl) (by kernel_rfl) (by kernel_rfl) (fun _ _ _ h => h) (yieldsIf_load_mid (by kernel_rfl) 60 (.tmp 7) rfl Bx 0 rfl cs _ (fun w' hw' => row_rng hw') Tryz.underlying60 rfl hics) Hdb.out ?_
      go_simp
      have hcall := fun W => bytesOf_calls W blk Hb64.out
      rw [← Hcs.out] at hcall
      refine heldR_two 0 3 rfl rfl (by kernel_rfl) rfl rfl (by kernel_rfl) ?_ ?_
      · have qs := Boxed.cell zdo
        go_simp
        refine ⟨Hdb.out, ?_⟩
        clear qs
        refine heldR_one 3 rfl (by kernel_rfl) rfl (by kernel_rfl) ?_
        refine wp_enter 27 #[.agg cs.toArray] (by first | kernel_rfl | go_simp) (hcall X) ?_
        rintro e X2 ⟨gd, rfl, od, c2⟩
        have Hdb2 : Hid _ := (c2.block _ (Array.getElem?_eq_some_iff.1 Hdb.out).1 (by omega)).trans Hdb.out
        refine ⟨_, rfl, Hdb2.out, ?_⟩
        have zd2 := (c2.block _ (by omega) (by omega)).trans zdo
        go_simp
        have s2 := c2.size
        refine heldR_take 4 (.agg #[.int .i64 1, .int .i64 (1 + pl), .slice (some ⟨gd, 0, none⟩) 64 64]) rfl (by kernel_rfl) (by kernel_rfl) (by kernel_rfl) (by kernel_rfl) (fun _ _ _ h => h) (.inl ⟨by kernel_rfl, fun w' hw' => by go_simp⟩) Hdb2.out ?_
        go_simp
        obtain ⟨ic, hic, hcz0, hcz1, hcz2⟩ := info_parts Tryz.infoOp
        refine heldR_one 5 rfl (by kernel_rfl) rfl (by kernel_rfl) ?_
        refine wp_buildSlice 29 47 1 #[(0, .tmp 33)] rfl #[.int .i64 1, .int .i64 (1 + pl), .slice (some ⟨gd, 0, none⟩) 64 64] ic _ Tryz.underlying29 hic hcz0 (by rw [hcz1]; decide) (by rw [hcz1]; decide) (by rw [hcz1, Array.toList_map]; refine fill3 _ ?_ _ _ _; simp) ?_
        have c3 : Chg 0 0 X2 (X2.alloc (.cells #[.int .i64 1, .int .i64 (1 + pl), .slice (some ⟨gd, 0, none⟩) 64 64] 47)) := Chg.alloc (Chg.refl 0 0 X2) _
        have c13 := (Hcd.out.trans c2).trans c3
        have s3 : X2.heap.size + 1 ≤ (X2.alloc (.cells #[.int .i64 1, .int .i64 (1 + pl), .slice (some ⟨gd, 0, none⟩) 64 64] 47)).heap.size := by simp
        have HX3 : Hid _ := oneOp_own X2 X.heap.size 1 (1 + pl) (.slice (some ⟨gd, 0, none⟩) 64 64) blk s2 od
        have HO3 : Hid _ := Hoo.out.chg c13 (fun g hg => by omega) (fun i g hi hg => by omega)
        have Hdb3 : Hid _ := (c3.block _ (Array.getElem?_eq_some_iff.1 Hdb2.out).1 (by omega)).trans Hdb2.out
        have zd3 := (c3.block _ (by omega) (by omega)).trans zd2
        have Hfr : Hid (∀ (i j : Nat) (g : Nat), i < (startL sz 0 sq hd ++ opsB sz hd (TL t) zs).length → j < 1 → (dvs i).ownBlock = some g → (Value.slice (some ⟨gd, 0, none⟩) 64 64).ownBlock ≠ some g) := more_apart (N := X.heap.size) (fun i g hi hg => by have := ((Hoo.out.data i hi).lt g hg).2; omega) (fun g hg => (od.lt g hg).1)
        have hgd := (od.lt gd rfl).1
        generalize X2.alloc (.cells #[.int .i64 1, .int .i64 (1 + pl), .slice (some ⟨gd, 0, none⟩) 64 64] 47) = X3 at *
        refine ⟨Hdb3.out, ?_⟩
        clear od c2 c3 hcall
        go_simp
        refine heldR_one 6 rfl (by kernel_rfl) rfl (by kernel_rfl) ?_
        refine wp_app_opsS (.tmp 29) (.tmp 34) rfl w.heap.size X.heap.size _ _ (startL sz 0 sq hd ++ opsB sz hd (TL t) zs) [(1, 1 + pl, blk)] cells _ dvs _ rfl HO3.out rfl HX3.out (by omega) (by omega) Nat.one_pos (by rw [Hlen.out]; show _ + 1 ≤ _; omega) Hfr.out ?_
        rintro v8 X4 ⟨g8, cp8, rfl⟩ o8 gr8 wh8
        have hnbo : some w1.heap.size ≠ ov.ownBlock := fun e => by obtain ⟨cu, hcu⟩ := row_elem' HO3.out.row e.symm; exact cells_ne hcu zd3 (by decide) rfl
        have hnbx : some Bx ≠ ov.ownBlock := fun e => by obtain ⟨cu, hcu⟩ := row_elem' HO3.out.row e.symm; exact cells_ne hcu Hdb3.out (by decide) rfl
        have zf := (gr8.block _ (by omega) hnbo).trans zd3
        have Hdb4 : Hid _ := (gr8.block _ (Array.getElem?_eq_some_iff.1 Hdb3.out).1 hnbx).trans Hdb3.out
        generalize hL8 : (startL sz 0 sq hd ++ opsB sz hd (TL t) zs).length + [(1, 1 + pl, blk)].length = L8 at *
        have HFin : Hid _ := ap_fin (lo := lo) (hi := hi) (N := wL.heap.size) Hob.out Hoo.out Hq1.out Hq2.out Hlg.out Hch.out HKl.out HSn2.out c13 o8 gr8 wh8 zf (by omega) (by omega) hm
        have e1 := Boxed.cell zf
        have e2 := Boxed.frozen zf
        have Hdb5 : Hid ((X4.setCell ⟨w1.heap.size, 0, none⟩ (.slice (some ⟨g8, 0, none⟩) L8 cp8)).heap[Bx]? = some (.cells cs.toArray 60 (0, 0))) := (Below.heap_setCell _ _ _ _ (by show Bx ≠ w1.heap.size; omega)).trans Hdb4.out
        clear o8 gr8 wh8 hnbo hnbx zf c13 zd2 zd3 zdo
        refine ⟨Hdb4.out, ?_⟩
        go_simp
        refine heldR_one 7 rfl (by kernel_rfl) rfl (by kernel_rfl) ?_
        go_simp
        refine ⟨Hdb5.out, ?_⟩
        refine heldR_done (by kernel_rfl) ?_
        refine OnlyN.mk ?_
        gi_wp2
        exact HFin.out
      · skip
        refine wp_enter 27 #[.agg cs.toArray] (by first | kernel_rfl | go_simp) (hcall X) ?_
        rintro e X2 ⟨gd, rfl, od, c2⟩
        have Hdb2 : Hid _ := (c2.block _ (Array.getElem?_eq_some_iff.1 Hdb.out).1 (by omega)).trans Hdb.out
        refine ⟨_, rfl, Hdb2.out, ?_⟩
        have zd2 := (c2.block _ (by omega) (by omega)).trans zdo
        go_simp
        have s2 := c2.size
        refine heldR_take 4 (.agg #[.int .i64 1, .int .i64 (1 + pl), .slice (some ⟨gd, 0, none⟩) 64 64]) rfl (by kernel_rfl) (by kernel_rfl) (by kernel_rfl) (by kernel_rfl) (fun _ _ _ h => h) (.inl ⟨by kernel_rfl, fun w' hw' => by go_simp⟩) Hdb2.out ?_
        go_simp
        refine heldR_two 0 5 rfl rfl (by kernel_rfl) rfl rfl (by kernel_rfl) ?_ ?_
        · skip
          have qs := Boxed.cell zd2
          go_simp
          refine ⟨Hdb2.out, ?_⟩
          clear qs
          obtain ⟨ic, hic, hcz0, hcz1, hcz2⟩ := info_parts Tryz.infoOp
          refine heldR_one 5 rfl (by kernel_rfl) rfl (by kernel_rfl) ?_
          refine wp_buildSlice 29 47 1 #[(0, .tmp 33)] rfl #[.int .i64 1, .int .i64 (1 + pl), .slice (some ⟨gd, 0, none⟩) 64 64] ic _ Tryz.underlying29 hic hcz0 (by rw [hcz1]; decide) (by rw [hcz1]; decide) (by rw [hcz1, Array.toList_map]; refine fill3 _ ?_ _ _ _; simp) ?_
          have c3 : Chg 0 0 X2 (X2.alloc (.cells #[.int .i64 1, .int .i64 (1 + pl), .slice (some ⟨gd, 0, none⟩) 64 64] 47)) := Chg.alloc (Chg.refl 0 0 X2) _
          have c13 := (Hcd.out.trans c2).trans c3
          have s3 : X2.heap.size + 1 ≤ (X2.alloc (.cells #[.int .i64 1, .int .i64 (1 + pl), .slice (some ⟨gd, 0, none⟩) 64 64] 47)).heap.size := by simp
          have HX3 : Hid _ := oneOp_own X2 X.heap.size 1 (1 + pl) (.slice (some ⟨gd, 0, none⟩) 64 64) blk s2 od
          have HO3 : Hid _ := Hoo.out.chg c13 (fun g hg => by omega) (fun i g hi hg => by omega)
          have Hdb3 : Hid _ := (c3.block _ (Array.getElem?_eq_some_iff.1 Hdb2.out).1 (by omega)).trans Hdb2.out
          have zd3 := (c3.block _ (by omega) (by omega)).trans zd2
          have Hfr : Hid (∀ (i j : Nat) (g : Nat), i < (startL sz 0 sq hd ++ opsB sz hd (TL t) zs).length → j < 1 → (dvs i).ownBlock = some g → (Value.slice (some ⟨gd, 0, none⟩) 64 64).ownBlock ≠ some g) := more_apart (N := X.heap.size) (fun i g hi hg => by have := ((Hoo.out.data i hi).lt g hg).2; omega) (fun g hg => (od.lt g hg).1)
          have hgd := (od.lt gd rfl).1
          generalize X2.alloc (.cells #[.int .i64 1, .int .i64 (1 + pl), .slice (some ⟨gd, 0, none⟩) 64 64] 47) = X3 at *
          refine ⟨Hdb3.out, ?_⟩
          clear od c2 c3 hcall
          go_simp
          refine heldR_one 6 rfl (by kernel_rfl) rfl (by kernel_rfl) ?_
          refine wp_app_opsS (.tmp 29) (.tmp 34) rfl w.heap.size X.heap.size _ _ (startL sz 0 sq hd ++ opsB sz hd (TL t) zs) [(1, 1 + pl, blk)] cells _ dvs _ rfl HO3.out rfl HX3.out (by omega) (by omega) Nat.one_pos (by rw [Hlen.out]; show _ + 1 ≤ _; omega) Hfr.out ?_
          rintro v8 X4 ⟨g8, cp8, rfl⟩ o8 gr8 wh8
          have hnbo : some w1.heap.size ≠ ov.ownBlock := fun e => by obtain ⟨cu, hcu⟩ := row_elem' HO3.out.row e.symm; exact cells_ne hcu zd3 (by decide) rfl
          have hnbx : some Bx ≠ ov.ownBlock := fun e => by obtain ⟨cu, hcu⟩ := row_elem' HO3.out.row e.symm; exact cells_ne hcu Hdb3.out (by decide) rfl
          have zf := (gr8.block _ (by omega) hnbo).trans zd3
          have Hdb4 : Hid _ := (gr8.block _ (Array.getElem?_eq_some_iff.1 Hdb3.out).1 hnbx).trans Hdb3.out
          generalize hL8 : (startL sz 0 sq hd ++ opsB sz hd (TL t) zs).length + [(1, 1 + pl, blk)].length = L8 at *
          have HFin : Hid _ := ap_fin (lo := lo) (hi := hi) (N := wL.heap.size) Hob.out Hoo.out Hq1.out Hq2.out Hlg.out Hch.out HKl.out HSn2.out c13 o8 gr8 wh8 zf (by omega) (by omega) hm
          have e1 := Boxed.cell zf
          have e2 := Boxed.frozen zf
          have Hdb5 : Hid ((X4.setCell ⟨w1.heap.size, 0, none⟩ (.slice (some ⟨g8, 0, none⟩) L8 cp8)).heap[Bx]? = some (.cells cs.toArray 60 (0, 0))) := (Below.heap_setCell _ _ _ _ (by show Bx ≠ w1.heap.size; omega)).trans Hdb4.out
          clear o8 gr8 wh8 hnbo hnbx zf c13 zd2 zd3 zdo
          refine ⟨Hdb4.out, ?_⟩
          go_simp
          refine heldR_one 7 rfl (by kernel_rfl) rfl (by kernel_rfl) ?_
          go_simp
          refine ⟨Hdb5.out, ?_⟩
          refine heldR_done (by kernel_rfl) ?_
          refine OnlyN.mk ?_
          gi_wp2
          exact HFin.out
        · skip
          obtain ⟨ic, hic, hcz0, hcz1, hcz2⟩ := info_parts Tryz.infoOp
          refine wp_buildSlice 29 47 1 #[(0, .tmp 33)] rfl #[.int .i64 1, .int .i64 (1 + pl), .slice (some ⟨gd, 0, none⟩) 64 64] ic _ Tryz.underlying29 hic hcz0 (by rw [hcz1]; decide) (by rw [hcz1]; decide) (by rw [hcz1, Array.toList_map]; refine fill3 _ ?_ _ _ _; simp) ?_
          have c3 : Chg 0 0 X2 (X2.alloc (.cells #[.int .i64 1, .int .i64 (1 + pl), .slice (some ⟨gd, 0, none⟩) 64 64] 47)) := Chg.alloc (Chg.refl 0 0 X2) _
          have c13 := (Hcd.out.trans c2).trans c3
          have s3 : X2.heap.size + 1 ≤ (X2.alloc (.cells #[.int .i64 1, .int .i64 (1 + pl), .slice (some ⟨gd, 0, none⟩) 64 64] 47)).heap.size := by simp
          have HX3 : Hid _ := oneOp_own X2 X.heap.size 1 (1 + pl) (.slice (some ⟨gd, 0, none⟩) 64 64) blk s2 od
          have HO3 : Hid _ := Hoo.out.chg c13 (fun g hg => by omega) (fun i g hi hg => by omega)
          have Hdb3 : Hid _ := (c3.block _ (Array.getElem?_eq_some_iff.1 Hdb2.out).1 (by omega)).trans Hdb2.out
          have zd3 := (c3.block _ (by omega) (by omega)).trans zd2
          have Hfr : Hid (∀ (i j : Nat) (g : Nat), i < (startL sz 0 sq hd ++ opsB sz hd (TL t) zs).length → j < 1 → (dvs i).ownBlock = some g → (Value.slice (some ⟨gd, 0, none⟩) 64 64).ownBlock ≠ some g) := more_apart (N := X.heap.size) (fun i g hi hg => by have := ((Hoo.out.data i hi).lt g hg).2; omega) (fun g hg => (od.lt g hg).1)
          have hgd := (od.lt gd rfl).1
          generalize X2.alloc (.cells #[.int .i64 1, .int .i64 (1 + pl), .slice (some ⟨gd, 0, none⟩) 64 64] 47) = X3 at *
          refine ⟨Hdb3.out, ?_⟩
          clear od c2 c3 hcall
          go_simp
          have qs := Boxed.cell zd3
          refine heldR_one 0 rfl (by kernel_rfl) rfl (by kernel_rfl) ?_
          go_simp
          refine ⟨Hdb3.out, ?_⟩
          clear qs
          refine heldR_one 6 rfl (by kernel_rfl) rfl (by kernel_rfl) ?_
          refine wp_app_opsS (.tmp 29) (.tmp 34) rfl w.heap.size X.heap.size _ _ (startL sz 0 sq hd ++ opsB sz hd (TL t) zs) [(1, 1 + pl, blk)] cells _ dvs _ rfl HO3.out rfl HX3.out (by omega) (by omega) Nat.one_pos (by rw [Hlen.out]; show _ + 1 ≤ _; omega) Hfr.out ?_
          rintro v8 X4 ⟨g8, cp8, rfl⟩ o8 gr8 wh8
          have hnbo : some w1.heap.size ≠ ov.ownBlock := fun e => by obtain ⟨cu, hcu⟩ := row_elem' HO3.out.row e.symm; exact cells_ne hcu zd3 (by decide) rfl
          have hnbx : some Bx ≠ ov.ownBlock := fun e => by obtain ⟨cu, hcu⟩ := row_elem' HO3.out.row e.symm; exact cells_ne hcu Hdb3.out (by decide) rfl
          have zf := (gr8.block _ (by omega) hnbo).trans zd3
          have Hdb4 : Hid _ := (gr8.block _ (Array.getElem?_eq_some_iff.1 Hdb3.out).1 hnbx).trans Hdb3.out
          generalize hL8 : (startL sz 0 sq hd ++ opsB sz hd (TL t) zs).length + [(1, 1 + pl, blk)].length = L8 at *
          have HFin : Hid _ := ap_fin (lo := lo) (hi := hi) (N := wL.heap.size) Hob.out Hoo.out Hq1.out Hq2.out Hlg.out Hch.out HKl.out HSn2.out c13 o8 gr8 wh8 zf (by omega) (by omega) hm
          have e1 := Boxed.cell zf
          have e2 := Boxed.frozen zf
          have Hdb5 : Hid ((X4.setCell ⟨w1.heap.size, 0, none⟩ (.slice (some ⟨g8, 0, none⟩) L8 cp8)).heap[Bx]? = some (.cells cs.toArray 60 (0, 0))) := (Below.heap_setCell _ _ _ _ (by show Bx ≠ w1.heap.size; omega)).trans Hdb4.out
          clear o8 gr8 wh8 hnbo hnbx zf c13 zd2 zd3 zdo
          refine ⟨Hdb4.out, ?_⟩
          go_simp
          refine heldR_one 7 rfl (by kernel_rfl) rfl (by kernel_rfl) ?_
          go_simp
          refine ⟨Hdb5.out, ?_⟩
          refine heldR_done (by kernel_rfl) ?_
          refine OnlyN.mk ?_
          gi_wp2
          exact HFin.out
    case done =>
      rintro M D zs V hD hS ⟨⟨ov, cells, dvs, hob, hoo, hq1, hq2⟩, hlg, hch, hm⟩ hK'
      rw [opsB_all hS] at hoo
      have q1 := Boxed.cell hob
      have hsV := hch.size
      have c7 : Chg 0 0 V (V.alloc (.cells #[.int .i64 2, .int .i64 0, .slice none 0 0] 47)) := Chg.alloc (Chg.refl 0 0 V) _
      have s7 : V.heap.size + 1 ≤ (V.alloc (.cells #[.int .i64 2, .int .i64 0, .slice none 0 0] 47)).heap.size := by simp
      have HX7 : Hid (OwnOx (V.alloc (.cells #[.int .i64 2, .int .i64 0, .slice none 0 0] 47)) V.heap.size 47 5 (.slice (some ⟨V.heap.size, 0, none⟩) 1 1) [(2, 0, [])] [.int .i64 2, .int .i64 0, .slice none 0 0] (fun _ => .slice none 0 0)) := oneOp_own V V.heap.size 2 0 (.slice none 0 0) [] (Nat.le_refl _) (OwnB.nil _ _ _)
      have HO7 : Hid _ := hoo.chg c7 (fun g hg => by omega) (fun i g hi hg => by omega)
      have Hlen : Hid ((startL sz 0 sq hd ++ putL sz hd (TL t) (TL t).length).length = 2 + (TL t).length) := by show _ = _; rw [List.length_append, Hln.out, putL_length]
      have HK7 : Hid _ := (c7.block _ (Array.getElem?_eq_some_iff.1 hK').1 (by omega)).trans hK'
      have HA7 : Hid _ := hch.trans c7
      clear hoo hch hob hlg hS c7 hK' hq1 hq2 hseq
      gi_wp2_with (refine wpListIn_plain rfl fun K hK => ?_; refine opIn_ofW ?_; refine wp_app_opsS (.tmp 36) (.tmp 38) rfl w.heap.size V.heap.size _ _ (startL sz 0 sq hd ++ putL sz hd (TL t) (TL t).length) [(2, 0, [])] cells _ dvs _ rfl HO7.out rfl HX7.out (by omega) (by omega) Nat.one_pos (by rw [Hlen.out]; show _ + 1 ≤ _; omega) (fun i j g _ _ _ h => by simp [Value.ownBlock] at h) ?_; intro v8 w8 e8 o8 gr8 wh8; refine hK _ _ ?_)
      have hKD := (gr8.block _ (Array.getElem?_eq_some_iff.1 HK7.out).1 (fun e => by obtain ⟨cu, hcu⟩ := row_elem' HO7.out.row e.symm; rw [HK7.out] at hcu; cases hcu)).trans HK7.out
      have HA8 : Chg 0 0 w w8 := ⟨gr8.os.trans HA7.out.os, gr8.tape.trans HA7.out.tape, gr8.output.trans HA7.out.output, Nat.le_trans HA7.out.size gr8.size, fun k hk ho => (gr8.block k (Nat.lt_of_lt_of_le hk HA7.out.size) (fun e => by have := World.ownsRow.lt HO7.out.row k e.symm; omega)).trans (HA7.out.block k hk ho)⟩
      refine ⟨by simp, .inl ⟨_, _, rfl, run_takeDeferred hKD, ?_⟩⟩
      have cD : ∀ o : Obj, Chg D (D + 1) w8 (w8.putObj D o) := fun o => ⟨rfl, rfl, rfl, by simp, fun k _ ho => World.putObj_heap_other (by omega)⟩
      have hDn : ∀ (g : Nat) (cu : Array Value) (ty : TypeId), w8.heap[g]? = some (.cells cu ty (0, 0)) → g ≠ D := fun g cu ty h e => by rw [e, hKD] at h; cases h
      refine ⟨_, results_tmp rfl _ _ _, _, rfl, ⟨_, _, by rw [Ht.out]; exact o8.chg (cD _) (fun g hg => by obtain ⟨cu, hcu⟩ := row_elem' o8.row hg; have := hDn _ _ _ hcu; omega) (fun i g hi hg => by obtain ⟨cu, hcu⟩ := row_elem' (o8.data i hi) hg; have := hDn _ _ _ hcu; omega)⟩, HA8.step (cD _) (by omega)⟩
  · have Hst : Hid (startL sz st sq hd = []) := by show _ = _; unfold startL; rw [if_neg hst]
    have hsb : (st == 0) = false := by simpa using hst
    have HDx : Hid (OwnOx (w1.alloc (.cells #[.slice none 0 0] 29)) w.heap.size 47 5 (.slice none 0 0) (startL sz st sq hd) [] (fun _ => .slice none 0 0)) := by rw [Hst.out]; exact OwnOx.noneA _ _
    obtain ⟨⟨k0, k1, k2⟩, _⟩ := tri HC1.out
    gi_wp2
    generalize w1.alloc (.cells #[.slice none 0 0] 29) = wz at *
    have HDo : Hid _ := HBo.out
    have HD0 : Hid _ := HC0.out
    have HDA : Hid _ := HCA.out
    have sV1 := Nat.le_of_eq sV
    have sV2 := Nat.le_of_eq sV.symm
    clear x0 x1 x2 x3 x4 HBo HC0 HC1 HCA hsb hst sV
    clear k0 k1 k2
    have y3 := heap_new wz (.cells #[.int .i64 t.seq, .slice po t.homes.length pcap, .slice ao t.revs.length cap] 35)
    have cB : Chg 0 0 wz (wz.alloc (.cells #[.int .i64 t.seq, .slice po t.homes.length pcap, .slice ao t.revs.length cap] 35)) := Chg.alloc (Chg.refl 0 0 wz) _
    have sB : (wz.alloc (.cells #[.int .i64 t.seq, .slice po t.homes.length pcap, .slice ao t.revs.length cap] 35)).heap.size = wz.heap.size + 1 := by simp
    refine ⟨trivial, rfl, (callsIn_wide.2 (blocksOf_calls _ _ _ _)).mono ?_⟩
    rintro e wq ⟨rfl, rfl⟩
    have hszz := (Array.getElem?_eq_some_iff.1 HDo.out).1
    have cL := HDA.out.trans cB
    have xo := (cB.block _ hszz (by omega)).trans HDo.out
    have xl := (cB.block _ (by omega) (by omega)).trans HD0.out
    have ox := HDx.out.chg cB (fun g hg => by omega) (fun i g hi hg => by omega)
    have oxl : ∀ g, ((.slice none 0 0) : Value).ownBlock = some g → g < wz.heap.size := fun g hg => (World.ownsRow.lt HDx.out.row g hg).2
    have oxd : ∀ i g, i < (startL sz st sq hd).length → ((fun _ => Value.slice none 0 0 : Nat → Value) i : Value).ownBlock = some g → g < wz.heap.size := fun i g hi hg => ((HDx.out.data i hi).lt g hg).2
    generalize wz.alloc (.cells #[.int .i64 t.seq, .slice po t.homes.length pcap, .slice ao t.revs.length cap] 35) = wL at *
    generalize hBt : wz.heap.size = Bt at *
    have sB1 := Nat.le_of_eq sB
    have sB2 := Nat.le_of_eq sB.symm
    clear sB
    have hseq := HSeq.out wL Bt cL y3
    have Hln : Hid ((startL sz st sq hd).length = 0) := by show _ = _; rw [Hst.out]; rfl
    clear HDo HD0 HDA HDx cB hBt HSeq
    gi_wp2
    have hI' : ∀ M : Nat, OwnFrom wL.heap.size (ApI w Bt w1.heap.size sz st sq hd us (startL sz st sq hd) (TL t) M) := by
      rintro M pre A C row ⟨⟨ov, cells, dvs, hb, ho, hq1, hq2⟩, hlg, hch, hm⟩ hg hr
      have hne : ∀ k, k < wL.heap.size → some k ≠ row := fun k hk e => by have := (hr _ e.symm).1; omega
      exact ⟨⟨ov, cells, dvs, (hg.block _ (Array.getElem?_eq_some_iff.1 hb).1 (hne _ (by omega))).trans hb, ho.grown hg (fun g e => (hr g e).2), hq1, hq2⟩, (hg.block _ (Array.getElem?_eq_some_iff.1 hlg).1 (hne _ (by omega))).trans hlg, ⟨hg.os.trans hch.os, hg.tape.trans hch.tape, hg.output.trans hch.output, Nat.le_trans hch.size hg.size, fun k hk ho => (hg.block k (Nat.lt_of_lt_of_le hk hch.size) (hne _ (by omega))).trans (hch.block k hk ho)⟩, hm⟩
    refine range_ownM (n := 0) (Kp := KpT (KA Bt lo hi) (wL.heap.size + 2)) (gf := 49) (lb := #[.pointer (some ⟨Bt, 0, none⟩)]) rfl (enters_of Tryz.func49 (by kernel_rfl) rfl)
      hseq (fun h => h) (Below.refl _ _) (fun _ => rfl) KpT.trans (fun V o _ hb => KpT.put o hb (fun k hk => by unfold KA at hk; omega) (by omega))
      (fun M => ApI w Bt w1.heap.size sz st sq hd us (startL sz st sq hd) (TL t) M) (fun _ _ _ _ => False)
      hI' (fun _ _ _ _ _ _ h _ _ => h) ?hIF (fun _ _ _ _ _ h _ _ => h) ?h0
      (fun x a' V => ∃ Bx, wL.heap.size ≤ Bx ∧ V.heap[Bx]? = some (.cells (((TL t).getD x.2.val []).map (Value.int .u8)).toArray 60 (0, 0)) ∧ a' = { tmps := #[logV sz st sq hd us, .agg #[.int .i64 t.seq, .slice po t.homes.length pcap, .slice ao t.revs.length cap], .pointer (some ⟨w.heap.size, 0, none⟩), .pointer (some ⟨w.heap.size + 1, 0, none⟩), .slice none 0 0, .pointer (some ⟨w1.heap.size, 0, none⟩), .int .i64 (x.1.val : Int), .pointer (some ⟨Bx, 0, none⟩), undef, logV sz st sq hd us, .agg #[.int .i64 t.seq, .slice po t.homes.length pcap, .slice ao t.revs.length cap], .int .i64 rz, .bool false, .pointer (some ⟨w.heap.size, 1, none⟩), .int .i64 st, .bool false, undef, undef, .agg #[.int .i64 t.seq, .slice po t.homes.length pcap, .slice ao t.revs.length cap], .func (.func 49) #[] #[.pointer (some ⟨Bt, 0, none⟩)], .int .i64 (x.1.val : Int), .agg (((TL t).getD x.2.val []).map (Value.int .u8)).toArray, undef, undef, undef, undef, undef, undef, undef, undef, undef, undef, undef, undef, undef, undef, undef, undef, undef, undef], defers := [] })
      ?hAx ?assign ?body ?done (fun _ _ _ _ _ _ _ h _ => h.elim)
    case hIF =>
      rintro M zs A C ⟨⟨ov, cells, dvs, hb, ho, hq1, hq2⟩, hlg, hch, hm⟩ hc hm'
      exact ⟨⟨ov, cells, dvs, (hc.block _ (Array.getElem?_eq_some_iff.1 hb).1 (by omega)).trans hb, ho.chg hc (fun g hg => by have := hq1 g hg; omega) (fun i g hi hg => by have := hq2 i g hi hg; omega), hq1, hq2⟩, (hc.block _ (Array.getElem?_eq_some_iff.1 hlg).1 (by omega)).trans hlg, hch.step hc (by omega), hm⟩
    case h0 =>
      intro V hV hsz
      exact ⟨⟨_, _, _, (hV.block _ (by omega)).trans xo, by rw [show opsB sz hd (TL t) [] = [] from rfl, List.append_nil]; exact ox.chg (Chg.ofBelow hV 0 0) (fun g hg => by omega) (fun i g hi hg => by omega), fun g hg => Or.inl (oxl g hg), by rw [show opsB sz hd (TL t) [] = [] from rfl, List.append_nil]; exact fun i g hi hg => Or.inl (oxd i g hi hg)⟩, (hV.block _ (by omega)).trans xl, cL.step (Chg.ofBelow hV 0 0) (by omega), by omega⟩
    case hAx =>
      rintro x a' _ A C row ⟨Bx, h1, h2, h3⟩ hg hr
      exact ⟨Bx, h1, cells_stay h2 hg (fun r e => (hr r e).2), h3⟩
    case assign =>
      rintro M l' zs x V K' hM' hMV hi' hK'
      simp only [encT]
      have hln : (((TL t).getD x.2.val []).map (Value.int .u8)).length = 64 := by rw [List.length_map]; exact h64 _ (getD_mem x.2)
      have h1c : ∀ v ∈ ((TL t).getD x.2.val []).map (Value.int .u8), v.oneCell' = true := ints_oneCell _ _
      have hics : (Tryz.prog.info? 60).map (·.size) = some (((TL t).getD x.2.val []).map (Value.int .u8)).length := by rw [hln]; kernel_rfl
      generalize ((TL t).getD x.2.val []).map (Value.int .u8) = cs at *
      gi_wp2_with (refine wpListIn_plain rfl fun K hK => ?_; refine opIn_of (fun _ h => by cases h) ?_; refine wp_store_row 60 (.tmp 7) (.tmp 21) rfl rfl V.heap.size rfl cs _ 60 rfl (heap_new V _) (by rw [hln]; rfl) hics h1c ?_; intro wg hbg hcg; refine hK _ _ ?_)
      have cv : Chg 0 0 V wg := (Chg.alloc (Chg.refl 0 0 V) _).step hcg (Or.inr (Or.inl (Nat.le_refl _)))
      refine hK' _ _ (KeepM.chg cv hMV (by omega)) (KpT.chg0 cv (fun k hk => by unfold KA at hk; omega)) ?_ ⟨V.heap.size, by omega, hbg, rfl⟩
      exact hI' M _ V wg none hi' (chg_grown cv) (fun r e => by cases e)
    case body =>
      rintro M l' zs x a' V hM' hMV ⟨⟨ov, cells, dvs, hob, hoo, hq1, hq2⟩, hlg, hch, hm⟩ ⟨Bx, hBx, hbx, rfl⟩ hlen
      have HSn := opsB_snoc sz hd (TL t) zs x
      have hb64 : ((TL t).getD x.2.val []).length = 64 := h64 _ (getD_mem x.2)
      have hx1 := x.1.isLt
      have hpl := Hpl.out V x.1.val hx1
      have hpr := Hpr.out x.1.val
      obtain ⟨blk, hblk⟩ : ∃ blk, blk = (TL t).getD x.2.val [] := ⟨_, rfl⟩
      obtain ⟨pl, hplv⟩ : ∃ pl, pl = placeI sz hd (x.1.val : Int) := ⟨_, rfl⟩
      rw [← hblk] at HSn hb64 hbx ⊢
      rw [← hplv] at HSn hpl hpr
      have HSn2 : Hid (startL sz st sq hd ++ opsB sz hd (TL t) (zs ++ [x]) = (startL sz st sq hd ++ opsB sz hd (TL t) zs) ++ [(1, 1 + pl, blk)]) := by show _ = _; rw [HSn, List.append_assoc]
      have Hlen : Hid ((startL sz st sq hd ++ opsB sz hd (TL t) zs).length = 0 + zs.length) := by show _ = _; rw [List.length_append, Hln.out, opsB_length]
      have Hb64 : Hid _ := hb64
      have hwp : IntKind.i64.wrap (1 + pl) = 1 + pl := by rw [IntKind.wrap_i64]; omega
      obtain ⟨cs, Hcs⟩ : ∃ cs, Hid (cs = blk.map (Value.int .u8)) := ⟨_, rfl⟩
      rw [← Hcs.out] at hbx ⊢
      have hln : cs.length = 64 := by rw [Hcs.out, List.length_map]; exact hb64
      have hics : (Tryz.prog.info? 60).map (·.size) = some cs.length := by rw [hln]; kernel_rfl
      have HbX : Hid _ := hbx
      have Hob : Hid _ := hob
      have Hoo : Hid _ := hoo
      have Hq1 : Hid _ := hq1
      have Hq2 : Hid (∀ i g, i < (startL sz st sq hd ++ opsB sz hd (TL t) zs).length → (dvs i).ownBlock = some g → g < Bt ∨ M ≤ g) := hq2
      have Hlg : Hid (V.heap[w.heap.size]? = some (logO 31 sz st sq hd us)) := hlg
      have Hch : Hid (Chg 0 0 w V) := hch
      have hsV := hch.size
      have HKl : Hid (∀ k, KA Bt lo hi k → k ≤ Bt ∧ k ≠ w1.heap.size ∧ (k = Bt ∨ k < w.heap.size)) := fun k hk => by unfold KA at hk; omega
      obtain ⟨x0, x1, x2, x3, x4⟩ := five_cells hlg
      clear hblk hplv HSn hb64 hbx hob hoo hq1 hq2 hlg hch hln hseq
      gi_wp2
      refine ⟨trivial, rfl, ((callsIn_wide.2 hpl).inRound l').mono ?_⟩
      rintro e W9 ⟨rfl, rfl⟩
      gi_wp2
      clear x0 x1 x2 x3 x4 hpl
      refine heldR_region (fun W : World => W.heap[Bx]? = some (.cells cs.toArray 60 (0, 0))) hmx ?_
      have zdo : W9.drew.heap[w1.heap.size]? = some (.cells #[ov] 29 (0, 0)) := Hob.out
      have Hdb : Hid (W9.drew.heap[Bx]? = some (.cells cs.toArray 60 (0, 0))) := HbX.out
      have Hdo : Hid (OwnOx W9.drew w.heap.size 47 5 ov (startL sz st sq hd ++ opsB sz hd (TL t) zs) cells dvs) := Hoo.out.chg (Chg.drew (Chg.refl 0 0 W9)) (fun g hg => by omega) (fun i g hi hg => by omega)
      have Hcd : Hid (Chg 0 0 W9 W9.drew) := Chg.drew (Chg.refl _ _ W9)
      have sd : W9.heap.size ≤ W9.drew.heap.size := Nat.le_refl _
      have sd2 : W9.drew.heap.size ≤ W9.heap.size := Nat.le_refl _
      generalize W9.drew = X at *
      refine heldR_take 1 (.int .i64 (1 + pl)) rfl (by kernel_rfl) (by kernel_rfl) (by kernel_rfl) (by kernel_rfl) (fun _ _ _ h => h) (.inl ⟨by kernel_rfl, fun w' hw' => by go_simp⟩) Hdb.out ?_
      go_simp
      refine heldR_take 2 (.agg cs.toArray) rfl (by kernel_rfl) (by kernel_rfl) (by kernel_rfl) (by kernel_rfl) (fun _ _ _ h => h) (yieldsIf_load_mid (by kernel_rfl) 60 (.tmp 7) rfl Bx 0 rfl cs _ (fun w' hw' => row_rng hw') Tryz.underlying60 rfl hics) Hdb.out ?_
      go_simp
      have hcall := fun W => bytesOf_calls W blk Hb64.out
      rw [← Hcs.out] at hcall
      refine heldR_two 0 3 rfl rfl (by kernel_rfl) rfl rfl (by kernel_rfl) ?_ ?_
      · have qs := Boxed.cell zdo
        go_simp
        refine ⟨Hdb.out, ?_⟩
        clear qs
        refine heldR_one 3 rfl (by kernel_rfl) rfl (by kernel_rfl) ?_
        refine wp_enter 27 #[.agg cs.toArray] (by first | kernel_rfl | go_simp) (hcall X) ?_
        rintro e X2 ⟨gd, rfl, od, c2⟩
        have Hdb2 : Hid _ := (c2.block _ (Array.getElem?_eq_some_iff.1 Hdb.out).1 (by omega)).trans Hdb.out
        refine ⟨_, rfl, Hdb2.out, ?_⟩
        have zd2 := (c2.block _ (by omega) (by omega)).trans zdo
        go_simp
        have s2 := c2.size
        refine heldR_take 4 (.agg #[.int .i64 1, .int .i64 (1 + pl), .slice (some ⟨gd, 0, none⟩) 64 64]) rfl (by kernel_rfl) (by kernel_rfl) (by kernel_rfl) (by kernel_rfl) (fun _ _ _ h => h) (.inl ⟨by kernel_rfl, fun w' hw' => by go_simp⟩) Hdb2.out ?_
        go_simp
        obtain ⟨ic, hic, hcz0, hcz1, hcz2⟩ := info_parts Tryz.infoOp
        refine heldR_one 5 rfl (by kernel_rfl) rfl (by kernel_rfl) ?_
        refine wp_buildSlice 29 47 1 #[(0, .tmp 33)] rfl #[.int .i64 1, .int .i64 (1 + pl), .slice (some ⟨gd, 0, none⟩) 64 64] ic _ Tryz.underlying29 hic hcz0 (by rw [hcz1]; decide) (by rw [hcz1]; decide) (by rw [hcz1, Array.toList_map]; refine fill3 _ ?_ _ _ _; simp) ?_
        have c3 : Chg 0 0 X2 (X2.alloc (.cells #[.int .i64 1, .int .i64 (1 + pl), .slice (some ⟨gd, 0, none⟩) 64 64] 47)) := Chg.alloc (Chg.refl 0 0 X2) _
        have c13 := (Hcd.out.trans c2).trans c3
        have s3 : X2.heap.size + 1 ≤ (X2.alloc (.cells #[.int .i64 1, .int .i64 (1 + pl), .slice (some ⟨gd, 0, none⟩) 64 64] 47)).heap.size := by simp
        have HX3 : Hid _ := oneOp_own X2 X.heap.size 1 (1 + pl) (.slice (some ⟨gd, 0, none⟩) 64 64) blk s2 od
        have HO3 : Hid _ := Hoo.out.chg c13 (fun g hg => by omega) (fun i g hi hg => by omega)
        have Hdb3 : Hid _ := (c3.block _ (Array.getElem?_eq_some_iff.1 Hdb2.out).1 (by omega)).trans Hdb2.out
        have zd3 := (c3.block _ (by omega) (by omega)).trans zd2
        have Hfr : Hid (∀ (i j : Nat) (g : Nat), i < (startL sz st sq hd ++ opsB sz hd (TL t) zs).length → j < 1 → (dvs i).ownBlock = some g → (Value.slice (some ⟨gd, 0, none⟩) 64 64).ownBlock ≠ some g) := more_apart (N := X.heap.size) (fun i g hi hg => by have := ((Hoo.out.data i hi).lt g hg).2; omega) (fun g hg => (od.lt g hg).1)
        have hgd := (od.lt gd rfl).1
        generalize X2.alloc (.cells #[.int .i64 1, .int .i64 (1 + pl), .slice (some ⟨gd, 0, none⟩) 64 64] 47) = X3 at *
        refine ⟨Hdb3.out, ?_⟩
        clear od c2 c3 hcall
        go_simp
        refine heldR_one 6 rfl (by kernel_rfl) rfl (by kernel_rfl) ?_
        refine wp_app_opsS (.tmp 29) (.tmp 34) rfl w.heap.size X.heap.size _ _ (startL sz st sq hd ++ opsB sz hd (TL t) zs) [(1, 1 + pl, blk)] cells _ dvs _ rfl HO3.out rfl HX3.out (by omega) (by omega) Nat.one_pos (by rw [Hlen.out]; show _ + 1 ≤ _; omega) Hfr.out ?_
        rintro v8 X4 ⟨g8, cp8, rfl⟩ o8 gr8 wh8
        have hnbo : some w1.heap.size ≠ ov.ownBlock := fun e => by obtain ⟨cu, hcu⟩ := row_elem' HO3.out.row e.symm; exact cells_ne hcu zd3 (by decide) rfl
        have hnbx : some Bx ≠ ov.ownBlock := fun e => by obtain ⟨cu, hcu⟩ := row_elem' HO3.out.row e.symm; exact cells_ne hcu Hdb3.out (by decide) rfl
        have zf := (gr8.block _ (by omega) hnbo).trans zd3
        have Hdb4 : Hid _ := (gr8.block _ (Array.getElem?_eq_some_iff.1 Hdb3.out).1 hnbx).trans Hdb3.out
        generalize hL8 : (startL sz st sq hd ++ opsB sz hd (TL t) zs).length + [(1, 1 + pl, blk)].length = L8 at *
        have HFin : Hid _ := ap_fin (lo := lo) (hi := hi) (N := wL.heap.size) Hob.out Hoo.out Hq1.out Hq2.out Hlg.out Hch.out HKl.out HSn2.out c13 o8 gr8 wh8 zf (by omega) (by omega) hm
        have e1 := Boxed.cell zf
        have e2 := Boxed.frozen zf
        have Hdb5 : Hid ((X4.setCell ⟨w1.heap.size, 0, none⟩ (.slice (some ⟨g8, 0, none⟩) L8 cp8)).heap[Bx]? = some (.cells cs.toArray 60 (0, 0))) := (Below.heap_setCell _ _ _ _ (by show Bx ≠ w1.heap.size; omega)).trans Hdb4.out
        clear o8 gr8 wh8 hnbo hnbx zf c13 zd2 zd3 zdo
        refine ⟨Hdb4.out, ?_⟩
        go_simp
        refine heldR_one 7 rfl (by kernel_rfl) rfl (by kernel_rfl) ?_
        go_simp
        refine ⟨Hdb5.out, ?_⟩
        refine heldR_done (by kernel_rfl) ?_
        refine OnlyN.mk ?_
        gi_wp2
        exact HFin.out
      · skip
        refine wp_enter 27 #[.agg cs.toArray] (by first | kernel_rfl | go_simp) (hcall X) ?_
        rintro e X2 ⟨gd, rfl, od, c2⟩
        have Hdb2 : Hid _ := (c2.block _ (Array.getElem?_eq_some_iff.1 Hdb.out).1 (by omega)).trans Hdb.out
        refine ⟨_, rfl, Hdb2.out, ?_⟩
        have zd2 := (c2.block _ (by omega) (by omega)).trans zdo
        go_simp
        have s2 := c2.size
        refine heldR_take 4 (.agg #[.int .i64 1, .int .i64 (1 + pl), .slice (some ⟨gd, 0, none⟩) 64 64]) rfl (by kernel_rfl) (by kernel_rfl) (by kernel_rfl) (by kernel_rfl) (fun _ _ _ h => h) (.inl ⟨by kernel_rfl, fun w' hw' => by go_simp⟩) Hdb2.out ?_
        go_simp
        refine heldR_two 0 5 rfl rfl (by kernel_rfl) rfl rfl (by kernel_rfl) ?_ ?_
        · skip
          have qs := Boxed.cell zd2
          go_simp
          refine ⟨Hdb2.out, ?_⟩
          clear qs
          obtain ⟨ic, hic, hcz0, hcz1, hcz2⟩ := info_parts Tryz.infoOp
          refine heldR_one 5 rfl (by kernel_rfl) rfl (by kernel_rfl) ?_
          refine wp_buildSlice 29 47 1 #[(0, .tmp 33)] rfl #[.int .i64 1, .int .i64 (1 + pl), .slice (some ⟨gd, 0, none⟩) 64 64] ic _ Tryz.underlying29 hic hcz0 (by rw [hcz1]; decide) (by rw [hcz1]; decide) (by rw [hcz1, Array.toList_map]; refine fill3 _ ?_ _ _ _; simp) ?_
          have c3 : Chg 0 0 X2 (X2.alloc (.cells #[.int .i64 1, .int .i64 (1 + pl), .slice (some ⟨gd, 0, none⟩) 64 64] 47)) := Chg.alloc (Chg.refl 0 0 X2) _
          have c13 := (Hcd.out.trans c2).trans c3
          have s3 : X2.heap.size + 1 ≤ (X2.alloc (.cells #[.int .i64 1, .int .i64 (1 + pl), .slice (some ⟨gd, 0, none⟩) 64 64] 47)).heap.size := by simp
          have HX3 : Hid _ := oneOp_own X2 X.heap.size 1 (1 + pl) (.slice (some ⟨gd, 0, none⟩) 64 64) blk s2 od
          have HO3 : Hid _ := Hoo.out.chg c13 (fun g hg => by omega) (fun i g hi hg => by omega)
          have Hdb3 : Hid _ := (c3.block _ (Array.getElem?_eq_some_iff.1 Hdb2.out).1 (by omega)).trans Hdb2.out
          have zd3 := (c3.block _ (by omega) (by omega)).trans zd2
          have Hfr : Hid (∀ (i j : Nat) (g : Nat), i < (startL sz st sq hd ++ opsB sz hd (TL t) zs).length → j < 1 → (dvs i).ownBlock = some g → (Value.slice (some ⟨gd, 0, none⟩) 64 64).ownBlock ≠ some g) := more_apart (N := X.heap.size) (fun i g hi hg => by have := ((Hoo.out.data i hi).lt g hg).2; omega) (fun g hg => (od.lt g hg).1)
          have hgd := (od.lt gd rfl).1
          generalize X2.alloc (.cells #[.int .i64 1, .int .i64 (1 + pl), .slice (some ⟨gd, 0, none⟩) 64 64] 47) = X3 at *
          refine ⟨Hdb3.out, ?_⟩
          clear od c2 c3 hcall
          go_simp
          refine heldR_one 6 rfl (by kernel_rfl) rfl (by kernel_rfl) ?_
          refine wp_app_opsS (.tmp 29) (.tmp 34) rfl w.heap.size X.heap.size _ _ (startL sz st sq hd ++ opsB sz hd (TL t) zs) [(1, 1 + pl, blk)] cells _ dvs _ rfl HO3.out rfl HX3.out (by omega) (by omega) Nat.one_pos (by rw [Hlen.out]; show _ + 1 ≤ _; omega) Hfr.out ?_
          rintro v8 X4 ⟨g8, cp8, rfl⟩ o8 gr8 wh8
          have hnbo : some w1.heap.size ≠ ov.ownBlock := fun e => by obtain ⟨cu, hcu⟩ := row_elem' HO3.out.row e.symm; exact cells_ne hcu zd3 (by decide) rfl
          have hnbx : some Bx ≠ ov.ownBlock := fun e => by obtain ⟨cu, hcu⟩ := row_elem' HO3.out.row e.symm; exact cells_ne hcu Hdb3.out (by decide) rfl
          have zf := (gr8.block _ (by omega) hnbo).trans zd3
          have Hdb4 : Hid _ := (gr8.block _ (Array.getElem?_eq_some_iff.1 Hdb3.out).1 hnbx).trans Hdb3.out
          generalize hL8 : (startL sz st sq hd ++ opsB sz hd (TL t) zs).length + [(1, 1 + pl, blk)].length = L8 at *
          have HFin : Hid _ := ap_fin (lo := lo) (hi := hi) (N := wL.heap.size) Hob.out Hoo.out Hq1.out Hq2.out Hlg.out Hch.out HKl.out HSn2.out c13 o8 gr8 wh8 zf (by omega) (by omega) hm
          have e1 := Boxed.cell zf
          have e2 := Boxed.frozen zf
          have Hdb5 : Hid ((X4.setCell ⟨w1.heap.size, 0, none⟩ (.slice (some ⟨g8, 0, none⟩) L8 cp8)).heap[Bx]? = some (.cells cs.toArray 60 (0, 0))) := (Below.heap_setCell _ _ _ _ (by show Bx ≠ w1.heap.size; omega)).trans Hdb4.out
          clear o8 gr8 wh8 hnbo hnbx zf c13 zd2 zd3 zdo
          refine ⟨Hdb4.out, ?_⟩
          go_simp
          refine heldR_one 7 rfl (by kernel_rfl) rfl (by kernel_rfl) ?_
          go_simp
          refine ⟨Hdb5.out, ?_⟩
          refine heldR_done (by kernel_rfl) ?_
          refine OnlyN.mk ?_
          gi_wp2
          exact HFin.out
        · skip
          obtain ⟨ic, hic, hcz0, hcz1, hcz2⟩ := info_parts Tryz.infoOp
          refine wp_buildSlice 29 47 1 #[(0, .tmp 33)] rfl #[.int .i64 1, .int .i64 (1 + pl), .slice (some ⟨gd, 0, none⟩) 64 64] ic _ Tryz.underlying29 hic hcz0 (by rw [hcz1]; decide) (by rw [hcz1]; decide) (by rw [hcz1, Array.toList_map]; refine fill3 _ ?_ _ _ _; simp) ?_
          have c3 : Chg 0 0 X2 (X2.alloc (.cells #[.int .i64 1, .int .i64 (1 + pl), .slice (some ⟨gd, 0, none⟩) 64 64] 47)) := Chg.alloc (Chg.refl 0 0 X2) _
          have c13 := (Hcd.out.trans c2).trans c3
          have s3 : X2.heap.size + 1 ≤ (X2.alloc (.cells #[.int .i64 1, .int .i64 (1 + pl), .slice (some ⟨gd, 0, none⟩) 64 64] 47)).heap.size := by simp
          have HX3 : Hid _ := oneOp_own X2 X.heap.size 1 (1 + pl) (.slice (some ⟨gd, 0, none⟩) 64 64) blk s2 od
          have HO3 : Hid _ := Hoo.out.chg c13 (fun g hg => by omega) (fun i g hi hg => by omega)
          have Hdb3 : Hid _ := (c3.block _ (Array.getElem?_eq_some_iff.1 Hdb2.out).1 (by omega)).trans Hdb2.out
          have zd3 := (c3.block _ (by omega) (by omega)).trans zd2
          have Hfr : Hid (∀ (i j : Nat) (g : Nat), i < (startL sz st sq hd ++ opsB sz hd (TL t) zs).length → j < 1 → (dvs i).ownBlock = some g → (Value.slice (some ⟨gd, 0, none⟩) 64 64).ownBlock ≠ some g) := more_apart (N := X.heap.size) (fun i g hi hg => by have := ((Hoo.out.data i hi).lt g hg).2; omega) (fun g hg => (od.lt g hg).1)
          have hgd := (od.lt gd rfl).1
          generalize X2.alloc (.cells #[.int .i64 1, .int .i64 (1 + pl), .slice (some ⟨gd, 0, none⟩) 64 64] 47) = X3 at *
          refine ⟨Hdb3.out, ?_⟩
          clear od c2 c3 hcall
          go_simp
          have qs := Boxed.cell zd3
          refine heldR_one 0 rfl (by kernel_rfl) rfl (by kernel_rfl) ?_
          go_simp
          refine ⟨Hdb3.out, ?_⟩
          clear qs
          refine heldR_one 6 rfl (by kernel_rfl) rfl (by kernel_rfl) ?_
          refine wp_app_opsS (.tmp 29) (.tmp 34) rfl w.heap.size X.heap.size _ _ (startL sz st sq hd ++ opsB sz hd (TL t) zs) [(1, 1 + pl, blk)] cells _ dvs _ rfl HO3.out rfl HX3.out (by omega) (by omega) Nat.one_pos (by rw [Hlen.out]; show _ + 1 ≤ _; omega) Hfr.out ?_
          rintro v8 X4 ⟨g8, cp8, rfl⟩ o8 gr8 wh8
          have hnbo : some w1.heap.size ≠ ov.ownBlock := fun e => by obtain ⟨cu, hcu⟩ := row_elem' HO3.out.row e.symm; exact cells_ne hcu zd3 (by decide) rfl
          have hnbx : some Bx ≠ ov.ownBlock := fun e => by obtain ⟨cu, hcu⟩ := row_elem' HO3.out.row e.symm; exact cells_ne hcu Hdb3.out (by decide) rfl
          have zf := (gr8.block _ (by omega) hnbo).trans zd3
          have Hdb4 : Hid _ := (gr8.block _ (Array.getElem?_eq_some_iff.1 Hdb3.out).1 hnbx).trans Hdb3.out
          generalize hL8 : (startL sz st sq hd ++ opsB sz hd (TL t) zs).length + [(1, 1 + pl, blk)].length = L8 at *
          have HFin : Hid _ := ap_fin (lo := lo) (hi := hi) (N := wL.heap.size) Hob.out Hoo.out Hq1.out Hq2.out Hlg.out Hch.out HKl.out HSn2.out c13 o8 gr8 wh8 zf (by omega) (by omega) hm
          have e1 := Boxed.cell zf
          have e2 := Boxed.frozen zf
          have Hdb5 : Hid ((X4.setCell ⟨w1.heap.size, 0, none⟩ (.slice (some ⟨g8, 0, none⟩) L8 cp8)).heap[Bx]? = some (.cells cs.toArray 60 (0, 0))) := (Below.heap_setCell _ _ _ _ (by show Bx ≠ w1.heap.size; omega)).trans Hdb4.out
          clear o8 gr8 wh8 hnbo hnbx zf c13 zd2 zd3 zdo
          refine ⟨Hdb4.out, ?_⟩
          go_simp
          refine heldR_one 7 rfl (by kernel_rfl) rfl (by kernel_rfl) ?_
          go_simp
          refine ⟨Hdb5.out, ?_⟩
          refine heldR_done (by kernel_rfl) ?_
          refine OnlyN.mk ?_
          gi_wp2
          exact HFin.out
    case done =>
      rintro M D zs V hD hS ⟨⟨ov, cells, dvs, hob, hoo, hq1, hq2⟩, hlg, hch, hm⟩ hK'
      rw [opsB_all hS] at hoo
      have q1 := Boxed.cell hob
      have hsV := hch.size
      have c7 : Chg 0 0 V (V.alloc (.cells #[.int .i64 2, .int .i64 0, .slice none 0 0] 47)) := Chg.alloc (Chg.refl 0 0 V) _
      have s7 : V.heap.size + 1 ≤ (V.alloc (.cells #[.int .i64 2, .int .i64 0, .slice none 0 0] 47)).heap.size := by simp
      have HX7 : Hid (OwnOx (V.alloc (.cells #[.int .i64 2, .int .i64 0, .slice none 0 0] 47)) V.heap.size 47 5 (.slice (some ⟨V.heap.size, 0, none⟩) 1 1) [(2, 0, [])] [.int .i64 2, .int .i64 0, .slice none 0 0] (fun _ => .slice none 0 0)) := oneOp_own V V.heap.size 2 0 (.slice none 0 0) [] (Nat.le_refl _) (OwnB.nil _ _ _)
      have HO7 : Hid _ := hoo.chg c7 (fun g hg => by omega) (fun i g hi hg => by omega)
      have Hlen : Hid ((startL sz st sq hd ++ putL sz hd (TL t) (TL t).length).length = 0 + (TL t).length) := by show _ = _; rw [List.length_append, Hln.out, putL_length]
      have HK7 : Hid _ := (c7.block _ (Array.getElem?_eq_some_iff.1 hK').1 (by omega)).trans hK'
      have HA7 : Hid _ := hch.trans c7
      clear hoo hch hob hlg hS c7 hK' hq1 hq2 hseq
      gi_wp2_with (refine wpListIn_plain rfl fun K hK => ?_; refine opIn_ofW ?_; refine wp_app_opsS (.tmp 36) (.tmp 38) rfl w.heap.size V.heap.size _ _ (startL sz st sq hd ++ putL sz hd (TL t) (TL t).length) [(2, 0, [])] cells _ dvs _ rfl HO7.out rfl HX7.out (by omega) (by omega) Nat.one_pos (by rw [Hlen.out]; show _ + 1 ≤ _; omega) (fun i j g _ _ _ h => by simp [Value.ownBlock] at h) ?_; intro v8 w8 e8 o8 gr8 wh8; refine hK _ _ ?_)
      have hKD := (gr8.block _ (Array.getElem?_eq_some_iff.1 HK7.out).1 (fun e => by obtain ⟨cu, hcu⟩ := row_elem' HO7.out.row e.symm; rw [HK7.out] at hcu; cases hcu)).trans HK7.out
      have HA8 : Chg 0 0 w w8 := ⟨gr8.os.trans HA7.out.os, gr8.tape.trans HA7.out.tape, gr8.output.trans HA7.out.output, Nat.le_trans HA7.out.size gr8.size, fun k hk ho => (gr8.block k (Nat.lt_of_lt_of_le hk HA7.out.size) (fun e => by have := World.ownsRow.lt HO7.out.row k e.symm; omega)).trans (HA7.out.block k hk ho)⟩
      refine ⟨by simp, .inl ⟨_, _, rfl, run_takeDeferred hKD, ?_⟩⟩
      have cD : ∀ o : Obj, Chg D (D + 1) w8 (w8.putObj D o) := fun o => ⟨rfl, rfl, rfl, by simp, fun k _ ho => World.putObj_heap_other (by omega)⟩
      have hDn : ∀ (g : Nat) (cu : Array Value) (ty : TypeId), w8.heap[g]? = some (.cells cu ty (0, 0)) → g ≠ D := fun g cu ty h e => by rw [e, hKD] at h; cases h
      refine ⟨_, results_tmp rfl _ _ _, _, rfl, ⟨_, _, by rw [Ht.out]; exact o8.chg (cD _) (fun g hg => by obtain ⟨cu, hcu⟩ := row_elem' o8.row hg; have := hDn _ _ _ hcu; omega) (fun i g hi hg => by obtain ⟨cu, hcu⟩ := row_elem' (o8.data i hi) hg; have := hDn _ _ _ hcu; omega)⟩, HA8.step (cD _) (by omega)⟩

end Go.Proofs.YtahjaejepkgfdaaGreatDoor
