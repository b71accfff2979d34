/- How many blocks a transaction has, of the program. -/
import Derived.Test.YtahjaejepkgfdaaGreatDoorImplOf
namespace Go.Proofs.YtahjaejepkgfdaaGreatDoor
open Go.RowKit Go.Shelf
attribute [local go_sem] Oper.semAt_some

/-- One more than the last place. -/
def lastP {K : Nat} (pre : List (Fin 1000 × Fin K)) : Int := (pre.getLast?.map fun z => (z.1.val : Int) + 1).getD 0
theorem lastP_snoc {K : Nat} (pre : List (Fin 1000 × Fin K)) (x : Fin 1000 × Fin K) : lastP (pre ++ [x]) = (x.1.val : Int) + 1 := by unfold lastP; simp
theorem diag_succ (n : Nat) : diag (n + 1) = diag n ++ [(n, n)] := by unfold diag; rw [List.range_succ, List.map_append]; rfl
theorem diag_mem {n : Nat} {p : Nat × Nat} (h : p ∈ diag n) : p.1 = p.2 ∧ p.1 < n := by
  unfold diag at h
  obtain ⟨i, hi, rfl⟩ := List.mem_map.1 h
  exact ⟨rfl, List.mem_range.1 hi⟩
theorem diag_has {n i : Nat} (h : i < n) : (i, i) ∈ diag n := by unfold diag; exact List.mem_map.2 ⟨i, List.mem_range.2 h, rfl⟩
theorem lastP_diag {K n : Nat} {zs : List (Fin 1000 × Fin K)} (h : vals2 zs = diag n) : lastP zs = (n : Int) := by
  have e : lastP zs = ((vals2 zs).getLast?.map fun z => (z.1 : Int) + 1).getD 0 := by
    unfold lastP vals2
    rw [List.getLast?_map]
    cases zs.getLast? <;> rfl
  rw [e, h]
  cases n with
  | zero => rfl
  | succ n => rw [diag_succ]; simp

/-- What the loop keeps. -/
structure LnI (w : World) (room : Int) (K : Nat) (pre : List (Fin 1000 × Fin K)) (V : World) : Prop where
  br : V.heap[w.heap.size + 1]? = some (.cells #[.int .i64 room] 2 (0, 0))
  rs : V.heap[w.heap.size + 1 + 1]? = some (.cells #[.int .i64 0] 2 (0, 0))
  ln : V.heap[w.heap.size + 3]? = some (.cells #[.int .i64 (lastP pre)] 2 (0, 0))
  no : ∀ z ∈ pre, (z.1.val : Int) ≠ room
  ch : Chg 0 0 w V
structure LnX (w : World) (room : Int) (K : Nat) (c : Code) (pre : List (Fin 1000 × Fin K)) (V : World) : Prop where
  c : c = .ret
  rs : V.heap[w.heap.size + 1 + 1]? = some (.cells #[.int .i64 0] 2 (0, 0))
  at' : ∃ z ∈ pre, (z.1.val : Int) = room
  ch : Chg 0 0 w V
theorem run_load64 {w : World} {b : Nat} {v : Int} (h : w.heap[b]? = some (.cells #[.int .i64 v] 2 (0, 0))) : (loadVar 2 ⟨b, 0, none⟩).run Tryz.prog w = .ok (.int .i64 v) w := by
  have ha := Boxed.cell h
  simp [loadVar, isAgg, underlying, Tryz.underlying2, ha, Result.andThen]

set_option maxRecDepth 100000 in
set_option maxHeartbeats 4000000 in
theorem lengthWithin_calls (w : World) {lo hi : Nat} {a : Value} {t : Tx} (room : Int) (h0r : 0 ≤ room) (hl : cntT t ≤ 1048576) (hhi : hi ≤ w.heap.size) (hby : ∀ x ∈ t.homes, Byt x.2) (hM : Mag w) (h1 : TView w lo hi a t) :
    Calls Tryz.prog 47 #[a, .int .i64 room] w fun e w' => e = .returned (.int .i64 (if ((TL t).length : Int) ≤ room then ((TL t).length : Int) else 0)) ∧ Chg 0 0 w w' := by
  obtain ⟨hv, rv, rfl, p1, v1⟩ := h1
  have hMl := hM.lt
  obtain ⟨rz, Hrz⟩ : ∃ rz : Int, Hid (rz = if ((TL t).length : Int) ≤ room then ((TL t).length : Int) else 0) := ⟨_, rfl⟩
  rw [← Hrz.out]
  have cA : Chg 0 0 w (((w.alloc (.cells #[.int .i64 t.seq, hv, rv] 35)).alloc (.cells #[.int .i64 room] 2)).alloc (.cells #[.int .i64 0] 2)) := ((Chg.alloc (Chg.refl 0 0 w) _).alloc _).alloc _
  obtain ⟨z1, z2, z3, z4⟩ := alloc3 w (.cells #[.int .i64 t.seq, hv, rv] 35) (.cells #[.int .i64 room] 2) (.cells #[.int .i64 0] 2)
  refine (callsIn_wide (n := 0)).1 ?_
  refine callsIn_of_wp_marks Tryz.func47 rfl trivial ?_ rfl
  simp only [Tryz.ntmps47, List.size_toArray, List.length_cons, List.length_nil, Nat.reduceAdd, Nat.reduceSub, Array.replicate_succ, Array.replicate_zero, List.push_toArray, List.append_toArray, List.nil_append, List.cons_append]
  gi_wp2
  generalize ((w.alloc (.cells #[.int .i64 t.seq, hv, rv] 35)).alloc (.cells #[.int .i64 room] 2)).alloc (.cells #[.int .i64 0] 2) = wA at *
  obtain ⟨y1, y2, y3⟩ := alloc2 wA (.cells #[.int .i64 0] 2) (.cells #[.int .i64 t.seq, hv, rv] 35)
  have cB : Chg 0 0 wA ((wA.alloc (.cells #[.int .i64 0] 2)).alloc (.cells #[.int .i64 t.seq, hv, rv] 35)) := (Chg.alloc (Chg.refl 0 0 wA) _).alloc _
  have sB : (wA.alloc (.cells #[.int .i64 0] 2)).heap.size = w.heap.size + 4 := by simp [z1]
  refine ⟨trivial, rfl, (callsIn_wide.2 (blocksOf_calls _ _ _ _)).mono ?_⟩
  rintro e w1 ⟨rfl, rfl⟩
  rw [sB]
  generalize (wA.alloc (.cells #[.int .i64 0] 2)).alloc (.cells #[.int .i64 t.seq, hv, rv] 35) = wL at *
  rw [z1] at y1 y2 y3
  have cL : Chg 0 0 w wL := cA.trans cB
  have x2 := (cB.block _ (by omega) (by omega)).trans z3
  have x3 := (cB.block _ (by omega) (by omega)).trans z4
  have hseq := of_seq (w.heap.size + 4) lo hi t hv rv wL hl hby (hM.chg cL (by omega)) y3 (p1.chg cL (by omega)) (v1.chg cL (by omega)) (by omega)
  clear cB z2 z3 z4 z1 cA
  gi_wp2
  have hI' : ∀ M : Nat, OwnFrom wL.heap.size (LnI w room (TL t).length) := by
    rintro M pre A C row h hg hr
    have hne : ∀ k, k < w.heap.size + 5 → some k ≠ row := fun k hk e => by have := (hr _ e.symm).1; omega
    exact ⟨(hg.block _ (Array.getElem?_eq_some_iff.1 h.br).1 (hne _ (by omega))).trans h.br, (hg.block _ (Array.getElem?_eq_some_iff.1 h.rs).1 (hne _ (by omega))).trans h.rs, (hg.block _ (Array.getElem?_eq_some_iff.1 h.ln).1 (hne _ (by omega))).trans h.ln, h.no,
      ⟨hg.os.trans h.ch.os, hg.tape.trans h.ch.tape, hg.output.trans h.ch.output, Nat.le_trans h.ch.size hg.size, fun k hk ho => (hg.block k (Nat.lt_of_lt_of_le hk h.ch.size) (hne _ (by omega))).trans (h.ch.block k hk ho)⟩⟩
  refine range_ownM (n := 0) (Kp := KpT (KA (w.heap.size + 4) lo hi) (wL.heap.size + 2)) (gf := 49) (lb := #[.pointer (some ⟨w.heap.size + 4, 0, none⟩)]) rfl (enters_of Tryz.func49 (by kernel_rfl) rfl)
    hseq (fun h => h) (Below.refl _ _) (fun _ => rfl) KpT.trans (fun V o _ hb => KpT.put o hb (fun k hk => by unfold KA at hk; omega) (by omega))
    (fun _ => LnI w room (TL t).length) (fun _ => LnX w room (TL t).length)
    hI' ?hIx ?hIF ?hIxF ?h0
    (fun x a' V => a' = { tmps := #[.agg #[.int .i64 t.seq, hv, rv], .int .i64 room, .pointer (some ⟨w.heap.size, 0, none⟩), .pointer (some ⟨w.heap.size + 1, 0, none⟩), .pointer (some ⟨w.heap.size + 1 + 1, 0, none⟩), .pointer (some ⟨w.heap.size + 3, 0, none⟩), .int .i64 (x.1.val : Int), .agg #[.int .i64 t.seq, hv, rv], .func (.func 49) #[] #[.pointer (some ⟨w.heap.size + 4, 0, none⟩)], .int .i64 (x.1.val : Int), .agg (((TL t).getD x.2.val []).map (Value.int .u8)).toArray, undef, undef, undef, undef, undef, undef], defers := [] })
    (fun x a' _ _ _ _ hs _ _ => hs) ?assign ?body ?done ?stop
  case hIx =>
    rintro M c pre A C row h hg hr
    have hne : ∀ k, k < w.heap.size + 5 → some k ≠ row := fun k hk e => by have := (hr _ e.symm).1; omega
    exact ⟨h.c, (hg.block _ (Array.getElem?_eq_some_iff.1 h.rs).1 (hne _ (by omega))).trans h.rs, h.at',
      ⟨hg.os.trans h.ch.os, hg.tape.trans h.ch.tape, hg.output.trans h.ch.output, Nat.le_trans h.ch.size hg.size, fun k hk ho => (hg.block k (Nat.lt_of_lt_of_le hk h.ch.size) (hne _ (by omega))).trans (h.ch.block k hk ho)⟩⟩
  case hIF =>
    rintro M zs A C h hc hm
    exact ⟨(hc.block _ (Array.getElem?_eq_some_iff.1 h.br).1 (by omega)).trans h.br, (hc.block _ (Array.getElem?_eq_some_iff.1 h.rs).1 (by omega)).trans h.rs, (hc.block _ (Array.getElem?_eq_some_iff.1 h.ln).1 (by omega)).trans h.ln, h.no, h.ch.step hc (by omega)⟩
  case hIxF =>
    rintro M c zs A C h hc hm
    exact ⟨h.c, (hc.block _ (Array.getElem?_eq_some_iff.1 h.rs).1 (by omega)).trans h.rs, h.at', h.ch.step hc (by omega)⟩
  case h0 =>
    intro V hV hsz
    exact ⟨(hV.block _ (by omega)).trans x2, (hV.block _ (by omega)).trans x3, (hV.block _ (by omega)).trans y2, (by simp), cL.step (Chg.ofBelow hV 0 0) (by omega)⟩
  case assign =>
    rintro M l' zs x V K' hM' hMV hi' hK'
    simp only [encT]
    generalize (((TL t).getD x.2.val []).map (Value.int .u8)).toArray = cs at *
    gi_wp2
    exact hK' _ _ (KeepM.refl _ _ _) (KpT.chg0 (Chg.refl 0 0 V) (fun k hk => by unfold KA at hk; have := hi'.ch.size; omega)) hi' rfl
  case body =>
    rintro M l' zs x a' V hM' hMV hi' rfl hlen
    have hx1 := x.1.isLt
    have HLs : Hid (lastP (zs ++ [x]) = (x.1.val : Int) + 1) := lastP_snoc zs x
    generalize (((TL t).getD x.2.val []).map (Value.int .u8)).toArray = cs at *
    have q1 := Boxed.cell hi'.br
    have hwr : IntKind.i64.wrap ((x.1.val : Int) + 1) = (x.1.val : Int) + 1 := by rw [IntKind.wrap_i64]; omega
    have hKl : ∀ k, KA (w.heap.size + 4) lo hi k → k < V.heap.size ∧ (k < w.heap.size + 2 ∨ w.heap.size + 4 ≤ k) := fun k hk => by unfold KA at hk; have := hi'.ch.size; omega
    have HFin : Hid (∀ p : Addr, (p = ⟨w.heap.size + 1 + 1, 0, none⟩ ∨ p = ⟨w.heap.size + 3, 0, none⟩) → ∀ v, (KeepM wL.heap.size M V (V.setCell p v) ∧ KpT (KA (w.heap.size + 4) lo hi) (wL.heap.size + 2) V (V.setCell p v)) ∧ Chg 0 0 w (V.setCell p v)) := by
      intro p hp v
      have hpb : w.heap.size + 2 ≤ p.block ∧ p.block < w.heap.size + 4 := by rcases hp with rfl | rfl <;> simp
      have cY : Chg (w.heap.size + 2) (w.heap.size + 4) V (V.setCell p v) := (Chg.refl _ _ V).setCell (Or.inl hpb) v
      refine ⟨⟨KeepM.chg cY hMV (by omega), KpT.chg cY hKl (fun k h1 h2 => ?_)⟩, hi'.ch.step cY (by omega)⟩
      have hk : k = w.heap.size + 1 + 1 ∨ k = w.heap.size + 3 := by omega
      rcases hk with rfl | rfl
      · exact ⟨_, _, _, hi'.rs, by unfold tyA; decide⟩
      · exact ⟨_, _, _, hi'.ln, by unfold tyA; decide⟩
    have q2 := Boxed.cell hi'.rs
    have q3 := Boxed.frozen hi'.rs
    have q4 := Boxed.cell hi'.ln
    have q5 := Boxed.frozen hi'.ln
    clear y1
    by_cases hxr : (x.1.val : Int) = room
    · have Hxr : Hid ((x.1.val : Int) = room) := hxr
      gi_wp2
      refine ⟨(HFin.out _ (Or.inl rfl) _).1, rfl, Boxed.set _ hi'.rs, ⟨x, by simp, Hxr.out⟩, (HFin.out _ (Or.inl rfl) _).2⟩
    · have Hxr : Hid (¬ (x.1.val : Int) = room) := hxr
      gi_wp2
      refine ⟨(HFin.out _ (Or.inr rfl) _).1, ?_, ?_, ?_, ?_, (HFin.out _ (Or.inr rfl) _).2⟩
      · exact (Below.heap_setCell _ _ _ _ (by simp)).trans hi'.br
      · exact (Below.heap_setCell _ _ _ _ (by simp)).trans hi'.rs
      · rw [HLs.out]; exact Boxed.set _ hi'.ln
      · intro z hz
        rcases List.mem_append.1 hz with hz | hz
        · exact hi'.no z hz
        · rw [List.mem_singleton.1 hz]; exact Hxr.out
  case done =>
    rintro M D zs V hD hS hi' hK'
    have hlp := lastP_diag hS
    have hge : ((TL t).length : Int) ≤ room := by
      rcases Int.lt_or_le room ((TL t).length : Int) with hlt | hle
      · exfalso
        have hm := diag_has (n := (TL t).length) (i := room.toNat) (by omega)
        rw [← hS] at hm
        obtain ⟨z, hz, e⟩ := List.mem_map.1 hm
        have e1 : z.1.val = room.toNat := congrArg Prod.fst e
        exact hi'.no z hz (by omega)
      · exact hle
    have hrz := Hrz.out
    rw [if_pos hge] at hrz
    have hln := hi'.ln
    rw [hlp, ← hrz] at hln
    have Hln : Hid (V.heap[w.heap.size + 3]? = some (.cells #[.int .i64 rz] 2 (0, 0))) := hln
    have q1 := Boxed.cell hln
    have q2 := Boxed.cell hi'.rs
    have q3 := Boxed.frozen hi'.rs
    have hsV := hi'.ch.size
    clear hge hlp hS hln hrz
    gi_wp2
    have cY : Chg (w.heap.size + 2) (w.heap.size + 4) V (V.setCell ⟨w.heap.size + 1 + 1, 0, none⟩ (.int .i64 rz)) := (Chg.refl _ _ V).setCell (Or.inl (by simp)) _
    have hb := Boxed.set (.int .i64 rz) hi'.rs
    have hDl := (Array.getElem?_eq_some_iff.1 hK').1
    have hK2 := (cY.block D hDl (by omega)).trans hK'
    have cw := hi'.ch.step cY (by omega)
    generalize V.setCell ⟨w.heap.size + 1 + 1, 0, none⟩ (.int .i64 rz) = Y at *
    refine ⟨by simp, .inl ⟨_, _, rfl, run_takeDeferred hK2, ?_⟩⟩
    refine ⟨_, results_one Tryz.results47 rfl (run_load64 ((World.putObj_heap_other (by omega)).trans hb)), rfl, ?_⟩
    exact cw.step (l := D) (r := D + 1) ⟨rfl, rfl, rfl, by simp, fun k _ ho => World.putObj_heap_other (by omega)⟩ (by omega)
  case stop =>
    rintro M D c zs V hD hSp ⟨rfl, hrs, ⟨z, hz, hzr⟩, hch⟩ hK'
    have hlt : ¬ ((TL t).length : Int) ≤ room := by
      have hm : (z.1.val, z.2.val) ∈ vals2 zs := List.mem_map.2 ⟨z, hz, rfl⟩
      rw [hSp] at hm
      have := (diag_mem hm).1
      have := z.2.isLt
      simp only at *
      omega
    have hrz := Hrz.out
    rw [if_neg hlt] at hrz
    have Hr0 : Hid (rz = 0) := hrz
    clear hlt hrz
    gi_wp2
    refine ⟨by simp, .inl ⟨_, _, rfl, run_takeDeferred hK', ?_⟩⟩
    refine ⟨_, results_one Tryz.results47 rfl (run_load64 ((World.putObj_heap_other (by omega)).trans hrs)), by rw [Hr0.out], ?_⟩
    exact hch.step (l := D) (r := D + 1) ⟨rfl, rfl, rfl, by simp, fun k _ ho => World.putObj_heap_other (by omega)⟩ (by omega)

end Go.Proofs.YtahjaejepkgfdaaGreatDoor
