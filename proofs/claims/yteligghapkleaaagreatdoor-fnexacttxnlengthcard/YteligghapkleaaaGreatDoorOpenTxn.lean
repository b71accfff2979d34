/- Several short texts in one: ImplLen, OpenP, OpenTxn. -/
import Derived.Test.YteligghapkleaaaGreatDoorImplOf
import Derived.Test.YteligghapkleaaaGreatDoorRows
import Derived.Test.YteligghapkleaaaGreatDoorMem
import Derived.ProofKit
import Derived.OpenShut
import Derived.Carry
import Derived.ChangeOld
import Derived.Below
import Derived.Lib.SmallJoins
import Derived.Deep.SlicePairs
import Derived.Test.YteligghapkleaaaGreatDoorTxnBase
namespace Go.Proofs.YteligghapkleaaaGreatDoor
open Go.RowKit Go.Shelf
attribute [local go_sem] Oper.semAt_some

/-- One more than the last place. -/
def lastP {K : Nat} (pre : List (Fin 1000 × Fin K)) : Int := (pre.getLast?.map fun z => (z.1.val : Int) + 1).getD 0
theorem lastP_snoc {K : Nat} (pre : List (Fin 1000 × Fin K)) (x : Fin 1000 × Fin K) : lastP (pre ++ [x]) = (x.1.val : Int) + 1 := by unfold lastP; simp
theorem diag_succ (n : Nat) : diag (n + 1) = diag n ++ [(n, n)] := by unfold diag; rw [List.range_succ, List.map_append]; rfl
theorem diag_mem {n : Nat} {p : Nat × Nat} (h : p ∈ diag n) : p.1 = p.2 ∧ p.1 < n := by
  unfold diag at h
  obtain ⟨i, hi, rfl⟩ := List.mem_map.1 h
  exact ⟨rfl, List.mem_range.1 hi⟩
theorem diag_has {n i : Nat} (h : i < n) : (i, i) ∈ diag n := by unfold diag; exact List.mem_map.2 ⟨i, List.mem_range.2 h, rfl⟩
theorem lastP_diag {K n : Nat} {zs : List (Fin 1000 × Fin K)} (h : vals2 zs = diag n) : lastP zs = (n : Int) := by
  have e : lastP zs = ((vals2 zs).getLast?.map fun z => (z.1 : Int) + 1).getD 0 := by
    unfold lastP vals2
    rw [List.getLast?_map]
    cases zs.getLast? <;> rfl
  rw [e, h]
  cases n with
  | zero => rfl
  | succ n => rw [diag_succ]; simp

/-- What the loop keeps. -/
structure LnI (w : World) (room : Int) (K : Nat) (pre : List (Fin 1000 × Fin K)) (V : World) : Prop where
  br : V.heap[w.heap.size + 1]? = some (.cells #[.int .i64 room] 2 (0, 0))
  rs : V.heap[w.heap.size + 1 + 1]? = some (.cells #[.int .i64 0] 2 (0, 0))
  ln : V.heap[w.heap.size + 3]? = some (.cells #[.int .i64 (lastP pre)] 2 (0, 0))
  no : ∀ z ∈ pre, (z.1.val : Int) ≠ room
  ch : Chg 0 0 w V
structure LnX (w : World) (room : Int) (K : Nat) (c : Code) (pre : List (Fin 1000 × Fin K)) (V : World) : Prop where
  c : c = .ret
  rs : V.heap[w.heap.size + 1 + 1]? = some (.cells #[.int .i64 0] 2 (0, 0))
  at' : ∃ z ∈ pre, (z.1.val : Int) = room
  ch : Chg 0 0 w V
theorem run_load64 {w : World} {b : Nat} {v : Int} (h : w.heap[b]? = some (.cells #[.int .i64 v] 2 (0, 0))) : (loadVar 2 ⟨b, 0, none⟩).run Tryz.prog w = .ok (.int .i64 v) w := by
  have ha := Boxed.cell h
  simp [loadVar, isAgg, underlying, Tryz.underlying2, ha, Result.andThen]

set_option maxRecDepth 100000 in
set_option maxHeartbeats 4000000 in
theorem lengthWithin_calls (w : World) {lo hi : Nat} {a : Value} {t : Tx} (room : Int) (h0r : 0 ≤ room) (hl : cntT t ≤ 1048576) (hhi : hi ≤ w.heap.size) (hby : ∀ x ∈ t.homes, Byt x.2) (hM : Mag w) (h1 : TView w lo hi a t) :
    Calls Tryz.prog 14 #[a, .int .i64 room] w fun e w' => e = .returned (.int .i64 (if ((TL t).length : Int) ≤ room then ((TL t).length : Int) else 0)) ∧ Chg 0 0 w w' := by
  obtain ⟨hv, rv, rfl, p1, v1⟩ := h1
  have hMl := hM.lt
  obtain ⟨rz, Hrz⟩ : ∃ rz : Int, Hid (rz = if ((TL t).length : Int) ≤ room then ((TL t).length : Int) else 0) := ⟨_, rfl⟩
  rw [← Hrz.out]
  have cA : Chg 0 0 w (((w.alloc (.cells #[.int .i64 t.seq, hv, rv] 30)).alloc (.cells #[.int .i64 room] 2)).alloc (.cells #[.int .i64 0] 2)) := ((Chg.alloc (Chg.refl 0 0 w) _).alloc _).alloc _
  obtain ⟨z1, z2, z3, z4⟩ := alloc3 w (.cells #[.int .i64 t.seq, hv, rv] 30) (.cells #[.int .i64 room] 2) (.cells #[.int .i64 0] 2)
  refine (callsIn_wide (n := 0)).1 ?_
  refine callsIn_of_wp_marks Tryz.func14 rfl trivial ?_ rfl
  simp only [Tryz.ntmps14, List.size_toArray, List.length_cons, List.length_nil, Nat.reduceAdd, Nat.reduceSub, Array.replicate_succ, Array.replicate_zero, List.push_toArray, List.append_toArray, List.nil_append, List.cons_append]
  gi_wp2
  generalize ((w.alloc (.cells #[.int .i64 t.seq, hv, rv] 30)).alloc (.cells #[.int .i64 room] 2)).alloc (.cells #[.int .i64 0] 2) = wA at *
  obtain ⟨y1, y2, y3⟩ := alloc2 wA (.cells #[.int .i64 0] 2) (.cells #[.int .i64 t.seq, hv, rv] 30)
  have cB : Chg 0 0 wA ((wA.alloc (.cells #[.int .i64 0] 2)).alloc (.cells #[.int .i64 t.seq, hv, rv] 30)) := (Chg.alloc (Chg.refl 0 0 wA) _).alloc _
  have sB : (wA.alloc (.cells #[.int .i64 0] 2)).heap.size = w.heap.size + 4 := by simp [z1]
  refine ⟨trivial, rfl, (callsIn_wide.2 (blocksOf_calls _ _ _ _)).mono ?_⟩
  rintro e w1 ⟨rfl, rfl⟩
  rw [sB]
  generalize (wA.alloc (.cells #[.int .i64 0] 2)).alloc (.cells #[.int .i64 t.seq, hv, rv] 30) = wL at *
  rw [z1] at y1 y2 y3
  have cL : Chg 0 0 w wL := cA.trans cB
  have x2 := (cB.block _ (by omega) (by omega)).trans z3
  have x3 := (cB.block _ (by omega) (by omega)).trans z4
  have hseq := of_seq (w.heap.size + 4) lo hi t hv rv wL hl hby (hM.chg cL (by omega)) y3 (p1.chg cL (by omega)) (v1.chg cL (by omega)) (by omega)
  clear cB z2 z3 z4 z1 cA
  gi_wp2
  have hI' : ∀ M : Nat, OwnFrom wL.heap.size (LnI w room (TL t).length) := by
    rintro M pre A C row h hg hr
    have hne : ∀ k, k < w.heap.size + 5 → some k ≠ row := fun k hk e => by have := (hr _ e.symm).1; omega
    exact ⟨(hg.block _ (Array.getElem?_eq_some_iff.1 h.br).1 (hne _ (by omega))).trans h.br, (hg.block _ (Array.getElem?_eq_some_iff.1 h.rs).1 (hne _ (by omega))).trans h.rs, (hg.block _ (Array.getElem?_eq_some_iff.1 h.ln).1 (hne _ (by omega))).trans h.ln, h.no,
      ⟨hg.os.trans h.ch.os, hg.tape.trans h.ch.tape, hg.output.trans h.ch.output, Nat.le_trans h.ch.size hg.size, fun k hk ho => (hg.block k (Nat.lt_of_lt_of_le hk h.ch.size) (hne _ (by omega))).trans (h.ch.block k hk ho)⟩⟩
  refine range_ownM (n := 0) (Kp := KpT (KA (w.heap.size + 4) lo hi) (wL.heap.size + 2)) (gf := 40) (lb := #[.pointer (some ⟨w.heap.size + 4, 0, none⟩)]) rfl (enters_of Tryz.func40 (by kernel_rfl) rfl)
    hseq (fun h => h) (Below.refl _ _) (fun _ => rfl) KpT.trans (fun V o _ hb => KpT.put o hb (fun k hk => by unfold KA at hk; omega) (by omega))
    (fun _ => LnI w room (TL t).length) (fun _ => LnX w room (TL t).length)
    hI' ?hIx ?hIF ?hIxF ?h0
    (fun x a' V => a' = { tmps := #[.agg #[.int .i64 t.seq, hv, rv], .int .i64 room, .pointer (some ⟨w.heap.size, 0, none⟩), .pointer (some ⟨w.heap.size + 1, 0, none⟩), .pointer (some ⟨w.heap.size + 1 + 1, 0, none⟩), .pointer (some ⟨w.heap.size + 3, 0, none⟩), .int .i64 (x.1.val : Int), .agg #[.int .i64 t.seq, hv, rv], .func (.func 40) #[] #[.pointer (some ⟨w.heap.size + 4, 0, none⟩)], .int .i64 (x.1.val : Int), .agg (((TL t).getD x.2.val []).map (Value.int .u8)).toArray, undef, undef, undef, undef, undef, undef], defers := [] })
    (fun x a' _ _ _ _ hs _ _ => hs) ?assign ?body ?done ?stop
  case hIx =>
    rintro M c pre A C row h hg hr
    have hne : ∀ k, k < w.heap.size + 5 → some k ≠ row := fun k hk e => by have := (hr _ e.symm).1; omega
    exact ⟨h.c, (hg.block _ (Array.getElem?_eq_some_iff.1 h.rs).1 (hne _ (by omega))).trans h.rs, h.at',
      ⟨hg.os.trans h.ch.os, hg.tape.trans h.ch.tape, hg.output.trans h.ch.output, Nat.le_trans h.ch.size hg.size, fun k hk ho => (hg.block k (Nat.lt_of_lt_of_le hk h.ch.size) (hne _ (by omega))).trans (h.ch.block k hk ho)⟩⟩
  case hIF =>
    rintro M zs A C h hc hm
    exact ⟨(hc.block _ (Array.getElem?_eq_some_iff.1 h.br).1 (by omega)).trans h.br, (hc.block _ (Array.getElem?_eq_some_iff.1 h.rs).1 (by omega)).trans h.rs, (hc.block _ (Array.getElem?_eq_some_iff.1 h.ln).1 (by omega)).trans h.ln, h.no, h.ch.step hc (by omega)⟩
  case hIxF =>
    rintro M c zs A C h hc hm
    exact ⟨h.c, (hc.block _ (Array.getElem?_eq_some_iff.1 h.rs).1 (by omega)).trans h.rs, h.at', h.ch.step hc (by omega)⟩
  case h0 =>
    intro V hV hsz
    exact ⟨(hV.block _ (by omega)).trans x2, (hV.block _ (by omega)).trans x3, (hV.block _ (by omega)).trans y2, (by simp), cL.step (Chg.ofBelow hV 0 0) (by omega)⟩
  case assign =>
    rintro M l' zs x V K' hM' hMV hi' hK'
    simp only [encT]
    generalize (((TL t).getD x.2.val []).map (Value.int .u8)).toArray = cs at *
    gi_wp2
    exact hK' _ _ (KeepM.refl _ _ _) (KpT.chg0 (Chg.refl 0 0 V) (fun k hk => by unfold KA at hk; have := hi'.ch.size; omega)) hi' rfl
  case body =>
    rintro M l' zs x a' V hM' hMV hi' rfl hlen
    have hx1 := x.1.isLt
    have HLs : Hid (lastP (zs ++ [x]) = (x.1.val : Int) + 1) := lastP_snoc zs x
    generalize (((TL t).getD x.2.val []).map (Value.int .u8)).toArray = cs at *
    have q1 := Boxed.cell hi'.br
    have hwr : IntKind.i64.wrap ((x.1.val : Int) + 1) = (x.1.val : Int) + 1 := by rw [IntKind.wrap_i64]; omega
    have hKl : ∀ k, KA (w.heap.size + 4) lo hi k → k < V.heap.size ∧ (k < w.heap.size + 2 ∨ w.heap.size + 4 ≤ k) := fun k hk => by unfold KA at hk; have := hi'.ch.size; omega
    have HFin : Hid (∀ p : Addr, (p = ⟨w.heap.size + 1 + 1, 0, none⟩ ∨ p = ⟨w.heap.size + 3, 0, none⟩) → ∀ v, (KeepM wL.heap.size M V (V.setCell p v) ∧ KpT (KA (w.heap.size + 4) lo hi) (wL.heap.size + 2) V (V.setCell p v)) ∧ Chg 0 0 w (V.setCell p v)) := by
      intro p hp v
      have hpb : w.heap.size + 2 ≤ p.block ∧ p.block < w.heap.size + 4 := by rcases hp with rfl | rfl <;> simp
      have cY : Chg (w.heap.size + 2) (w.heap.size + 4) V (V.setCell p v) := (Chg.refl _ _ V).setCell (Or.inl hpb) v
      refine ⟨⟨KeepM.chg cY hMV (by omega), KpT.chg cY hKl (fun k h1 h2 => ?_)⟩, hi'.ch.step cY (by omega)⟩
      have hk : k = w.heap.size + 1 + 1 ∨ k = w.heap.size + 3 := by omega
      rcases hk with rfl | rfl
      · exact ⟨_, _, _, hi'.rs, by unfold tyA; decide⟩
      · exact ⟨_, _, _, hi'.ln, by unfold tyA; decide⟩
    have q2 := Boxed.cell hi'.rs
    have q3 := Boxed.frozen hi'.rs
    have q4 := Boxed.cell hi'.ln
    have q5 := Boxed.frozen hi'.ln
    clear y1
    by_cases hxr : (x.1.val : Int) = room
    · have Hxr : Hid ((x.1.val : Int) = room) := hxr
      gi_wp2
      refine ⟨(HFin.out _ (Or.inl rfl) _).1, rfl, Boxed.set _ hi'.rs, ⟨x, by simp, Hxr.out⟩, (HFin.out _ (Or.inl rfl) _).2⟩
    · have Hxr : Hid (¬ (x.1.val : Int) = room) := hxr
      gi_wp2
      refine ⟨(HFin.out _ (Or.inr rfl) _).1, ?_, ?_, ?_, ?_, (HFin.out _ (Or.inr rfl) _).2⟩
      · exact (Below.heap_setCell _ _ _ _ (by simp)).trans hi'.br
      · exact (Below.heap_setCell _ _ _ _ (by simp)).trans hi'.rs
      · rw [HLs.out]; exact Boxed.set _ hi'.ln
      · intro z hz
        rcases List.mem_append.1 hz with hz | hz
        · exact hi'.no z hz
        · rw [List.mem_singleton.1 hz]; exact Hxr.out
  case done =>
    rintro M D zs V hD hS hi' hK'
    have hlp := lastP_diag hS
    have hge : ((TL t).length : Int) ≤ room := by
      rcases Int.lt_or_le room ((TL t).length : Int) with hlt | hle
      · exfalso
        have hm := diag_has (n := (TL t).length) (i := room.toNat) (by omega)
        rw [← hS] at hm
        obtain ⟨z, hz, e⟩ := List.mem_map.1 hm
        have e1 : z.1.val = room.toNat := congrArg Prod.fst e
        exact hi'.no z hz (by omega)
      · exact hle
    have hrz := Hrz.out
    rw [if_pos hge] at hrz
    have hln := hi'.ln
    rw [hlp, ← hrz] at hln
    have Hln : Hid (V.heap[w.heap.size + 3]? = some (.cells #[.int .i64 rz] 2 (0, 0))) := hln
    have q1 := Boxed.cell hln
    have q2 := Boxed.cell hi'.rs
    have q3 := Boxed.frozen hi'.rs
    have hsV := hi'.ch.size
    clear hge hlp hS hln hrz
    gi_wp2
    have cY : Chg (w.heap.size + 2) (w.heap.size + 4) V (V.setCell ⟨w.heap.size + 1 + 1, 0, none⟩ (.int .i64 rz)) := (Chg.refl _ _ V).setCell (Or.inl (by simp)) _
    have hb := Boxed.set (.int .i64 rz) hi'.rs
    have hDl := (Array.getElem?_eq_some_iff.1 hK').1
    have hK2 := (cY.block D hDl (by omega)).trans hK'
    have cw := hi'.ch.step cY (by omega)
    generalize V.setCell ⟨w.heap.size + 1 + 1, 0, none⟩ (.int .i64 rz) = Y at *
    refine ⟨by simp, .inl ⟨_, _, rfl, run_takeDeferred hK2, ?_⟩⟩
    refine ⟨_, results_one Tryz.results14 rfl (run_load64 ((World.putObj_heap_other (by omega)).trans hb)), rfl, ?_⟩
    exact cw.step (l := D) (r := D + 1) ⟨rfl, rfl, rfl, by simp, fun k _ ho => World.putObj_heap_other (by omega)⟩ (by omega)
  case stop =>
    rintro M D c zs V hD hSp ⟨rfl, hrs, ⟨z, hz, hzr⟩, hch⟩ hK'
    have hlt : ¬ ((TL t).length : Int) ≤ room := by
      have hm : (z.1.val, z.2.val) ∈ vals2 zs := List.mem_map.2 ⟨z, hz, rfl⟩
      rw [hSp] at hm
      have := (diag_mem hm).1
      have := z.2.isLt
      simp only at *
      omega
    have hrz := Hrz.out
    rw [if_neg hlt] at hrz
    have Hr0 : Hid (rz = 0) := hrz
    clear hlt hrz
    gi_wp2
    refine ⟨by simp, .inl ⟨_, _, rfl, run_takeDeferred hK', ?_⟩⟩
    refine ⟨_, results_one Tryz.results14 rfl (run_load64 ((World.putObj_heap_other (by omega)).trans hrs)), by rw [Hr0.out], ?_⟩
    exact hch.step (l := D) (r := D + 1) ⟨rfl, rfl, rfl, by simp, fun k _ ho => World.putObj_heap_other (by omega)⟩ (by omega)

set_option maxHeartbeats 1000000 in
theorem implTxnLength_calls (w : World) {lo hi : Nat} {a : Value} {t : Tx} (hl : cntT t ≤ 1048576) (hhi : hi ≤ w.heap.size) (hby : ∀ x ∈ t.homes, Byt x.2) (hM : Mag w) (h1 : TView w lo hi a t) :
    Calls Tryz.prog 7 #[a] w fun e w' => e = .returned (.int .i64 (TL t).length) ∧ Chg 0 0 w w' := by
  obtain ⟨hv, rv, rfl, p1, v1⟩ := h1
  have cA : Chg 0 0 w (w.alloc (.cells #[.int .i64 t.seq, hv, rv] 30)) := Chg.alloc (Chg.refl 0 0 w) _
  have hMl := hM.lt
  have hN := lengthWithin_calls (w.alloc (.cells #[.int .i64 t.seq, hv, rv] 30)) (lo := lo) (hi := hi) (t := t) 512 (by omega) hl (by simp; omega) hby (hM.chg cA (by omega)) ⟨hv, rv, rfl, p1.chg cA (by omega), v1.chg cA (by omega)⟩
  have h57 := (TL_len hby).1
  rw [if_pos (by omega)] at hN
  clear p1 v1
  generalize ((TL t).length : Int) = n at *
  go_enter Tryz.func7, Tryz.ntmps7
  go_wp2_with fail
  refine hN.mono ?_
  rintro e w2 ⟨rfl, c2⟩
  go_wp2
  go_ret
  exact ⟨rfl, cA.trans c2⟩

end Go.Proofs.YteligghapkleaaaGreatDoor

namespace Go.Proofs.YteligghapkleaaaGreatDoor
open Go.ChangeShapes Go.WideShapes Go.ChangeAt Go.RowKit Go.Joins Go.Deep

theorem own : ownKnob Tryz.prog.godebug = none := by kernel_rfl
theorem laidOut : laidOutB Tryz.prog = true := by kernel_rfl

theorem addr_plain {w : World} {a : Addr} {x : Value} {i : Nat} (h : w.cell? (a.add 0) = some x) : a.add i = ⟨a.block, a.off + i, none⟩ ∧ a = ⟨a.block, a.off, none⟩ := by
  obtain ⟨b, off, spot⟩ := a
  have hspot : spot = none := by simpa [Addr.add] using World.cell?_spot h
  subst hspot
  exact ⟨Go.WideShapes.add_plain _ _ _, rfl⟩

/-- A slice of numbers that came in. -/
theorem view_of_trod {H : Type} {enc : TypeId × Value → H} {W : World} {fuel t e : Nat} {k : IntKind} {v : Value} {x : DataW H × List MemPlace} (ht : Tryz.prog.underlying t = some (.slice e)) (he : Tryz.prog.underlying e = some (.int k)) (hc : Tryz.prog.cellsOf e = 1)
    (h : DataW.trod enc Tryz.prog W 0 (fun _ => true) true fuel t [v] = some x) : ∃ xs, View W 0 W.heap.size k v xs := by
  rcases open_ints ht he hc h with ⟨hcs, _⟩ | ⟨a, len, cap, zs, hcs, _, hl, hm, hz, _, hcell, _⟩
  · simp at hcs; subst hcs; exact ⟨[], View.nil _ _ _ _⟩
  · simp at hcs hz; subst hcs
    unfold maxLen at hm
    refine ⟨zs.take len, some a, cap, by rw [List.length_take, Nat.min_eq_left (by omega)], by rw [List.length_take]; omega, ⟨by rw [List.length_take]; omega, by simp⟩, ?_⟩
    by_cases h0 : len = 0
    · left; subst h0; rfl
    · right
      obtain ⟨b, off, rfl, hc2⟩ := ints_at hcell (by omega)
      refine ⟨b, off, rfl, Nat.zero_le _, lt_of_cell (hc2 0 (by omega)), fun i hi => ?_⟩
      rw [List.length_take] at hi
      rw [hc2 i (by omega)]
      simp only [List.getD_eq_getElem?_getD, List.getElem?_take]
      rw [if_pos (by omega)]

/-- A slice of writes that came in. -/
theorem pview_of_trod {H : Type} {enc : TypeId × Value → H} {W : World} {fuel t e ti ts tb : Nat} {f0 f1 : Field} {v : Value} {x : DataW H × List MemPlace} (ht : Tryz.prog.underlying t = some (.slice e)) (he : Tryz.prog.underlying e = some (.struct #[f0, f1]))
    (ce : Tryz.prog.cellsOf e = 2) (o0 : f0.offset = 0) (o1 : f1.offset = 1) (e0 : f0.type = ti) (e1 : f1.type = ts) (c0 : Tryz.prog.cellsOf ti = 1) (c1 : Tryz.prog.cellsOf ts = 1)
    (hi : Tryz.prog.underlying ti = some (.int .i64)) (hs : Tryz.prog.underlying ts = some (.slice tb)) (hb : Tryz.prog.underlying tb = some (.int .u8)) (hcb : Tryz.prog.cellsOf tb = 1)
    (h : DataW.trod enc Tryz.prog W 0 (fun _ => true) true fuel t [v] = some x) : ∃ ps, PView W 0 W.heap.size v ps := by
  subst e0 e1
  rcases open_slice_pairs ht he ce o0 o1 c0 c1 h with ⟨hcs, _⟩ | ⟨a, len, cap, m, n, V0, V1, D0, D1, P0, P1, hcs, _, hl, hm, hmm, _, hx⟩
  · simp at hcs; subst hcs; exact ⟨[], PView.nil _ _ _⟩
  · simp at hcs hmm; subst hcs
    subst hmm
    unfold maxLen at hm
    by_cases h0 : len = 0
    · subst h0; exact ⟨[], some a, m, rfl, by simp, by simp, Or.inl rfl⟩
    have hp : ∀ i, a.add i = ⟨a.block, a.off + i, none⟩ := fun i => (addr_plain (i := i) (by simpa using (hx 0 (by omega)).1)).1
    have hp0 : a = ⟨a.block, a.off, none⟩ := (addr_plain (i := 0) (by simpa using (hx 0 (by omega)).1)).2
    have each : ∀ i, i < len → ∃ p : Wr, V0 i = .int .i64 p.1 ∧ View W 0 W.heap.size .u8 (V1 i) p.2 := by
      intro i hi'
      obtain ⟨_, _, t0, t1⟩ := hx i (by omega)
      obtain ⟨q, hq, _, _⟩ := DataW.trod_int hi t0
      obtain ⟨xs, hxs⟩ := view_of_trod hs hb hcb t1
      simp at hq
      exact ⟨(q, xs), hq, hxs⟩
    obtain ⟨f, hf⟩ := choose_lt each
    have hlen : ((List.range len).map f).length = len := by simp
    refine ⟨(List.range len).map f, some a, m, by rw [hlen], by rw [hlen]; omega, by rw [hlen]; exact hl, Or.inr ⟨a.block, a.off, by rw [← hp0], Nat.zero_le _, ?_, ?_⟩⟩
    · have := (hx 0 (by omega)).1
      rw [hp] at this
      exact lt_of_cell this
    · intro i hi'
      rw [hlen] at hi'
      obtain ⟨k0, k1, _, _⟩ := hx i (by omega)
      obtain ⟨g0, g1⟩ := hf i hi'
      have eg : ((List.range len).map f).getD i (0, []) = f i := by simp [List.getD_eq_getElem?_getD, hi']
      rw [hp] at k0 k1
      rw [eg]
      exact ⟨V1 i, by rw [k0, g0], by rw [← k1, Nat.add_assoc], g1⟩

end Go.Proofs.YteligghapkleaaaGreatDoor

namespace Go.Proofs.YteligghapkleaaaGreatDoor
open Go.ChangeShapes Go.WideShapes Go.ChangeAt Go.RowKit Go.Joins Go.Deep

set_option maxRecDepth 20000 in
theorem tview_of_trod {H : Type} {enc : TypeId × Value → H} {W : World} {base : Nat} {v : Value} {dd : DataW H} {p : List MemPlace} (hv : Value.okWide Tryz.prog W .any base 25 v)
    (h : DataW.Trod enc Tryz.prog W 0 (fun _ => true) true 25 v dd p) : ∃ t, TView W 0 W.heap.size v t := by
  obtain ⟨v0, v1, v2, y0, y1, y2, n, rfl, _, _, t0, t1, t2⟩ := open_agg3 Tryz.underlying25 (by kernel_rfl) (by kernel_rfl) hv h
  obtain ⟨q, hq, _, _⟩ := DataW.trod_int Tryz.underlying2 t0
  obtain ⟨ps, hps⟩ := pview_of_trod Tryz.underlying22 Tryz.underlying45 (by kernel_rfl) rfl rfl rfl rfl (by kernel_rfl) (by kernel_rfl) Tryz.underlying2 Tryz.underlying36 Tryz.underlying5 (by kernel_rfl) t1
  obtain ⟨xs, hxs⟩ := view_of_trod (k := .i64) Tryz.underlying23 Tryz.underlying2 (by kernel_rfl) t2
  simp at hq
  subst hq
  exact ⟨⟨q, ps, xs⟩, v1, v2, rfl, hps, hxs⟩

end Go.Proofs.YteligghapkleaaaGreatDoor
