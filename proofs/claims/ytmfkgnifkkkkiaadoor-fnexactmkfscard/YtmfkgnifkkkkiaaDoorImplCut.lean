/- Bytes cut into blocks, of the program: the blocks as a function to range over. -/
import Derived.Test.YtmfkgnifkkkkiaaDoorImplPieces
import Derived.Deep.MidRow
namespace Go.Proofs.YtmfkgnifkkkkiaaDoor
open Go.RowKit Go.Shelf
attribute [local go_sem] Oper.semAt_some

set_option maxHeartbeats 1000000 in
theorem pieces_calls (w : World) (ao : Option Addr) (n cap : Nat) (m : Int) :
    Calls Tryd.prog 64 #[.slice ao n cap, .int .i64 m] w fun e w' =>
      e = .returned (.func (.func 70) #[] #[.pointer (some ⟨w.heap.size, 0, none⟩), .pointer (some ⟨w.heap.size + 1, 0, none⟩)]) ∧ w' = (w.alloc (.cells #[.slice ao n cap] 24)).alloc (.cells #[.int .i64 m] 3) := by
  go_enter Tryd.func64, Tryd.ntmps64
  go_wp2
  go_ret
  exact ⟨rfl, rfl⟩

theorem arrayAtC (w : World) (a : Addr) (cap : Nat) : (Instr.arrayAt 58 (.slice (some a) 64 cap)).run Tryd.prog w = .ok (.pointer (some a)) w := by
  simp [Instr.arrayAt, run_underlying Tryd.underlying58]

/-- Block x of these bytes. -/
def blkOf (ys : List Int) (x : Nat) : List Int := (ys.drop (64 * x)).take 64
/-- A place, and a block. -/
def encBk (ys : List Int) {K : Nat} (x : Fin K × Fin K) : Array Value := #[.int .i64 (x.1.val : Int), .agg ((blkOf ys x.2.val).map (Value.int .u8)).toArray]
def vals {K : Nat} (zs : List (Fin K × Fin K)) : List (Nat × Nat) := zs.map fun z => (z.1.val, z.2.val)
theorem grown_drew (V : World) : V.grownBy V.drew none := ⟨rfl, rfl, rfl, Nat.le_refl _, fun _ _ _ => rfl⟩
theorem own_pure {β : Type} (B : Nat) (p : β → Prop) : OwnFrom B (fun s (_ : World) => p s) := fun _ _ _ _ hs _ _ => hs

theorem blk_range {W : World} {b off : Nat} {ys : List Int} {K : Nat} (hl : ys.length = 64 * K) (h : ∀ i, i < ys.length → W.cell? ⟨b, off + i, none⟩ = some (.int .u8 (ys.getD i 0))) {x : Nat} (hx : x < K) :
    W.rangeAt b (off + 64 * x) ((blkOf ys x).map (Value.int .u8)) := by
  intro j v hj
  have hjl := (List.getElem?_eq_some_iff.1 hj).1
  rw [List.length_map] at hjl
  have hj64 : j < 64 := by unfold blkOf at hjl; simp only [List.length_take] at hjl; omega
  rw [Nat.add_assoc, h (64 * x + j) (by omega), ← hj, List.getElem?_map]
  unfold blkOf
  rw [List.getElem?_take, if_pos hj64, List.getElem?_drop, List.getElem?_eq_getElem (by omega)]
  simp [List.getD_eq_getElem?_getD, List.getElem?_eq_getElem (show 64 * x + j < ys.length by omega)]

theorem run_load_mid {P : Program} {op : Oper} {a : Act} {w : World} (ty : TypeId) (x : Operand) (ho : op.op = .load ty x) (b o : Nat) (hx : a.eval x = .pointer (some ⟨b, o, none⟩)) (cs : List Value) (hl : (loadVar ty ⟨b, o, none⟩).run P w = .ok (.agg cs.toArray) w) :
    (execOp a.eval op).run P w = .ok (.value (.agg cs.toArray)) w := by
  unfold execOp
  simp only [ho, hx, Instr.loadAt, Instr.sureAddr, Sem.run_bind, Sem.run_pure, Result.andThen_ok, hl]

/-- What the inner loop keeps, of the outer one's J; how it may be left. -/
def cutI (W : World) (l b : Nat) {K : Nat} (J : Nat → List (Fin K × Fin K) → World → Prop) (M : Nat) (pre : List (Fin K)) (V : World) : Prop :=
  (∃ zs, vals zs = (List.range pre.length).zip (pre.map Fin.val) ∧ J M zs V) ∧ (V.heap[W.heap.size]? = some (.cells #[.func (.yield l) #[] #[]] 111 (0, 0)) ∧ V.heap[W.heap.size + 1]? = some (.cells #[.int .i64 (pre.length : Int)] 2 (0, 0))) ∧ KeepS (fun k => k = b) W V
def cutX {K : Nat} (Jx : Nat → List (Fin K × Fin K) → World → Prop) (M : Nat) (c : Code) (_ : List (Fin K)) (V : World) : Prop := c = .ret ∧ ∃ zs, Jx M zs V

section
variable {P : Program} {n l : Nat} {ops : Array Oper} {Q : Exit → Act → World → Prop}
/-- An operation of a round that yields a value and leaves the world. -/
theorem opIn_value {i : Nat} {o : Oper} {a : Act} {w : World} {K : Act → World → Prop} (v : Value) (hi : ops[i]? = some o) (hw : Region.wanted o (yielded ops a.tmps) = true) (hd : ∀ c, o.op ≠ .defer c)
    (hrun : (execOp a.eval o).run P w = .ok (.value v) w) (h : K (a.put o.dst v) w) : wpOpIn (Fence.wide.inRound l) n P ops Q i K a w := by
  unfold wpOpIn
  simp only [hi]
  rw [if_pos hw]
  refine ⟨fun _ _ => trivial, ?_⟩
  rw [Fence.inRound_round, Oper.semAt_some l a.eval o hd, hrun]
  exact h
/-- A call of yield. -/
theorem opIn_round {i : Nat} {o : Oper} {a : Act} {w : World} {K : Act → World → Prop} {l' : Nat} {fn : FuncId} {tmps : Array Value} {assign body : Code} {R : Ending → World → Prop} (hi : ops[i]? = some o) (hw : Region.wanted o (yielded ops a.tmps) = true) (hd : ∀ c, o.op ≠ .defer c)
    (hrun : (execOp a.eval o).run P w = .ok (.round l' fn tmps assign body) w) (hR : RoundIn Fence.wide 0 P l' fn tmps assign body w R) (h : ∀ e w', R e w' → ∃ v, e = .returned v ∧ K (a.put o.dst v) w') : wpOpIn (Fence.wide.inRound l) n P ops Q i K a w := by
  unfold wpOpIn
  simp only [hi]
  rw [if_pos hw]
  refine ⟨fun _ _ => trivial, ?_⟩
  rw [Fence.inRound_round, Oper.semAt_some l a.eval o hd, hrun]
  refine ⟨(fun h => by cases h), (round_any hR l).mono ?_⟩
  intro e w' hr
  obtain ⟨v, rfl, hk⟩ := h e w' hr
  exact hk
theorem anyIn_one {i fuel : Nat} {listed : Array Bool} {a : Act} {w : World} (hr : Region.ready .any ops listed = [i]) (h : wpOpIn (Fence.wide.inRound l) n P ops Q i (wpAnyIn (Fence.wide.inRound l) n P .any ops Q fuel (listed.setIfInBounds i true)) a w) :
    wpAnyIn (Fence.wide.inRound l) n P .any ops Q (fuel + 1) listed a w := wpAnyIn_all hr (by simp) (fun j hj => by obtain rfl := List.mem_singleton.1 hj; exact h)
theorem anyIn_two {i j fuel : Nat} {listed : Array Bool} {a : Act} {w : World} (hr : Region.ready .any ops listed = [i, j]) (h : wpOpIn (Fence.wide.inRound l) n P ops Q i (wpAnyIn (Fence.wide.inRound l) n P .any ops Q fuel (listed.setIfInBounds i true)) a w)
    (h' : wpOpIn (Fence.wide.inRound l) n P ops Q j (wpAnyIn (Fence.wide.inRound l) n P .any ops Q fuel (listed.setIfInBounds j true)) a w) :
    wpAnyIn (Fence.wide.inRound l) n P .any ops Q (fuel + 1) listed a w := wpAnyIn_all hr (by simp) (fun k hk => by simp only [List.mem_cons, List.not_mem_nil, or_false] at hk; rcases hk with rfl | rfl; exact h; exact h')
theorem anyIn_three {i j k fuel : Nat} {listed : Array Bool} {a : Act} {w : World} (hr : Region.ready .any ops listed = [i, j, k]) (h : wpOpIn (Fence.wide.inRound l) n P ops Q i (wpAnyIn (Fence.wide.inRound l) n P .any ops Q fuel (listed.setIfInBounds i true)) a w)
    (h' : wpOpIn (Fence.wide.inRound l) n P ops Q j (wpAnyIn (Fence.wide.inRound l) n P .any ops Q fuel (listed.setIfInBounds j true)) a w) (h'' : wpOpIn (Fence.wide.inRound l) n P ops Q k (wpAnyIn (Fence.wide.inRound l) n P .any ops Q fuel (listed.setIfInBounds k true)) a w) :
    wpAnyIn (Fence.wide.inRound l) n P .any ops Q (fuel + 1) listed a w := wpAnyIn_all hr (by simp) (fun q hq => by simp only [List.mem_cons, List.not_mem_nil, or_false] at hq; rcases hq with rfl | rfl | rfl; exact h; exact h'; exact h'')
theorem anyIn_done {listed : Array Bool} {a : Act} {w : World} (hr : Region.ready .any ops listed = []) (h : Q .normal a w) : wpAnyIn (Fence.wide.inRound l) n P .any ops Q 0 listed a w := ⟨hr, h⟩
end

set_option maxRecDepth 100000 in
set_option maxHeartbeats 4000000 in
theorem cut_seq (Bd b off cap K : Nat) (ys : List Int) (w : World) (hK : K ≤ 4096) (hcap : 64 * K ≤ cap) (hc2 : cap ≤ 9223372036854775807) (hys : ys.length = 64 * K)
    (hd : w.cell? ⟨Bd, 0, none⟩ = some (.slice (some ⟨b, off, none⟩) (64 * K) cap)) (hb : ∀ i, i < ys.length → w.cell? ⟨b, off + i, none⟩ = some (.int .u8 (ys.getD i 0))) (hbl : b < w.heap.size) :
    Seq Tryd.prog 63 #[.pointer (some ⟨Bd, 0, none⟩)] (encBk ys (K := K)) (KeepS fun k => k = b)
      (fun zs => vals zs = (List.range K).zip (List.range K)) (fun _ => True) K w := fun l J Jx W hW hJ hJx hJF hJxF hY h0 => by
  have hd2 : W.cell? ⟨Bd, 0, none⟩ = some (.slice (some ⟨b, off, none⟩) (64 * K) cap) := (hW.cell (p := ⟨Bd, 0, none⟩) (lt_of_cell hd)).trans hd
  have hb2 : ∀ i, i < ys.length → W.cell? ⟨b, off + i, none⟩ = some (.int .u8 (ys.getD i 0)) := fun i hi => (hW.cell (p := ⟨b, off + i, none⟩) hbl).trans (hb i hi)
  have hbW : b < W.heap.size := Nat.lt_of_lt_of_le hbl hW.size
  have Hb2 : Hid (∀ i, i < ys.length → W.cell? ⟨b, off + i, none⟩ = some (.int .u8 (ys.getD i 0))) := hb2
  have Hys : Hid (ys.length = 64 * K) := hys
  have hdl : Bd < W.heap.size := lt_of_cell hd2
  have cA : Chg 0 0 W ((W.alloc (.cells #[.func (.yield l) #[] #[]] 111)).alloc (.cells #[.int .i64 0] 2)) := (Chg.alloc (Chg.refl 0 0 W) _).alloc _
  have hd3 := cA.cell hd2 (by omega)
  obtain ⟨z1, z2, z3⟩ := alloc2 W (.cells #[.func (.yield l) #[] #[]] 111) (.cells #[.int .i64 0] 2)
  clear hd hb hbl hW hb2 hys hd2
  refine callsIn_of_wp_marks Tryd.func63 rfl trivial ?_ rfl
  simp only [Tryd.ntmps63, List.size_toArray, List.length_cons, List.length_nil, Nat.reduceAdd, Nat.reduceSub, Array.replicate_succ, Array.replicate_zero, List.push_toArray, List.append_toArray, List.nil_append, List.cons_append]
  gi_wp2
  refine ⟨trivial, rfl, (callsIn_wide.2 (pieces_calls _ _ _ _ _)).mono ?_⟩
  rintro e w1 ⟨rfl, rfl⟩
  clear hd3
  generalize (W.alloc (.cells #[.func (.yield l) #[] #[]] 111)).alloc (.cells #[.int .i64 0] 2) = wA at *
  obtain ⟨y1, y2, y3⟩ := alloc2 wA (.cells #[.slice (some ⟨b, off, none⟩) (64 * K) cap] 24) (.cells #[.int .i64 64] 3)
  have cB : Chg 0 0 wA ((wA.alloc (.cells #[.slice (some ⟨b, off, none⟩) (64 * K) cap] 24)).alloc (.cells #[.int .i64 64] 3)) := (Chg.alloc (Chg.refl 0 0 wA) _).alloc _
  have z2' := (cB.block _ (by omega) (by omega)).trans z2
  have z3' := (cB.block _ (by omega) (by omega)).trans z3
  have cAB := cA.trans cB
  rw [z1] at y1 y2 y3 ⊢
  generalize (wA.alloc (.cells #[.slice (some ⟨b, off, none⟩) (64 * K) cap] 24)).alloc (.cells #[.int .i64 64] 3) = wB at *
  clear z1 z2 z3 cA cB
  gi_wp2
  refine range_own (n := 0) (gf := 70) (lb := #[.pointer (some ⟨W.heap.size + 2, 0, none⟩), .pointer (some ⟨W.heap.size + 2 + 1, 0, none⟩)]) rfl (enters_of Tryd.func70 (by kernel_rfl) rfl)
    (pieces_seq (W.heap.size + 2) (W.heap.size + 2 + 1) b off cap K wB hK hcap hc2 (Boxed.cell y2) (Boxed.cell y3)) (Below.refl _ _) (fun _ => rfl) KeepS.trans (fun V o _ _ k hk => World.putObj_heap_other (by omega))
    (cutI W l b J) (cutX Jx)
    ?hI ?hIx ?hIF ?hIxF ?h0 (fun x a' V => a' = { tmps := #[.func (.yield l) #[] #[], .pointer (some ⟨Bd, 0, none⟩), .pointer (some ⟨W.heap.size, 0, none⟩), .pointer (some ⟨W.heap.size + 1, 0, none⟩), .slice (some ⟨b, off + 64 * x.val, none⟩) 64 (cap - 64 * x.val), .slice (some ⟨b, off, none⟩) (64 * K) cap, .func (.func 70) #[] #[.pointer (some ⟨W.heap.size + 2, 0, none⟩), .pointer (some ⟨W.heap.size + 2 + 1, 0, none⟩)], .slice (some ⟨b, off + 64 * x.val, none⟩) 64 (cap - 64 * x.val), undef, undef, undef, undef, undef, undef, undef, undef, undef, undef, undef, undef, undef, undef], defers := [] })
    (fun x a' _ _ _ _ hs _ _ => hs) ?assign ?body ?done ?stop
  case hI =>
    exact fun M s A C row hs hg hr => by
      obtain ⟨⟨zs, h1, h2⟩, ⟨h3, h4⟩, h5⟩ := hs
      have hne : ∀ k, k < W.heap.size + 4 → some k ≠ row := fun k hk e => by have := (hr _ e.symm).1; omega
      refine ⟨⟨zs, h1, hJ M zs A C row h2 hg (fun r e => ⟨by have := (hr r e).1; omega, (hr r e).2⟩)⟩, ⟨(hg.block _ (Array.getElem?_eq_some_iff.1 h3).1 (hne _ (by omega))).trans h3, (hg.block _ (Array.getElem?_eq_some_iff.1 h4).1 (hne _ (by omega))).trans h4⟩, ?_⟩
      rintro k rfl
      exact (hg.block k (by have := (Array.getElem?_eq_some_iff.1 h3).1; omega) (hne _ (by omega))).trans (h5 k rfl)
  case hIx =>
    exact fun M c s A C row hs hg hr => by
      obtain ⟨h1, zs, h2⟩ := hs
      exact ⟨h1, zs, hJx M zs A C row h2 hg (fun r e => ⟨by have := (hr r e).1; omega, (hr r e).2⟩)⟩
  case hIF =>
    rintro M s A C ⟨⟨zs, h1, h2⟩, ⟨h3, h4⟩, h5⟩ hc hm
    refine ⟨⟨zs, h1, hJF M zs A C h2 (hc.widen (by omega) (by omega)) hm⟩, ⟨(hc.block _ (Array.getElem?_eq_some_iff.1 h3).1 (by omega)).trans h3, (hc.block _ (Array.getElem?_eq_some_iff.1 h4).1 (by omega)).trans h4⟩, ?_⟩
    rintro k rfl
    exact (hc.block k (by have := (Array.getElem?_eq_some_iff.1 h3).1; omega) (by omega)).trans (h5 k rfl)
  case hIxF =>
    rintro M c s A C ⟨h1, zs, h2⟩ hc hm
    exact ⟨h1, zs, hJxF M zs A C h2 (hc.widen (by omega) (by omega)) hm⟩
  case h0 =>
    intro V hV hsz
    refine ⟨⟨[], rfl, h0 V ((cAB.below (Or.inl (Nat.le_refl _))).trans (hV.mono (by omega)))⟩, ⟨(hV.block _ (by omega)).trans z2', (hV.block _ (by omega)).trans z3'⟩, ?_⟩
    rintro k rfl
    exact (hV.block k (by omega)).trans (cAB.block k hbW (by omega))
  case assign =>
    rintro M l' pre x V K' hM hMV hi hK
    simp only [encPc]
    gi_wp2
    exact hK _ _ (KeepM.refl _ _ _) (fun _ _ => rfl) hi rfl
  case body =>
    rintro M l' pre x a' V hM hMV ⟨⟨zs, hz, hJz⟩, ⟨e1, e2⟩, e3⟩ rfl hlen
    have hmx : Tryd.prog.follows .mixedOrders = true := by kernel_rfl
    obtain ⟨fn, tmps, assign, body, hy, hR⟩ := hY M zs (⟨pre.length, hlen⟩, x) V.drew (by omega) hMV (hJ M zs V V.drew none hJz (grown_drew V) (fun r e => by cases e)) (by have := congrArg List.length hz; simp [vals] at this; omega)
    simp only [encBk] at hy
    have hrg : V.drew.rangeAt b (off + 64 * x.val) ((blkOf ys x.val).map (Value.int .u8)) := blk_range Hys.out (fun i hi => (e3.cell (p := ⟨b, off + i, none⟩) rfl).trans (Hb2.out i hi)) x.isLt
    have hln : ((blkOf ys x.val).map (Value.int .u8)).length = 64 := by rw [List.length_map]; unfold blkOf; rw [List.length_take, List.length_drop, Hys.out]; have := x.isLt; omega
    have hld : (loadVar 58 ⟨b, off + 64 * x.val, none⟩).run Tryd.prog V.drew = .ok (.agg ((blkOf ys x.val).map (Value.int .u8)).toArray) V.drew := run_loadVar_mid _ _ _ _ _ _ hrg Tryd.underlying58 rfl (by rw [hln]; kernel_rfl)
    have hld2 : (Instr.loadAt 58 (.pointer (some ⟨b, off + 64 * x.val, none⟩))).run Tryd.prog V.drew = .ok (.agg ((blkOf ys x.val).map (Value.int .u8)).toArray) V.drew := run_loadAt_mid _ _ _ _ _ _ hrg Tryd.underlying58 rfl (by rw [hln]; kernel_rfl)
    have har := fun w' => arrayAtC w' ⟨b, off + 64 * x.val, none⟩ (cap - 64 * x.val)
    have c1 : V.drew.cell? ⟨W.heap.size, 0, none⟩ = some (.func (.yield l) #[] #[]) := Boxed.cell (W := V.drew) e1
    have c2 : V.drew.cell? ⟨W.heap.size + 1, 0, none⟩ = some (.int .i64 (pre.length : Int)) := Boxed.cell (W := V.drew) e2
    generalize (blkOf ys x.val).map (Value.int .u8) = cs at *
    clear hrg hln
    gi_wp2
    have cont : ∀ V3 : World, KeepM W.heap.size M V.drew V3 → KeepS (fun k => k = b) V.drew V3 → J M (zs ++ [(⟨pre.length, hlen⟩, x)]) V3 → V3.heap[W.heap.size + 1]? = some (.cells #[.int .i64 (pre.length : Int)] 2 (0, 0)) →
        (KeepM wB.heap.size M V (V3.setCell ⟨W.heap.size + 1, 0, none⟩ (.int .i64 ((pre.length : Int) + 1))) ∧ KeepS (fun k => k = W.heap.size + 2 ∨ k = W.heap.size + 2 + 1) V (V3.setCell ⟨W.heap.size + 1, 0, none⟩ (.int .i64 ((pre.length : Int) + 1)))) ∧ cutI W l b J M (pre ++ [x]) (V3.setCell ⟨W.heap.size + 1, 0, none⟩ (.int .i64 ((pre.length : Int) + 1))) := by
      intro V3 k1 k2 hJ3 f2
      have s1 := k1.size
      have s0 : V.drew.heap.size = V.heap.size := rfl
      have hk : ∀ k, k ≠ W.heap.size + 1 → (V3.setCell ⟨W.heap.size + 1, 0, none⟩ (.int .i64 ((pre.length : Int) + 1))).heap[k]? = V3.heap[k]? := fun k hk => Below.heap_setCell _ _ _ _ hk
      refine ⟨⟨⟨by simp only [World.setCell, Array.size_modify]; omega, fun k h1 h2 => (hk k (by omega)).trans (k1.same k (by omega) h2)⟩, fun k h => (hk k (by omega)).trans (k1.same k (by omega) (by omega))⟩, ⟨zs ++ [(⟨pre.length, hlen⟩, x)], ?_, ?_⟩, ⟨(hk _ (by omega)).trans ((k1.same _ (Nat.le_refl _) (by omega)).trans e1), ?_⟩, ?_⟩
      · unfold vals at hz ⊢
        rw [List.map_append, hz, List.length_append, List.map_append]
        show _ ++ [(pre.length, x.val)] = (List.range (pre.length + 1)).zip _
        rw [List.range_succ, List.zip_append (by simp)]
        rfl
      · exact hJF M _ V3 _ hJ3 (Chg.setCell (p := ⟨W.heap.size + 1, 0, none⟩) (Chg.refl _ _ V3) (Or.inl ⟨by simp only; omega, by simp only; omega⟩) _) (by omega)
      · have := Boxed.set (.int .i64 ((pre.length : Int) + 1)) f2
        rw [List.length_append]
        exact this
      · rintro k rfl
        exact (hk k (by omega)).trans ((k2 k rfl).trans (e3 k rfl))
    have stopd : ∀ V3 : World, KeepM W.heap.size M V.drew V3 → KeepS (fun k => k = b) V.drew V3 → Jx M (zs ++ [(⟨pre.length, hlen⟩, x)]) V3 →
        (KeepM wB.heap.size M V V3 ∧ KeepS (fun k => k = W.heap.size + 2 ∨ k = W.heap.size + 2 + 1) V V3) ∧ cutX Jx M .ret (pre ++ [x]) V3 := by
      intro V3 k1 k2 hJ3
      exact ⟨⟨⟨k1.size, fun k h1 h2 => k1.same k (by omega) h2⟩, fun k h => k1.same k (by omega) (by omega)⟩, rfl, _, hJ3⟩
    -- BODY
    refine wpIn_region_any hmx ?_
    change wpAnyIn _ _ _ _ _ _ _ _ _ (World.drew _)
    refine anyIn_one (i := 0) (by kernel_rfl) ?_
    refine opIn_value (.slice (some ⟨b, off + 64 * x.val, none⟩) 64 (cap - 64 * x.val)) rfl (by kernel_rfl) (fun _ h => by cases h) (by go_simp) ?_
    go_simp
    refine anyIn_one (i := 1) (by kernel_rfl) ?_
    refine opIn_value (.int .i64 64) rfl (by kernel_rfl) (fun _ h => by cases h) (by go_simp) ?_
    go_simp
    refine anyIn_one (i := 2) (by kernel_rfl) ?_
    refine opIn_value (.bool false) rfl (by kernel_rfl) (fun _ h => by cases h) (by go_simp) ?_
    go_simp
    refine anyIn_one (i := 3) (by kernel_rfl) ?_
    refine opIn_value (.bool false) rfl (by kernel_rfl) (fun _ h => by cases h) (by go_simp) ?_
    go_simp
    refine anyIn_three (i := 4) (j := 5) (k := 6) (by kernel_rfl) ?_ ?_ ?_
    · refine opIn_value (.func (.yield l) #[] #[]) rfl (by kernel_rfl) (fun _ h => by cases h) (by go_simp) ?_
      go_simp
      refine anyIn_two (i := 5) (j := 6) (by kernel_rfl) ?_ ?_
      · refine opIn_value (.int .i64 (pre.length : Int)) rfl (by kernel_rfl) (fun _ h => by cases h) (by go_simp) ?_
        go_simp
        refine anyIn_one (i := 6) (by kernel_rfl) ?_
        refine opIn_value (.slice (some ⟨b, off + 64 * x.val, none⟩) 64 (cap - 64 * x.val)) rfl (by kernel_rfl) (fun _ h => by cases h) (by go_simp) ?_
        go_simp
        refine anyIn_one (i := 7) (by kernel_rfl) ?_
        refine opIn_value (.pointer (some ⟨b, off + 64 * x.val, none⟩)) rfl (by kernel_rfl) (fun _ h => by cases h) (by go_simp) ?_
        go_simp
        refine anyIn_one (i := 8) (by kernel_rfl) ?_
        refine opIn_value (.agg cs.toArray) rfl (by kernel_rfl) (fun _ h => by cases h) (run_load_mid 58 (.tmp 15) rfl b (off + 64 * x.val) rfl cs hld) ?_
        go_simp
        refine anyIn_one (i := 9) (by kernel_rfl) ?_
        refine opIn_round rfl (by kernel_rfl) (fun _ h => by cases h) (by go_simp) hR ?_
        rintro e V3 ⟨⟨k1, k2⟩, hres⟩
        have f2 : V3.heap[W.heap.size + 1]? = some (.cells #[.int .i64 (pre.length : Int)] 2 (0, 0)) := (k1.same _ (by omega) (by omega)).trans e2
        rcases hres with ⟨rfl, hJ3⟩ | ⟨rfl, hJ3⟩
        · refine ⟨_, rfl, ?_⟩
          go_simp
          refine anyIn_one (i := 10) (by kernel_rfl) ?_
          refine opIn_value (.bool false) rfl (by kernel_rfl) (fun _ h => by cases h) (by go_simp) ?_
          go_simp
          refine anyIn_one (i := 11) (by kernel_rfl) ?_
          refine opIn_value (.bool false) rfl (by kernel_rfl) (fun _ h => by cases h) (by go_simp) ?_
          go_simp
          refine anyIn_done (by kernel_rfl) ?_
          have g1 := Boxed.cell f2
          have g2 := Boxed.frozen f2
          gi_wp2
          exact cont V3 k1 k2 hJ3 f2
        · refine ⟨_, rfl, ?_⟩
          go_simp
          refine anyIn_one (i := 10) (by kernel_rfl) ?_
          refine opIn_value (.bool true) rfl (by kernel_rfl) (fun _ h => by cases h) (by go_simp) ?_
          go_simp
          refine anyIn_one (i := 11) (by kernel_rfl) ?_
          refine opIn_value (.bool true) rfl (by kernel_rfl) (fun _ h => by cases h) (by go_simp) ?_
          go_simp
          refine anyIn_done (by kernel_rfl) ?_
          gi_wp2
          exact stopd V3 k1 k2 hJ3
      · refine opIn_value (.slice (some ⟨b, off + 64 * x.val, none⟩) 64 (cap - 64 * x.val)) rfl (by kernel_rfl) (fun _ h => by cases h) (by go_simp) ?_
        go_simp
        refine anyIn_two (i := 5) (j := 7) (by kernel_rfl) ?_ ?_
        · refine opIn_value (.int .i64 (pre.length : Int)) rfl (by kernel_rfl) (fun _ h => by cases h) (by go_simp) ?_
          go_simp
          refine anyIn_one (i := 7) (by kernel_rfl) ?_
          refine opIn_value (.pointer (some ⟨b, off + 64 * x.val, none⟩)) rfl (by kernel_rfl) (fun _ h => by cases h) (by go_simp) ?_
          go_simp
          refine anyIn_one (i := 8) (by kernel_rfl) ?_
          refine opIn_value (.agg cs.toArray) rfl (by kernel_rfl) (fun _ h => by cases h) (run_load_mid 58 (.tmp 15) rfl b (off + 64 * x.val) rfl cs hld) ?_
          go_simp
          refine anyIn_one (i := 9) (by kernel_rfl) ?_
          refine opIn_round rfl (by kernel_rfl) (fun _ h => by cases h) (by go_simp) hR ?_
          rintro e V3 ⟨⟨k1, k2⟩, hres⟩
          have f2 : V3.heap[W.heap.size + 1]? = some (.cells #[.int .i64 (pre.length : Int)] 2 (0, 0)) := (k1.same _ (by omega) (by omega)).trans e2
          rcases hres with ⟨rfl, hJ3⟩ | ⟨rfl, hJ3⟩
          · refine ⟨_, rfl, ?_⟩
            go_simp
            refine anyIn_one (i := 10) (by kernel_rfl) ?_
            refine opIn_value (.bool false) rfl (by kernel_rfl) (fun _ h => by cases h) (by go_simp) ?_
            go_simp
            refine anyIn_one (i := 11) (by kernel_rfl) ?_
            refine opIn_value (.bool false) rfl (by kernel_rfl) (fun _ h => by cases h) (by go_simp) ?_
            go_simp
            refine anyIn_done (by kernel_rfl) ?_
            have g1 := Boxed.cell f2
            have g2 := Boxed.frozen f2
            gi_wp2
            exact cont V3 k1 k2 hJ3 f2
          · refine ⟨_, rfl, ?_⟩
            go_simp
            refine anyIn_one (i := 10) (by kernel_rfl) ?_
            refine opIn_value (.bool true) rfl (by kernel_rfl) (fun _ h => by cases h) (by go_simp) ?_
            go_simp
            refine anyIn_one (i := 11) (by kernel_rfl) ?_
            refine opIn_value (.bool true) rfl (by kernel_rfl) (fun _ h => by cases h) (by go_simp) ?_
            go_simp
            refine anyIn_done (by kernel_rfl) ?_
            gi_wp2
            exact stopd V3 k1 k2 hJ3
        · refine opIn_value (.pointer (some ⟨b, off + 64 * x.val, none⟩)) rfl (by kernel_rfl) (fun _ h => by cases h) (by go_simp) ?_
          go_simp
          refine anyIn_two (i := 5) (j := 8) (by kernel_rfl) ?_ ?_
          · refine opIn_value (.int .i64 (pre.length : Int)) rfl (by kernel_rfl) (fun _ h => by cases h) (by go_simp) ?_
            go_simp
            refine anyIn_one (i := 8) (by kernel_rfl) ?_
            refine opIn_value (.agg cs.toArray) rfl (by kernel_rfl) (fun _ h => by cases h) (run_load_mid 58 (.tmp 15) rfl b (off + 64 * x.val) rfl cs hld) ?_
            go_simp
            refine anyIn_one (i := 9) (by kernel_rfl) ?_
            refine opIn_round rfl (by kernel_rfl) (fun _ h => by cases h) (by go_simp) hR ?_
            rintro e V3 ⟨⟨k1, k2⟩, hres⟩
            have f2 : V3.heap[W.heap.size + 1]? = some (.cells #[.int .i64 (pre.length : Int)] 2 (0, 0)) := (k1.same _ (by omega) (by omega)).trans e2
            rcases hres with ⟨rfl, hJ3⟩ | ⟨rfl, hJ3⟩
            · refine ⟨_, rfl, ?_⟩
              go_simp
              refine anyIn_one (i := 10) (by kernel_rfl) ?_
              refine opIn_value (.bool false) rfl (by kernel_rfl) (fun _ h => by cases h) (by go_simp) ?_
              go_simp
              refine anyIn_one (i := 11) (by kernel_rfl) ?_
              refine opIn_value (.bool false) rfl (by kernel_rfl) (fun _ h => by cases h) (by go_simp) ?_
              go_simp
              refine anyIn_done (by kernel_rfl) ?_
              have g1 := Boxed.cell f2
              have g2 := Boxed.frozen f2
              gi_wp2
              exact cont V3 k1 k2 hJ3 f2
            · refine ⟨_, rfl, ?_⟩
              go_simp
              refine anyIn_one (i := 10) (by kernel_rfl) ?_
              refine opIn_value (.bool true) rfl (by kernel_rfl) (fun _ h => by cases h) (by go_simp) ?_
              go_simp
              refine anyIn_one (i := 11) (by kernel_rfl) ?_
              refine opIn_value (.bool true) rfl (by kernel_rfl) (fun _ h => by cases h) (by go_simp) ?_
              go_simp
              refine anyIn_done (by kernel_rfl) ?_
              gi_wp2
              exact stopd V3 k1 k2 hJ3
          · refine opIn_value (.agg cs.toArray) rfl (by kernel_rfl) (fun _ h => by cases h) (run_load_mid 58 (.tmp 15) rfl b (off + 64 * x.val) rfl cs hld) ?_
            go_simp
            refine anyIn_one (i := 5) (by kernel_rfl) ?_
            refine opIn_value (.int .i64 (pre.length : Int)) rfl (by kernel_rfl) (fun _ h => by cases h) (by go_simp) ?_
            go_simp
            refine anyIn_one (i := 9) (by kernel_rfl) ?_
            refine opIn_round rfl (by kernel_rfl) (fun _ h => by cases h) (by go_simp) hR ?_
            rintro e V3 ⟨⟨k1, k2⟩, hres⟩
            have f2 : V3.heap[W.heap.size + 1]? = some (.cells #[.int .i64 (pre.length : Int)] 2 (0, 0)) := (k1.same _ (by omega) (by omega)).trans e2
            rcases hres with ⟨rfl, hJ3⟩ | ⟨rfl, hJ3⟩
            · refine ⟨_, rfl, ?_⟩
              go_simp
              refine anyIn_one (i := 10) (by kernel_rfl) ?_
              refine opIn_value (.bool false) rfl (by kernel_rfl) (fun _ h => by cases h) (by go_simp) ?_
              go_simp
              refine anyIn_one (i := 11) (by kernel_rfl) ?_
              refine opIn_value (.bool false) rfl (by kernel_rfl) (fun _ h => by cases h) (by go_simp) ?_
              go_simp
              refine anyIn_done (by kernel_rfl) ?_
              have g1 := Boxed.cell f2
              have g2 := Boxed.frozen f2
              gi_wp2
              exact cont V3 k1 k2 hJ3 f2
            · refine ⟨_, rfl, ?_⟩
              go_simp
              refine anyIn_one (i := 10) (by kernel_rfl) ?_
              refine opIn_value (.bool true) rfl (by kernel_rfl) (fun _ h => by cases h) (by go_simp) ?_
              go_simp
              refine anyIn_one (i := 11) (by kernel_rfl) ?_
              refine opIn_value (.bool true) rfl (by kernel_rfl) (fun _ h => by cases h) (by go_simp) ?_
              go_simp
              refine anyIn_done (by kernel_rfl) ?_
              gi_wp2
              exact stopd V3 k1 k2 hJ3
    · refine opIn_value (.int .i64 (pre.length : Int)) rfl (by kernel_rfl) (fun _ h => by cases h) (by go_simp) ?_
      go_simp
      refine anyIn_two (i := 4) (j := 6) (by kernel_rfl) ?_ ?_
      · refine opIn_value (.func (.yield l) #[] #[]) rfl (by kernel_rfl) (fun _ h => by cases h) (by go_simp) ?_
        go_simp
        refine anyIn_one (i := 6) (by kernel_rfl) ?_
        refine opIn_value (.slice (some ⟨b, off + 64 * x.val, none⟩) 64 (cap - 64 * x.val)) rfl (by kernel_rfl) (fun _ h => by cases h) (by go_simp) ?_
        go_simp
        refine anyIn_one (i := 7) (by kernel_rfl) ?_
        refine opIn_value (.pointer (some ⟨b, off + 64 * x.val, none⟩)) rfl (by kernel_rfl) (fun _ h => by cases h) (by go_simp) ?_
        go_simp
        refine anyIn_one (i := 8) (by kernel_rfl) ?_
        refine opIn_value (.agg cs.toArray) rfl (by kernel_rfl) (fun _ h => by cases h) (run_load_mid 58 (.tmp 15) rfl b (off + 64 * x.val) rfl cs hld) ?_
        go_simp
        refine anyIn_one (i := 9) (by kernel_rfl) ?_
        refine opIn_round rfl (by kernel_rfl) (fun _ h => by cases h) (by go_simp) hR ?_
        rintro e V3 ⟨⟨k1, k2⟩, hres⟩
        have f2 : V3.heap[W.heap.size + 1]? = some (.cells #[.int .i64 (pre.length : Int)] 2 (0, 0)) := (k1.same _ (by omega) (by omega)).trans e2
        rcases hres with ⟨rfl, hJ3⟩ | ⟨rfl, hJ3⟩
        · refine ⟨_, rfl, ?_⟩
          go_simp
          refine anyIn_one (i := 10) (by kernel_rfl) ?_
          refine opIn_value (.bool false) rfl (by kernel_rfl) (fun _ h => by cases h) (by go_simp) ?_
          go_simp
          refine anyIn_one (i := 11) (by kernel_rfl) ?_
          refine opIn_value (.bool false) rfl (by kernel_rfl) (fun _ h => by cases h) (by go_simp) ?_
          go_simp
          refine anyIn_done (by kernel_rfl) ?_
          have g1 := Boxed.cell f2
          have g2 := Boxed.frozen f2
          gi_wp2
          exact cont V3 k1 k2 hJ3 f2
        · refine ⟨_, rfl, ?_⟩
          go_simp
          refine anyIn_one (i := 10) (by kernel_rfl) ?_
          refine opIn_value (.bool true) rfl (by kernel_rfl) (fun _ h => by cases h) (by go_simp) ?_
          go_simp
          refine anyIn_one (i := 11) (by kernel_rfl) ?_
          refine opIn_value (.bool true) rfl (by kernel_rfl) (fun _ h => by cases h) (by go_simp) ?_
          go_simp
          refine anyIn_done (by kernel_rfl) ?_
          gi_wp2
          exact stopd V3 k1 k2 hJ3
      · refine opIn_value (.slice (some ⟨b, off + 64 * x.val, none⟩) 64 (cap - 64 * x.val)) rfl (by kernel_rfl) (fun _ h => by cases h) (by go_simp) ?_
        go_simp
        refine anyIn_two (i := 4) (j := 7) (by kernel_rfl) ?_ ?_
        · refine opIn_value (.func (.yield l) #[] #[]) rfl (by kernel_rfl) (fun _ h => by cases h) (by go_simp) ?_
          go_simp
          refine anyIn_one (i := 7) (by kernel_rfl) ?_
          refine opIn_value (.pointer (some ⟨b, off + 64 * x.val, none⟩)) rfl (by kernel_rfl) (fun _ h => by cases h) (by go_simp) ?_
          go_simp
          refine anyIn_one (i := 8) (by kernel_rfl) ?_
          refine opIn_value (.agg cs.toArray) rfl (by kernel_rfl) (fun _ h => by cases h) (run_load_mid 58 (.tmp 15) rfl b (off + 64 * x.val) rfl cs hld) ?_
          go_simp
          refine anyIn_one (i := 9) (by kernel_rfl) ?_
          refine opIn_round rfl (by kernel_rfl) (fun _ h => by cases h) (by go_simp) hR ?_
          rintro e V3 ⟨⟨k1, k2⟩, hres⟩
          have f2 : V3.heap[W.heap.size + 1]? = some (.cells #[.int .i64 (pre.length : Int)] 2 (0, 0)) := (k1.same _ (by omega) (by omega)).trans e2
          rcases hres with ⟨rfl, hJ3⟩ | ⟨rfl, hJ3⟩
          · refine ⟨_, rfl, ?_⟩
            go_simp
            refine anyIn_one (i := 10) (by kernel_rfl) ?_
            refine opIn_value (.bool false) rfl (by kernel_rfl) (fun _ h => by cases h) (by go_simp) ?_
            go_simp
            refine anyIn_one (i := 11) (by kernel_rfl) ?_
            refine opIn_value (.bool false) rfl (by kernel_rfl) (fun _ h => by cases h) (by go_simp) ?_
            go_simp
            refine anyIn_done (by kernel_rfl) ?_
            have g1 := Boxed.cell f2
            have g2 := Boxed.frozen f2
            gi_wp2
            exact cont V3 k1 k2 hJ3 f2
          · refine ⟨_, rfl, ?_⟩
            go_simp
            refine anyIn_one (i := 10) (by kernel_rfl) ?_
            refine opIn_value (.bool true) rfl (by kernel_rfl) (fun _ h => by cases h) (by go_simp) ?_
            go_simp
            refine anyIn_one (i := 11) (by kernel_rfl) ?_
            refine opIn_value (.bool true) rfl (by kernel_rfl) (fun _ h => by cases h) (by go_simp) ?_
            go_simp
            refine anyIn_done (by kernel_rfl) ?_
            gi_wp2
            exact stopd V3 k1 k2 hJ3
        · refine opIn_value (.pointer (some ⟨b, off + 64 * x.val, none⟩)) rfl (by kernel_rfl) (fun _ h => by cases h) (by go_simp) ?_
          go_simp
          refine anyIn_two (i := 4) (j := 8) (by kernel_rfl) ?_ ?_
          · refine opIn_value (.func (.yield l) #[] #[]) rfl (by kernel_rfl) (fun _ h => by cases h) (by go_simp) ?_
            go_simp
            refine anyIn_one (i := 8) (by kernel_rfl) ?_
            refine opIn_value (.agg cs.toArray) rfl (by kernel_rfl) (fun _ h => by cases h) (run_load_mid 58 (.tmp 15) rfl b (off + 64 * x.val) rfl cs hld) ?_
            go_simp
            refine anyIn_one (i := 9) (by kernel_rfl) ?_
            refine opIn_round rfl (by kernel_rfl) (fun _ h => by cases h) (by go_simp) hR ?_
            rintro e V3 ⟨⟨k1, k2⟩, hres⟩
            have f2 : V3.heap[W.heap.size + 1]? = some (.cells #[.int .i64 (pre.length : Int)] 2 (0, 0)) := (k1.same _ (by omega) (by omega)).trans e2
            rcases hres with ⟨rfl, hJ3⟩ | ⟨rfl, hJ3⟩
            · refine ⟨_, rfl, ?_⟩
              go_simp
              refine anyIn_one (i := 10) (by kernel_rfl) ?_
              refine opIn_value (.bool false) rfl (by kernel_rfl) (fun _ h => by cases h) (by go_simp) ?_
              go_simp
              refine anyIn_one (i := 11) (by kernel_rfl) ?_
              refine opIn_value (.bool false) rfl (by kernel_rfl) (fun _ h => by cases h) (by go_simp) ?_
              go_simp
              refine anyIn_done (by kernel_rfl) ?_
              have g1 := Boxed.cell f2
              have g2 := Boxed.frozen f2
              gi_wp2
              exact cont V3 k1 k2 hJ3 f2
            · refine ⟨_, rfl, ?_⟩
              go_simp
              refine anyIn_one (i := 10) (by kernel_rfl) ?_
              refine opIn_value (.bool true) rfl (by kernel_rfl) (fun _ h => by cases h) (by go_simp) ?_
              go_simp
              refine anyIn_one (i := 11) (by kernel_rfl) ?_
              refine opIn_value (.bool true) rfl (by kernel_rfl) (fun _ h => by cases h) (by go_simp) ?_
              go_simp
              refine anyIn_done (by kernel_rfl) ?_
              gi_wp2
              exact stopd V3 k1 k2 hJ3
          · refine opIn_value (.agg cs.toArray) rfl (by kernel_rfl) (fun _ h => by cases h) (run_load_mid 58 (.tmp 15) rfl b (off + 64 * x.val) rfl cs hld) ?_
            go_simp
            refine anyIn_one (i := 4) (by kernel_rfl) ?_
            refine opIn_value (.func (.yield l) #[] #[]) rfl (by kernel_rfl) (fun _ h => by cases h) (by go_simp) ?_
            go_simp
            refine anyIn_one (i := 9) (by kernel_rfl) ?_
            refine opIn_round rfl (by kernel_rfl) (fun _ h => by cases h) (by go_simp) hR ?_
            rintro e V3 ⟨⟨k1, k2⟩, hres⟩
            have f2 : V3.heap[W.heap.size + 1]? = some (.cells #[.int .i64 (pre.length : Int)] 2 (0, 0)) := (k1.same _ (by omega) (by omega)).trans e2
            rcases hres with ⟨rfl, hJ3⟩ | ⟨rfl, hJ3⟩
            · refine ⟨_, rfl, ?_⟩
              go_simp
              refine anyIn_one (i := 10) (by kernel_rfl) ?_
              refine opIn_value (.bool false) rfl (by kernel_rfl) (fun _ h => by cases h) (by go_simp) ?_
              go_simp
              refine anyIn_one (i := 11) (by kernel_rfl) ?_
              refine opIn_value (.bool false) rfl (by kernel_rfl) (fun _ h => by cases h) (by go_simp) ?_
              go_simp
              refine anyIn_done (by kernel_rfl) ?_
              have g1 := Boxed.cell f2
              have g2 := Boxed.frozen f2
              gi_wp2
              exact cont V3 k1 k2 hJ3 f2
            · refine ⟨_, rfl, ?_⟩
              go_simp
              refine anyIn_one (i := 10) (by kernel_rfl) ?_
              refine opIn_value (.bool true) rfl (by kernel_rfl) (fun _ h => by cases h) (by go_simp) ?_
              go_simp
              refine anyIn_one (i := 11) (by kernel_rfl) ?_
              refine opIn_value (.bool true) rfl (by kernel_rfl) (fun _ h => by cases h) (by go_simp) ?_
              go_simp
              refine anyIn_done (by kernel_rfl) ?_
              gi_wp2
              exact stopd V3 k1 k2 hJ3
    · refine opIn_value (.slice (some ⟨b, off + 64 * x.val, none⟩) 64 (cap - 64 * x.val)) rfl (by kernel_rfl) (fun _ h => by cases h) (by go_simp) ?_
      go_simp
      refine anyIn_three (i := 4) (j := 5) (k := 7) (by kernel_rfl) ?_ ?_ ?_
      · refine opIn_value (.func (.yield l) #[] #[]) rfl (by kernel_rfl) (fun _ h => by cases h) (by go_simp) ?_
        go_simp
        refine anyIn_two (i := 5) (j := 7) (by kernel_rfl) ?_ ?_
        · refine opIn_value (.int .i64 (pre.length : Int)) rfl (by kernel_rfl) (fun _ h => by cases h) (by go_simp) ?_
          go_simp
          refine anyIn_one (i := 7) (by kernel_rfl) ?_
          refine opIn_value (.pointer (some ⟨b, off + 64 * x.val, none⟩)) rfl (by kernel_rfl) (fun _ h => by cases h) (by go_simp) ?_
          go_simp
          refine anyIn_one (i := 8) (by kernel_rfl) ?_
          refine opIn_value (.agg cs.toArray) rfl (by kernel_rfl) (fun _ h => by cases h) (run_load_mid 58 (.tmp 15) rfl b (off + 64 * x.val) rfl cs hld) ?_
          go_simp
          refine anyIn_one (i := 9) (by kernel_rfl) ?_
          refine opIn_round rfl (by kernel_rfl) (fun _ h => by cases h) (by go_simp) hR ?_
          rintro e V3 ⟨⟨k1, k2⟩, hres⟩
          have f2 : V3.heap[W.heap.size + 1]? = some (.cells #[.int .i64 (pre.length : Int)] 2 (0, 0)) := (k1.same _ (by omega) (by omega)).trans e2
          rcases hres with ⟨rfl, hJ3⟩ | ⟨rfl, hJ3⟩
          · refine ⟨_, rfl, ?_⟩
            go_simp
            refine anyIn_one (i := 10) (by kernel_rfl) ?_
            refine opIn_value (.bool false) rfl (by kernel_rfl) (fun _ h => by cases h) (by go_simp) ?_
            go_simp
            refine anyIn_one (i := 11) (by kernel_rfl) ?_
            refine opIn_value (.bool false) rfl (by kernel_rfl) (fun _ h => by cases h) (by go_simp) ?_
            go_simp
            refine anyIn_done (by kernel_rfl) ?_
            have g1 := Boxed.cell f2
            have g2 := Boxed.frozen f2
            gi_wp2
            exact cont V3 k1 k2 hJ3 f2
          · refine ⟨_, rfl, ?_⟩
            go_simp
            refine anyIn_one (i := 10) (by kernel_rfl) ?_
            refine opIn_value (.bool true) rfl (by kernel_rfl) (fun _ h => by cases h) (by go_simp) ?_
            go_simp
            refine anyIn_one (i := 11) (by kernel_rfl) ?_
            refine opIn_value (.bool true) rfl (by kernel_rfl) (fun _ h => by cases h) (by go_simp) ?_
            go_simp
            refine anyIn_done (by kernel_rfl) ?_
            gi_wp2
            exact stopd V3 k1 k2 hJ3
        · refine opIn_value (.pointer (some ⟨b, off + 64 * x.val, none⟩)) rfl (by kernel_rfl) (fun _ h => by cases h) (by go_simp) ?_
          go_simp
          refine anyIn_two (i := 5) (j := 8) (by kernel_rfl) ?_ ?_
          · refine opIn_value (.int .i64 (pre.length : Int)) rfl (by kernel_rfl) (fun _ h => by cases h) (by go_simp) ?_
            go_simp
            refine anyIn_one (i := 8) (by kernel_rfl) ?_
            refine opIn_value (.agg cs.toArray) rfl (by kernel_rfl) (fun _ h => by cases h) (run_load_mid 58 (.tmp 15) rfl b (off + 64 * x.val) rfl cs hld) ?_
            go_simp
            refine anyIn_one (i := 9) (by kernel_rfl) ?_
            refine opIn_round rfl (by kernel_rfl) (fun _ h => by cases h) (by go_simp) hR ?_
            rintro e V3 ⟨⟨k1, k2⟩, hres⟩
            have f2 : V3.heap[W.heap.size + 1]? = some (.cells #[.int .i64 (pre.length : Int)] 2 (0, 0)) := (k1.same _ (by omega) (by omega)).trans e2
            rcases hres with ⟨rfl, hJ3⟩ | ⟨rfl, hJ3⟩
            · refine ⟨_, rfl, ?_⟩
              go_simp
              refine anyIn_one (i := 10) (by kernel_rfl) ?_
              refine opIn_value (.bool false) rfl (by kernel_rfl) (fun _ h => by cases h) (by go_simp) ?_
              go_simp
              refine anyIn_one (i := 11) (by kernel_rfl) ?_
              refine opIn_value (.bool false) rfl (by kernel_rfl) (fun _ h => by cases h) (by go_simp) ?_
              go_simp
              refine anyIn_done (by kernel_rfl) ?_
              have g1 := Boxed.cell f2
              have g2 := Boxed.frozen f2
              gi_wp2
              exact cont V3 k1 k2 hJ3 f2
            · refine ⟨_, rfl, ?_⟩
              go_simp
              refine anyIn_one (i := 10) (by kernel_rfl) ?_
              refine opIn_value (.bool true) rfl (by kernel_rfl) (fun _ h => by cases h) (by go_simp) ?_
              go_simp
              refine anyIn_one (i := 11) (by kernel_rfl) ?_
              refine opIn_value (.bool true) rfl (by kernel_rfl) (fun _ h => by cases h) (by go_simp) ?_
              go_simp
              refine anyIn_done (by kernel_rfl) ?_
              gi_wp2
              exact stopd V3 k1 k2 hJ3
          · refine opIn_value (.agg cs.toArray) rfl (by kernel_rfl) (fun _ h => by cases h) (run_load_mid 58 (.tmp 15) rfl b (off + 64 * x.val) rfl cs hld) ?_
            go_simp
            refine anyIn_one (i := 5) (by kernel_rfl) ?_
            refine opIn_value (.int .i64 (pre.length : Int)) rfl (by kernel_rfl) (fun _ h => by cases h) (by go_simp) ?_
            go_simp
            refine anyIn_one (i := 9) (by kernel_rfl) ?_
            refine opIn_round rfl (by kernel_rfl) (fun _ h => by cases h) (by go_simp) hR ?_
            rintro e V3 ⟨⟨k1, k2⟩, hres⟩
            have f2 : V3.heap[W.heap.size + 1]? = some (.cells #[.int .i64 (pre.length : Int)] 2 (0, 0)) := (k1.same _ (by omega) (by omega)).trans e2
            rcases hres with ⟨rfl, hJ3⟩ | ⟨rfl, hJ3⟩
            · refine ⟨_, rfl, ?_⟩
              go_simp
              refine anyIn_one (i := 10) (by kernel_rfl) ?_
              refine opIn_value (.bool false) rfl (by kernel_rfl) (fun _ h => by cases h) (by go_simp) ?_
              go_simp
              refine anyIn_one (i := 11) (by kernel_rfl) ?_
              refine opIn_value (.bool false) rfl (by kernel_rfl) (fun _ h => by cases h) (by go_simp) ?_
              go_simp
              refine anyIn_done (by kernel_rfl) ?_
              have g1 := Boxed.cell f2
              have g2 := Boxed.frozen f2
              gi_wp2
              exact cont V3 k1 k2 hJ3 f2
            · refine ⟨_, rfl, ?_⟩
              go_simp
              refine anyIn_one (i := 10) (by kernel_rfl) ?_
              refine opIn_value (.bool true) rfl (by kernel_rfl) (fun _ h => by cases h) (by go_simp) ?_
              go_simp
              refine anyIn_one (i := 11) (by kernel_rfl) ?_
              refine opIn_value (.bool true) rfl (by kernel_rfl) (fun _ h => by cases h) (by go_simp) ?_
              go_simp
              refine anyIn_done (by kernel_rfl) ?_
              gi_wp2
              exact stopd V3 k1 k2 hJ3
      · refine opIn_value (.int .i64 (pre.length : Int)) rfl (by kernel_rfl) (fun _ h => by cases h) (by go_simp) ?_
        go_simp
        refine anyIn_two (i := 4) (j := 7) (by kernel_rfl) ?_ ?_
        · refine opIn_value (.func (.yield l) #[] #[]) rfl (by kernel_rfl) (fun _ h => by cases h) (by go_simp) ?_
          go_simp
          refine anyIn_one (i := 7) (by kernel_rfl) ?_
          refine opIn_value (.pointer (some ⟨b, off + 64 * x.val, none⟩)) rfl (by kernel_rfl) (fun _ h => by cases h) (by go_simp) ?_
          go_simp
          refine anyIn_one (i := 8) (by kernel_rfl) ?_
          refine opIn_value (.agg cs.toArray) rfl (by kernel_rfl) (fun _ h => by cases h) (run_load_mid 58 (.tmp 15) rfl b (off + 64 * x.val) rfl cs hld) ?_
          go_simp
          refine anyIn_one (i := 9) (by kernel_rfl) ?_
          refine opIn_round rfl (by kernel_rfl) (fun _ h => by cases h) (by go_simp) hR ?_
          rintro e V3 ⟨⟨k1, k2⟩, hres⟩
          have f2 : V3.heap[W.heap.size + 1]? = some (.cells #[.int .i64 (pre.length : Int)] 2 (0, 0)) := (k1.same _ (by omega) (by omega)).trans e2
          rcases hres with ⟨rfl, hJ3⟩ | ⟨rfl, hJ3⟩
          · refine ⟨_, rfl, ?_⟩
            go_simp
            refine anyIn_one (i := 10) (by kernel_rfl) ?_
            refine opIn_value (.bool false) rfl (by kernel_rfl) (fun _ h => by cases h) (by go_simp) ?_
            go_simp
            refine anyIn_one (i := 11) (by kernel_rfl) ?_
            refine opIn_value (.bool false) rfl (by kernel_rfl) (fun _ h => by cases h) (by go_simp) ?_
            go_simp
            refine anyIn_done (by kernel_rfl) ?_
            have g1 := Boxed.cell f2
            have g2 := Boxed.frozen f2
            gi_wp2
            exact cont V3 k1 k2 hJ3 f2
          · refine ⟨_, rfl, ?_⟩
            go_simp
            refine anyIn_one (i := 10) (by kernel_rfl) ?_
            refine opIn_value (.bool true) rfl (by kernel_rfl) (fun _ h => by cases h) (by go_simp) ?_
            go_simp
            refine anyIn_one (i := 11) (by kernel_rfl) ?_
            refine opIn_value (.bool true) rfl (by kernel_rfl) (fun _ h => by cases h) (by go_simp) ?_
            go_simp
            refine anyIn_done (by kernel_rfl) ?_
            gi_wp2
            exact stopd V3 k1 k2 hJ3
        · refine opIn_value (.pointer (some ⟨b, off + 64 * x.val, none⟩)) rfl (by kernel_rfl) (fun _ h => by cases h) (by go_simp) ?_
          go_simp
          refine anyIn_two (i := 4) (j := 8) (by kernel_rfl) ?_ ?_
          · refine opIn_value (.func (.yield l) #[] #[]) rfl (by kernel_rfl) (fun _ h => by cases h) (by go_simp) ?_
            go_simp
            refine anyIn_one (i := 8) (by kernel_rfl) ?_
            refine opIn_value (.agg cs.toArray) rfl (by kernel_rfl) (fun _ h => by cases h) (run_load_mid 58 (.tmp 15) rfl b (off + 64 * x.val) rfl cs hld) ?_
            go_simp
            refine anyIn_one (i := 9) (by kernel_rfl) ?_
            refine opIn_round rfl (by kernel_rfl) (fun _ h => by cases h) (by go_simp) hR ?_
            rintro e V3 ⟨⟨k1, k2⟩, hres⟩
            have f2 : V3.heap[W.heap.size + 1]? = some (.cells #[.int .i64 (pre.length : Int)] 2 (0, 0)) := (k1.same _ (by omega) (by omega)).trans e2
            rcases hres with ⟨rfl, hJ3⟩ | ⟨rfl, hJ3⟩
            · refine ⟨_, rfl, ?_⟩
              go_simp
              refine anyIn_one (i := 10) (by kernel_rfl) ?_
              refine opIn_value (.bool false) rfl (by kernel_rfl) (fun _ h => by cases h) (by go_simp) ?_
              go_simp
              refine anyIn_one (i := 11) (by kernel_rfl) ?_
              refine opIn_value (.bool false) rfl (by kernel_rfl) (fun _ h => by cases h) (by go_simp) ?_
              go_simp
              refine anyIn_done (by kernel_rfl) ?_
              have g1 := Boxed.cell f2
              have g2 := Boxed.frozen f2
              gi_wp2
              exact cont V3 k1 k2 hJ3 f2
            · refine ⟨_, rfl, ?_⟩
              go_simp
              refine anyIn_one (i := 10) (by kernel_rfl) ?_
              refine opIn_value (.bool true) rfl (by kernel_rfl) (fun _ h => by cases h) (by go_simp) ?_
              go_simp
              refine anyIn_one (i := 11) (by kernel_rfl) ?_
              refine opIn_value (.bool true) rfl (by kernel_rfl) (fun _ h => by cases h) (by go_simp) ?_
              go_simp
              refine anyIn_done (by kernel_rfl) ?_
              gi_wp2
              exact stopd V3 k1 k2 hJ3
          · refine opIn_value (.agg cs.toArray) rfl (by kernel_rfl) (fun _ h => by cases h) (run_load_mid 58 (.tmp 15) rfl b (off + 64 * x.val) rfl cs hld) ?_
            go_simp
            refine anyIn_one (i := 4) (by kernel_rfl) ?_
            refine opIn_value (.func (.yield l) #[] #[]) rfl (by kernel_rfl) (fun _ h => by cases h) (by go_simp) ?_
            go_simp
            refine anyIn_one (i := 9) (by kernel_rfl) ?_
            refine opIn_round rfl (by kernel_rfl) (fun _ h => by cases h) (by go_simp) hR ?_
            rintro e V3 ⟨⟨k1, k2⟩, hres⟩
            have f2 : V3.heap[W.heap.size + 1]? = some (.cells #[.int .i64 (pre.length : Int)] 2 (0, 0)) := (k1.same _ (by omega) (by omega)).trans e2
            rcases hres with ⟨rfl, hJ3⟩ | ⟨rfl, hJ3⟩
            · refine ⟨_, rfl, ?_⟩
              go_simp
              refine anyIn_one (i := 10) (by kernel_rfl) ?_
              refine opIn_value (.bool false) rfl (by kernel_rfl) (fun _ h => by cases h) (by go_simp) ?_
              go_simp
              refine anyIn_one (i := 11) (by kernel_rfl) ?_
              refine opIn_value (.bool false) rfl (by kernel_rfl) (fun _ h => by cases h) (by go_simp) ?_
              go_simp
              refine anyIn_done (by kernel_rfl) ?_
              have g1 := Boxed.cell f2
              have g2 := Boxed.frozen f2
              gi_wp2
              exact cont V3 k1 k2 hJ3 f2
            · refine ⟨_, rfl, ?_⟩
              go_simp
              refine anyIn_one (i := 10) (by kernel_rfl) ?_
              refine opIn_value (.bool true) rfl (by kernel_rfl) (fun _ h => by cases h) (by go_simp) ?_
              go_simp
              refine anyIn_one (i := 11) (by kernel_rfl) ?_
              refine opIn_value (.bool true) rfl (by kernel_rfl) (fun _ h => by cases h) (by go_simp) ?_
              go_simp
              refine anyIn_done (by kernel_rfl) ?_
              gi_wp2
              exact stopd V3 k1 k2 hJ3
      · refine opIn_value (.pointer (some ⟨b, off + 64 * x.val, none⟩)) rfl (by kernel_rfl) (fun _ h => by cases h) (by go_simp) ?_
        go_simp
        refine anyIn_three (i := 4) (j := 5) (k := 8) (by kernel_rfl) ?_ ?_ ?_
        · refine opIn_value (.func (.yield l) #[] #[]) rfl (by kernel_rfl) (fun _ h => by cases h) (by go_simp) ?_
          go_simp
          refine anyIn_two (i := 5) (j := 8) (by kernel_rfl) ?_ ?_
          · refine opIn_value (.int .i64 (pre.length : Int)) rfl (by kernel_rfl) (fun _ h => by cases h) (by go_simp) ?_
            go_simp
            refine anyIn_one (i := 8) (by kernel_rfl) ?_
            refine opIn_value (.agg cs.toArray) rfl (by kernel_rfl) (fun _ h => by cases h) (run_load_mid 58 (.tmp 15) rfl b (off + 64 * x.val) rfl cs hld) ?_
            go_simp
            refine anyIn_one (i := 9) (by kernel_rfl) ?_
            refine opIn_round rfl (by kernel_rfl) (fun _ h => by cases h) (by go_simp) hR ?_
            rintro e V3 ⟨⟨k1, k2⟩, hres⟩
            have f2 : V3.heap[W.heap.size + 1]? = some (.cells #[.int .i64 (pre.length : Int)] 2 (0, 0)) := (k1.same _ (by omega) (by omega)).trans e2
            rcases hres with ⟨rfl, hJ3⟩ | ⟨rfl, hJ3⟩
            · refine ⟨_, rfl, ?_⟩
              go_simp
              refine anyIn_one (i := 10) (by kernel_rfl) ?_
              refine opIn_value (.bool false) rfl (by kernel_rfl) (fun _ h => by cases h) (by go_simp) ?_
              go_simp
              refine anyIn_one (i := 11) (by kernel_rfl) ?_
              refine opIn_value (.bool false) rfl (by kernel_rfl) (fun _ h => by cases h) (by go_simp) ?_
              go_simp
              refine anyIn_done (by kernel_rfl) ?_
              have g1 := Boxed.cell f2
              have g2 := Boxed.frozen f2
              gi_wp2
              exact cont V3 k1 k2 hJ3 f2
            · refine ⟨_, rfl, ?_⟩
              go_simp
              refine anyIn_one (i := 10) (by kernel_rfl) ?_
              refine opIn_value (.bool true) rfl (by kernel_rfl) (fun _ h => by cases h) (by go_simp) ?_
              go_simp
              refine anyIn_one (i := 11) (by kernel_rfl) ?_
              refine opIn_value (.bool true) rfl (by kernel_rfl) (fun _ h => by cases h) (by go_simp) ?_
              go_simp
              refine anyIn_done (by kernel_rfl) ?_
              gi_wp2
              exact stopd V3 k1 k2 hJ3
          · refine opIn_value (.agg cs.toArray) rfl (by kernel_rfl) (fun _ h => by cases h) (run_load_mid 58 (.tmp 15) rfl b (off + 64 * x.val) rfl cs hld) ?_
            go_simp
            refine anyIn_one (i := 5) (by kernel_rfl) ?_
            refine opIn_value (.int .i64 (pre.length : Int)) rfl (by kernel_rfl) (fun _ h => by cases h) (by go_simp) ?_
            go_simp
            refine anyIn_one (i := 9) (by kernel_rfl) ?_
            refine opIn_round rfl (by kernel_rfl) (fun _ h => by cases h) (by go_simp) hR ?_
            rintro e V3 ⟨⟨k1, k2⟩, hres⟩
            have f2 : V3.heap[W.heap.size + 1]? = some (.cells #[.int .i64 (pre.length : Int)] 2 (0, 0)) := (k1.same _ (by omega) (by omega)).trans e2
            rcases hres with ⟨rfl, hJ3⟩ | ⟨rfl, hJ3⟩
            · refine ⟨_, rfl, ?_⟩
              go_simp
              refine anyIn_one (i := 10) (by kernel_rfl) ?_
              refine opIn_value (.bool false) rfl (by kernel_rfl) (fun _ h => by cases h) (by go_simp) ?_
              go_simp
              refine anyIn_one (i := 11) (by kernel_rfl) ?_
              refine opIn_value (.bool false) rfl (by kernel_rfl) (fun _ h => by cases h) (by go_simp) ?_
              go_simp
              refine anyIn_done (by kernel_rfl) ?_
              have g1 := Boxed.cell f2
              have g2 := Boxed.frozen f2
              gi_wp2
              exact cont V3 k1 k2 hJ3 f2
            · refine ⟨_, rfl, ?_⟩
              go_simp
              refine anyIn_one (i := 10) (by kernel_rfl) ?_
              refine opIn_value (.bool true) rfl (by kernel_rfl) (fun _ h => by cases h) (by go_simp) ?_
              go_simp
              refine anyIn_one (i := 11) (by kernel_rfl) ?_
              refine opIn_value (.bool true) rfl (by kernel_rfl) (fun _ h => by cases h) (by go_simp) ?_
              go_simp
              refine anyIn_done (by kernel_rfl) ?_
              gi_wp2
              exact stopd V3 k1 k2 hJ3
        · refine opIn_value (.int .i64 (pre.length : Int)) rfl (by kernel_rfl) (fun _ h => by cases h) (by go_simp) ?_
          go_simp
          refine anyIn_two (i := 4) (j := 8) (by kernel_rfl) ?_ ?_
          · refine opIn_value (.func (.yield l) #[] #[]) rfl (by kernel_rfl) (fun _ h => by cases h) (by go_simp) ?_
            go_simp
            refine anyIn_one (i := 8) (by kernel_rfl) ?_
            refine opIn_value (.agg cs.toArray) rfl (by kernel_rfl) (fun _ h => by cases h) (run_load_mid 58 (.tmp 15) rfl b (off + 64 * x.val) rfl cs hld) ?_
            go_simp
            refine anyIn_one (i := 9) (by kernel_rfl) ?_
            refine opIn_round rfl (by kernel_rfl) (fun _ h => by cases h) (by go_simp) hR ?_
            rintro e V3 ⟨⟨k1, k2⟩, hres⟩
            have f2 : V3.heap[W.heap.size + 1]? = some (.cells #[.int .i64 (pre.length : Int)] 2 (0, 0)) := (k1.same _ (by omega) (by omega)).trans e2
            rcases hres with ⟨rfl, hJ3⟩ | ⟨rfl, hJ3⟩
            · refine ⟨_, rfl, ?_⟩
              go_simp
              refine anyIn_one (i := 10) (by kernel_rfl) ?_
              refine opIn_value (.bool false) rfl (by kernel_rfl) (fun _ h => by cases h) (by go_simp) ?_
              go_simp
              refine anyIn_one (i := 11) (by kernel_rfl) ?_
              refine opIn_value (.bool false) rfl (by kernel_rfl) (fun _ h => by cases h) (by go_simp) ?_
              go_simp
              refine anyIn_done (by kernel_rfl) ?_
              have g1 := Boxed.cell f2
              have g2 := Boxed.frozen f2
              gi_wp2
              exact cont V3 k1 k2 hJ3 f2
            · refine ⟨_, rfl, ?_⟩
              go_simp
              refine anyIn_one (i := 10) (by kernel_rfl) ?_
              refine opIn_value (.bool true) rfl (by kernel_rfl) (fun _ h => by cases h) (by go_simp) ?_
              go_simp
              refine anyIn_one (i := 11) (by kernel_rfl) ?_
              refine opIn_value (.bool true) rfl (by kernel_rfl) (fun _ h => by cases h) (by go_simp) ?_
              go_simp
              refine anyIn_done (by kernel_rfl) ?_
              gi_wp2
              exact stopd V3 k1 k2 hJ3
          · refine opIn_value (.agg cs.toArray) rfl (by kernel_rfl) (fun _ h => by cases h) (run_load_mid 58 (.tmp 15) rfl b (off + 64 * x.val) rfl cs hld) ?_
            go_simp
            refine anyIn_one (i := 4) (by kernel_rfl) ?_
            refine opIn_value (.func (.yield l) #[] #[]) rfl (by kernel_rfl) (fun _ h => by cases h) (by go_simp) ?_
            go_simp
            refine anyIn_one (i := 9) (by kernel_rfl) ?_
            refine opIn_round rfl (by kernel_rfl) (fun _ h => by cases h) (by go_simp) hR ?_
            rintro e V3 ⟨⟨k1, k2⟩, hres⟩
            have f2 : V3.heap[W.heap.size + 1]? = some (.cells #[.int .i64 (pre.length : Int)] 2 (0, 0)) := (k1.same _ (by omega) (by omega)).trans e2
            rcases hres with ⟨rfl, hJ3⟩ | ⟨rfl, hJ3⟩
            · refine ⟨_, rfl, ?_⟩
              go_simp
              refine anyIn_one (i := 10) (by kernel_rfl) ?_
              refine opIn_value (.bool false) rfl (by kernel_rfl) (fun _ h => by cases h) (by go_simp) ?_
              go_simp
              refine anyIn_one (i := 11) (by kernel_rfl) ?_
              refine opIn_value (.bool false) rfl (by kernel_rfl) (fun _ h => by cases h) (by go_simp) ?_
              go_simp
              refine anyIn_done (by kernel_rfl) ?_
              have g1 := Boxed.cell f2
              have g2 := Boxed.frozen f2
              gi_wp2
              exact cont V3 k1 k2 hJ3 f2
            · refine ⟨_, rfl, ?_⟩
              go_simp
              refine anyIn_one (i := 10) (by kernel_rfl) ?_
              refine opIn_value (.bool true) rfl (by kernel_rfl) (fun _ h => by cases h) (by go_simp) ?_
              go_simp
              refine anyIn_one (i := 11) (by kernel_rfl) ?_
              refine opIn_value (.bool true) rfl (by kernel_rfl) (fun _ h => by cases h) (by go_simp) ?_
              go_simp
              refine anyIn_done (by kernel_rfl) ?_
              gi_wp2
              exact stopd V3 k1 k2 hJ3
        · refine opIn_value (.agg cs.toArray) rfl (by kernel_rfl) (fun _ h => by cases h) (run_load_mid 58 (.tmp 15) rfl b (off + 64 * x.val) rfl cs hld) ?_
          go_simp
          refine anyIn_two (i := 4) (j := 5) (by kernel_rfl) ?_ ?_
          · refine opIn_value (.func (.yield l) #[] #[]) rfl (by kernel_rfl) (fun _ h => by cases h) (by go_simp) ?_
            go_simp
            refine anyIn_one (i := 5) (by kernel_rfl) ?_
            refine opIn_value (.int .i64 (pre.length : Int)) rfl (by kernel_rfl) (fun _ h => by cases h) (by go_simp) ?_
            go_simp
            refine anyIn_one (i := 9) (by kernel_rfl) ?_
            refine opIn_round rfl (by kernel_rfl) (fun _ h => by cases h) (by go_simp) hR ?_
            rintro e V3 ⟨⟨k1, k2⟩, hres⟩
            have f2 : V3.heap[W.heap.size + 1]? = some (.cells #[.int .i64 (pre.length : Int)] 2 (0, 0)) := (k1.same _ (by omega) (by omega)).trans e2
            rcases hres with ⟨rfl, hJ3⟩ | ⟨rfl, hJ3⟩
            · refine ⟨_, rfl, ?_⟩
              go_simp
              refine anyIn_one (i := 10) (by kernel_rfl) ?_
              refine opIn_value (.bool false) rfl (by kernel_rfl) (fun _ h => by cases h) (by go_simp) ?_
              go_simp
              refine anyIn_one (i := 11) (by kernel_rfl) ?_
              refine opIn_value (.bool false) rfl (by kernel_rfl) (fun _ h => by cases h) (by go_simp) ?_
              go_simp
              refine anyIn_done (by kernel_rfl) ?_
              have g1 := Boxed.cell f2
              have g2 := Boxed.frozen f2
              gi_wp2
              exact cont V3 k1 k2 hJ3 f2
            · refine ⟨_, rfl, ?_⟩
              go_simp
              refine anyIn_one (i := 10) (by kernel_rfl) ?_
              refine opIn_value (.bool true) rfl (by kernel_rfl) (fun _ h => by cases h) (by go_simp) ?_
              go_simp
              refine anyIn_one (i := 11) (by kernel_rfl) ?_
              refine opIn_value (.bool true) rfl (by kernel_rfl) (fun _ h => by cases h) (by go_simp) ?_
              go_simp
              refine anyIn_done (by kernel_rfl) ?_
              gi_wp2
              exact stopd V3 k1 k2 hJ3
          · refine opIn_value (.int .i64 (pre.length : Int)) rfl (by kernel_rfl) (fun _ h => by cases h) (by go_simp) ?_
            go_simp
            refine anyIn_one (i := 4) (by kernel_rfl) ?_
            refine opIn_value (.func (.yield l) #[] #[]) rfl (by kernel_rfl) (fun _ h => by cases h) (by go_simp) ?_
            go_simp
            refine anyIn_one (i := 9) (by kernel_rfl) ?_
            refine opIn_round rfl (by kernel_rfl) (fun _ h => by cases h) (by go_simp) hR ?_
            rintro e V3 ⟨⟨k1, k2⟩, hres⟩
            have f2 : V3.heap[W.heap.size + 1]? = some (.cells #[.int .i64 (pre.length : Int)] 2 (0, 0)) := (k1.same _ (by omega) (by omega)).trans e2
            rcases hres with ⟨rfl, hJ3⟩ | ⟨rfl, hJ3⟩
            · refine ⟨_, rfl, ?_⟩
              go_simp
              refine anyIn_one (i := 10) (by kernel_rfl) ?_
              refine opIn_value (.bool false) rfl (by kernel_rfl) (fun _ h => by cases h) (by go_simp) ?_
              go_simp
              refine anyIn_one (i := 11) (by kernel_rfl) ?_
              refine opIn_value (.bool false) rfl (by kernel_rfl) (fun _ h => by cases h) (by go_simp) ?_
              go_simp
              refine anyIn_done (by kernel_rfl) ?_
              have g1 := Boxed.cell f2
              have g2 := Boxed.frozen f2
              gi_wp2
              exact cont V3 k1 k2 hJ3 f2
            · refine ⟨_, rfl, ?_⟩
              go_simp
              refine anyIn_one (i := 10) (by kernel_rfl) ?_
              refine opIn_value (.bool true) rfl (by kernel_rfl) (fun _ h => by cases h) (by go_simp) ?_
              go_simp
              refine anyIn_one (i := 11) (by kernel_rfl) ?_
              refine opIn_value (.bool true) rfl (by kernel_rfl) (fun _ h => by cases h) (by go_simp) ?_
              go_simp
              refine anyIn_done (by kernel_rfl) ?_
              gi_wp2
              exact stopd V3 k1 k2 hJ3
  case done =>
    rintro M D xs V hD hS ⟨⟨zs, hz, hJz⟩, ⟨e1, e2⟩, e3⟩ hK
    gi_wp2
    refine ⟨by simp, .inl ⟨_, _, rfl, run_takeDeferred hK, ?_⟩⟩
    have hl : xs.length = K := by have := congrArg List.length hS; simpa using this
    refine ⟨_, results_none rfl _ _ _, ⟨_, rfl⟩, .inl ⟨M, zs, by rw [hz, hS, hl], ?_⟩⟩
    exact (hJ M).putObj _ hJz (by omega) hK rfl
  case stop =>
    rintro M D c pre V hD _ ⟨rfl, zs, hx⟩ hK
    gi_wp2
    refine ⟨by simp, .inl ⟨_, _, rfl, run_takeDeferred hK, ?_⟩⟩
    refine ⟨_, results_none rfl _ _ _, ⟨_, rfl⟩, .inr ⟨M, zs, trivial, ?_⟩⟩
    exact (hJx M).putObj _ hx (by omega) hK rfl

end Go.Proofs.YtmfkgnifkkkkiaaDoor
