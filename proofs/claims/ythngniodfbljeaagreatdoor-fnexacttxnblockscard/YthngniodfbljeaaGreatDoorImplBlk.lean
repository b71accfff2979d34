/- Several short texts in one: ImplLen, ImplBlk. -/
import Derived.Test.YthngniodfbljeaaGreatDoorImplOf
import Derived.Test.YthngniodfbljeaaGreatDoorTagOwn
namespace Go.Proofs.YthngniodfbljeaaGreatDoor
open Go.RowKit Go.Shelf
attribute [local go_sem] Oper.semAt_some

/-- One more than the last place. -/
def lastP {K : Nat} (pre : List (Fin 1000 × Fin K)) : Int := (pre.getLast?.map fun z => (z.1.val : Int) + 1).getD 0
theorem lastP_snoc {K : Nat} (pre : List (Fin 1000 × Fin K)) (x : Fin 1000 × Fin K) : lastP (pre ++ [x]) = (x.1.val : Int) + 1 := by unfold lastP; simp
theorem diag_succ (n : Nat) : diag (n + 1) = diag n ++ [(n, n)] := by unfold diag; rw [List.range_succ, List.map_append]; rfl
theorem diag_mem {n : Nat} {p : Nat × Nat} (h : p ∈ diag n) : p.1 = p.2 ∧ p.1 < n := by
  unfold diag at h
  obtain ⟨i, hi, rfl⟩ := List.mem_map.1 h
  exact ⟨rfl, List.mem_range.1 hi⟩
theorem diag_has {n i : Nat} (h : i < n) : (i, i) ∈ diag n := by unfold diag; exact List.mem_map.2 ⟨i, List.mem_range.2 h, rfl⟩
theorem lastP_diag {K n : Nat} {zs : List (Fin 1000 × Fin K)} (h : vals2 zs = diag n) : lastP zs = (n : Int) := by
  have e : lastP zs = ((vals2 zs).getLast?.map fun z => (z.1 : Int) + 1).getD 0 := by
    unfold lastP vals2
    rw [List.getLast?_map]
    cases zs.getLast? <;> rfl
  rw [e, h]
  cases n with
  | zero => rfl
  | succ n => rw [diag_succ]; simp

/-- What the loop keeps. -/
structure LnI (w : World) (room : Int) (K : Nat) (pre : List (Fin 1000 × Fin K)) (V : World) : Prop where
  br : V.heap[w.heap.size + 1]? = some (.cells #[.int .i64 room] 2 (0, 0))
  rs : V.heap[w.heap.size + 1 + 1]? = some (.cells #[.int .i64 0] 2 (0, 0))
  ln : V.heap[w.heap.size + 3]? = some (.cells #[.int .i64 (lastP pre)] 2 (0, 0))
  no : ∀ z ∈ pre, (z.1.val : Int) ≠ room
  ch : Chg 0 0 w V
structure LnX (w : World) (room : Int) (K : Nat) (c : Code) (pre : List (Fin 1000 × Fin K)) (V : World) : Prop where
  c : c = .ret
  rs : V.heap[w.heap.size + 1 + 1]? = some (.cells #[.int .i64 0] 2 (0, 0))
  at' : ∃ z ∈ pre, (z.1.val : Int) = room
  ch : Chg 0 0 w V
theorem run_load64 {w : World} {b : Nat} {v : Int} (h : w.heap[b]? = some (.cells #[.int .i64 v] 2 (0, 0))) : (loadVar 2 ⟨b, 0, none⟩).run Tryz.prog w = .ok (.int .i64 v) w := by
  have ha := Boxed.cell h
  simp [loadVar, isAgg, underlying, Tryz.underlying2, ha, Result.andThen]

end Go.Proofs.YthngniodfbljeaaGreatDoor

namespace Go.Proofs.YthngniodfbljeaaGreatDoor
open Go.RowKit Go.Shelf
attribute [local go_sem] Oper.semAt_some

/-- append of bytes that are seen to bytes that are one's own: what else stands. -/
theorem wp_app_seenG {o : Oper} {a : Act} {w : World} {K : Act → World → Prop} {Q : Exit → Act → World → Prop} (s x : Operand)
    (ho : o.op = .call { callee := .builtin .append, args := #[s, x], argTypes := #[27, 27] })
    (base : Nat) (sv : Value) (xs : List Int) (hs : a.eval s = sv) (hO : OwnB w base 5 sv xs) (hbase : base ≤ w.heap.size) (lo hi : Nat) (xv : Value) (ys : List Int) (hx : a.eval x = xv) (hv : View w lo hi .u8 xv ys) (hy : 0 < ys.length) (hl : xs.length + ys.length ≤ 1048576)
    (h : ∀ v' w', OwnB w' base 5 v' (xs ++ ys) → w.grownBy w' sv.ownBlock → K (a.put o.dst v') w') : o.wp Tryz.prog a w K Q := by
  obtain ⟨i, hi, hz0, hz1, hz2⟩ := info_parts Tryz.infoU1
  obtain ⟨ao, cap, rfl, _, _, hcell⟩ := hv
  obtain ⟨b, off, rfl, hc⟩ : ∃ b off, ao = some ⟨b, off, none⟩ ∧ ∀ i, i < ys.length → w.cell? ⟨b, off + i, none⟩ = some (.int .u8 (ys.getD i 0)) := by
    rcases hcell with e | ⟨b, off, e, _, _, h3⟩
    · rw [e] at hy; simp at hy
    · exact ⟨b, off, e, h3⟩
  have HNW : ∀ j u, (ys.map (Value.int .u8))[j]? = some u → w.cell? ((⟨b, off, none⟩ : Addr).add j) = some u := by
    intro j u hj
    have hjl : j < ys.length := by have := (List.getElem?_eq_some_iff.1 hj).1; simpa using this
    rw [Addr.add_mid, hc j hjl, ← hj]
    simp [List.getD_eq_getElem?_getD, hjl]
  have hrow : w.ownsRow base 5 1 sv xs.length (xs.map (Value.int .u8)) := hO
  refine wp_append_own _ s x 27 ho base 5 i (.int .u8 0) 1 1 Tryz.underlying27 hi hz0 hz1 hz2 rfl (by decide) sv xs.length (xs.map (Value.int .u8)) hs hrow ⟨b, off, none⟩ ys.length cap (ys.map (Value.int .u8)) hx (by simp) HNW (ints_oneCell _ _) (by unfold maxLen; omega) (by omega) hbase ?_
  intro v' w2 hown hgrow _
  refine h v' w2 ?_ hgrow
  unfold OwnB
  rw [List.length_append, List.map_append]
  exact hown

theorem OwnB.shape {w : World} {base : Nat} {e : TypeId} {v : Value} {xs : List Int} (h : OwnB w base e v xs) : ∃ ao cap, v = .slice ao xs.length cap := by
  obtain ⟨_, h2⟩ := h
  rcases h2 with ⟨rfl, h0⟩ | ⟨g, cap, cur, rfl, _⟩
  · exact ⟨none, 0, by rw [h0]⟩
  · exact ⟨_, cap, rfl⟩

/-- The bytes of these blocks. -/
def bksL (tl : List (List Int)) (pre : List (Fin 1000 × Fin tl.length)) : List Int := (pre.map fun z => tl.getD z.2.val []).flatten
theorem bksL_snoc (tl : List (List Int)) (pre : List (Fin 1000 × Fin tl.length)) (x : Fin 1000 × Fin tl.length) : bksL tl (pre ++ [x]) = bksL tl pre ++ tl.getD x.2.val [] := by unfold bksL; simp
theorem getD_mem {tl : List (List Int)} (i : Fin tl.length) : tl.getD i.val [] ∈ tl := by
  have h := i.isLt
  rw [show tl.getD i.val [] = tl[i.val] by simp [List.getD_eq_getElem?_getD, h]]
  exact List.getElem_mem h
theorem bksL_len {tl : List (List Int)} (h : ∀ b ∈ tl, b.length = 64) (pre : List (Fin 1000 × Fin tl.length)) : (bksL tl pre).length = 64 * pre.length := by
  unfold bksL
  induction pre with
  | nil => rfl
  | cons x pre ih => rw [List.map_cons, List.flatten_cons, List.length_append, h _ (getD_mem x.2), ih, List.length_cons]; omega
theorem bksL_all {tl : List (List Int)} {zs : List (Fin 1000 × Fin tl.length)} (h : vals2 zs = diag tl.length) : bksL tl zs = tl.flatten := by
  unfold bksL
  congr 1
  have e : (zs.map fun z => tl.getD z.2.val []) = (vals2 zs).map fun p => tl.getD p.2 [] := by unfold vals2; rw [List.map_map]; rfl
  rw [e, h]
  unfold diag
  rw [List.map_map]
  apply List.ext_getElem
  · simp
  · intro i h1 h2
    simp [List.getD_eq_getElem?_getD, h2]

/-- What the loop keeps. -/
structure BkI (w : World) (tl : List (List Int)) (M : Nat) (pre : List (Fin 1000 × Fin tl.length)) (V : World) : Prop where
  out : ∃ ov, V.heap[w.heap.size + 1]? = some (.cells #[ov] 27 (0, 0)) ∧ OwnB V M 5 ov (bksL tl pre)
  ch : Chg 0 0 w V
  m : w.heap.size ≤ M

set_option maxRecDepth 100000 in
set_option maxHeartbeats 4000000 in
theorem implTxnBlocks_calls (w : World) {lo hi : Nat} {a : Value} {t : Tx} (hl : cntT t ≤ 1048576) (hhi : hi ≤ w.heap.size) (hby : ∀ x ∈ t.homes, Byt x.2) (hM : Mag w) (h1 : TView w lo hi a t) :
    Calls Tryz.prog 7 #[a] w fun e w' => ∃ v, e = .returned v ∧ OwnB w' w.heap.size 5 v (TL t).flatten ∧ Chg 0 0 w w' := by
  obtain ⟨hv, rv, rfl, p1, v1⟩ := h1
  have hMl := hM.lt
  obtain ⟨h57, h64⟩ := TL_len hby
  have cA : Chg 0 0 w ((w.alloc (.cells #[.int .i64 t.seq, hv, rv] 31)).alloc (.cells #[.slice none 0 0] 27)) := (Chg.alloc (Chg.refl 0 0 w) _).alloc _
  obtain ⟨z1, z2, z3⟩ := alloc2 w (.cells #[.int .i64 t.seq, hv, rv] 31) (.cells #[.slice none 0 0] 27)
  refine (callsIn_wide (n := 0)).1 ?_
  refine callsIn_of_wp_marks Tryz.func7 rfl trivial ?_ rfl
  simp only [Tryz.ntmps7, List.size_toArray, List.length_cons, List.length_nil, Nat.reduceAdd, Nat.reduceSub, Array.replicate_succ, Array.replicate_zero, List.push_toArray, List.append_toArray, List.nil_append, List.cons_append]
  gi_wp2
  generalize (w.alloc (.cells #[.int .i64 t.seq, hv, rv] 31)).alloc (.cells #[.slice none 0 0] 27) = wA at *
  have y3 := heap_new wA (.cells #[.int .i64 t.seq, hv, rv] 31)
  have cB : Chg 0 0 wA (wA.alloc (.cells #[.int .i64 t.seq, hv, rv] 31)) := Chg.alloc (Chg.refl 0 0 wA) _
  have sB : (wA.alloc (.cells #[.int .i64 t.seq, hv, rv] 31)).heap.size = w.heap.size + 3 := by simp [z1]
  refine ⟨trivial, rfl, (callsIn_wide.2 (blocksOf_calls _ _ _ _)).mono ?_⟩
  rintro e w1 ⟨rfl, rfl⟩
  rw [z1] at y3 ⊢
  generalize wA.alloc (.cells #[.int .i64 t.seq, hv, rv] 31) = wL at *
  have cL : Chg 0 0 w wL := cA.trans cB
  have x3 := (cB.block _ (by omega) (by omega)).trans z3
  have hseq := of_seq (w.heap.size + 2) lo hi t hv rv wL hl hby (hM.chg cL (by omega)) y3 (p1.chg cL (by omega)) (v1.chg cL (by omega)) (by omega)
  clear cB z2 z3 z1 cA
  gi_wp2
  have hI' : ∀ M : Nat, OwnFrom wL.heap.size (BkI w (TL t) M) := by
    rintro M pre A C row ⟨⟨ov, hb, ho⟩, hch, hm⟩ hg hr
    have hne : ∀ k, k < w.heap.size + 3 → some k ≠ row := fun k hk e => by have := (hr _ e.symm).1; omega
    refine ⟨⟨ov, (hg.block _ (Array.getElem?_eq_some_iff.1 hb).1 (hne _ (by omega))).trans hb, ho.grown hg (fun g e hv => ?_)⟩, ?_, hm⟩
    · obtain ⟨o, h1, h2⟩ := (hr g e).2
      obtain ⟨cur, h3⟩ := ho.elem hv
      rw [h1] at h3; cases h3; cases h2
    · exact ⟨hg.os.trans hch.os, hg.tape.trans hch.tape, hg.output.trans hch.output, Nat.le_trans hch.size hg.size, fun k hk ho => (hg.block k (Nat.lt_of_lt_of_le hk hch.size) (hne _ (by omega))).trans (hch.block k hk ho)⟩
  refine range_ownM (n := 0) (Kp := KpT (KA (w.heap.size + 2) lo hi) (wL.heap.size + 2)) (gf := 41) (lb := #[.pointer (some ⟨w.heap.size + 2, 0, none⟩)]) rfl (enters_of Tryz.func41 (by kernel_rfl) rfl)
    hseq (fun h => h) (Below.refl _ _) (fun _ => rfl) KpT.trans (fun V o _ hb => KpT.put o hb (fun k hk => by unfold KA at hk; omega) (by omega))
    (fun M => BkI w (TL t) M) (fun _ _ _ _ => False)
    hI' (fun _ _ _ _ _ _ h _ _ => h) ?hIF (fun _ _ _ _ _ h _ _ => h) ?h0
    (fun x a' V => ∃ Bx, wL.heap.size ≤ Bx ∧ V.heap[Bx]? = some (.cells (((TL t).getD x.2.val []).map (Value.int .u8)).toArray 52 (0, 0)) ∧ a' = { tmps := #[.agg #[.int .i64 t.seq, hv, rv], .pointer (some ⟨w.heap.size, 0, none⟩), .slice none 0 0, .pointer (some ⟨w.heap.size + 1, 0, none⟩), undef, .pointer (some ⟨Bx, 0, none⟩), .agg #[.int .i64 t.seq, hv, rv], .func (.func 41) #[] #[.pointer (some ⟨w.heap.size + 2, 0, none⟩)], .int .i64 (x.1.val : Int), .agg (((TL t).getD x.2.val []).map (Value.int .u8)).toArray, undef, undef, undef, undef], defers := [] })
    ?hAx ?assign ?body ?done (fun _ _ _ _ _ _ _ h _ => h.elim)
  case hIF =>
    rintro M zs A C ⟨⟨ov, hb, ho⟩, hch, hm0⟩ hc hm
    exact ⟨⟨ov, (hc.block _ (Array.getElem?_eq_some_iff.1 hb).1 (by omega)).trans hb, ho.chg hc (fun g hg => Or.inr (ho.lt g hg).1)⟩, hch.step hc (by omega), hm0⟩
  case h0 =>
    intro V hV hsz
    exact ⟨⟨_, (hV.block _ (by omega)).trans x3, OwnB.nil _ _ _⟩, cL.step (Chg.ofBelow hV 0 0) (by omega), by omega⟩
  case hAx =>
    rintro x a' _ A C row ⟨Bx, h1, h2, h3⟩ hg hr
    exact ⟨Bx, h1, cells_stay h2 hg (fun r e => (hr r e).2), h3⟩
  case assign =>
    rintro M l' zs x V K' hM' hMV hi' hK'
    simp only [encT]
    have hln : (((TL t).getD x.2.val []).map (Value.int .u8)).length = 64 := by rw [List.length_map]; exact h64 _ (getD_mem x.2)
    have h1c : ∀ v ∈ ((TL t).getD x.2.val []).map (Value.int .u8), v.oneCell' = true := ints_oneCell _ _
    have hics : (Tryz.prog.info? 52).map (·.size) = some (((TL t).getD x.2.val []).map (Value.int .u8)).length := by rw [hln]; kernel_rfl
    generalize ((TL t).getD x.2.val []).map (Value.int .u8) = cs at *
    gi_wp2_with (refine wpListIn_plain rfl fun K hK => ?_; refine opIn_of (fun _ h => by cases h) ?_; refine wp_store_row 52 (.tmp 5) (.tmp 9) rfl rfl V.heap.size rfl cs _ 52 rfl (heap_new V _) (by rw [hln]; rfl) hics h1c ?_; intro wg hbg hcg; refine hK _ _ ?_)
    have cv : Chg 0 0 V wg := (Chg.alloc (Chg.refl 0 0 V) _).step hcg (Or.inr (Or.inl (Nat.le_refl _)))
    refine hK' _ _ (KeepM.chg cv hMV (by omega)) (KpT.chg0 cv (fun k hk => by unfold KA at hk; omega)) ?_ ⟨V.heap.size, by omega, hbg, rfl⟩
    exact hI' M _ V wg none hi' (chg_grown cv) (fun r e => by cases e)
  case body =>
    rintro M l' zs x a' V hM' hMV ⟨⟨ov, hob, hoo⟩, hch, hm⟩ ⟨Bx, hBx, hbx, rfl⟩ hlen
    have hmx : Tryz.prog.follows .mixedOrders = true := by kernel_rfl
    have HSn := bksL_snoc (TL t) zs x
    have hbl := bksL_len h64 zs
    have hb64 : ((TL t).getD x.2.val []).length = 64 := h64 _ (getD_mem x.2)
    obtain ⟨blk, hblk⟩ : ∃ blk, blk = (TL t).getD x.2.val [] := ⟨_, rfl⟩
    rw [← hblk] at HSn hb64 hbx ⊢
    have HSn' : Hid (bksL (TL t) (zs ++ [x]) = bksL (TL t) zs ++ blk) := HSn
    have Hbl : Hid ((bksL (TL t) zs).length = 64 * zs.length) := hbl
    have Hb64 : Hid (blk.length = 64) := hb64
    have HbX : Hid (V.heap[Bx]? = some (.cells (blk.map (Value.int .u8)).toArray 52 (0, 0))) := hbx
    have Hob : Hid (V.heap[w.heap.size + 1]? = some (.cells #[ov] 27 (0, 0))) := hob
    have hsV := hch.size
    have HKl : Hid (∀ k, KA (w.heap.size + 2) lo hi k → k < wL.heap.size ∧ k ≠ w.heap.size + 1) := fun k hk => by unfold KA at hk; omega
    clear hblk HSn hbl hb64 hbx hob hseq
    obtain ⟨cs, Hcs⟩ : ∃ cs, Hid (cs = (blk.map (Value.int .u8)).toArray) := ⟨_, rfl⟩
    rw [← Hcs.out] at HbX ⊢
    gi_wp2
    refine heldR_region (fun _ : World => True) hmx ?_
    have zdo : V.drew.heap[w.heap.size + 1]? = some (.cells #[ov] 27 (0, 0)) := Hob.out
    have zdb : V.drew.heap[Bx]? = some (.cells cs 52 (0, 0)) := HbX.out
    have zoo : OwnB V.drew M 5 ov (bksL (TL t) zs) := hoo
    have cd : Chg 0 0 V V.drew := Chg.drew (Chg.refl _ _ V)
    have sd : V.drew.heap.size = V.heap.size := rfl
    have HK : Hid (∀ k : Nat, V.drew.heap[k]? = V.heap[k]?) := fun k => rfl

    generalize V.drew = X at *
    refine heldR_take 1 (.slice (some ⟨Bx, 0, none⟩) 64 64) rfl (by kernel_rfl) (by kernel_rfl) (by kernel_rfl) (by kernel_rfl) (fun _ _ _ h => h) (.inl ⟨by kernel_rfl, fun w' hw' => by go_simp⟩) trivial ?_
    go_simp
    have qs := Boxed.cell zdo
    refine heldR_one 0 rfl (by kernel_rfl) rfl (by kernel_rfl) ?_
    go_simp
    refine heldR_one 2 rfl (by kernel_rfl) rfl (by kernel_rfl) ?_
    have hvw : View X Bx (Bx + 1) .u8 (.slice (some ⟨Bx, 0, none⟩) 64 64) blk := by
      rw [Hcs.out] at zdb
      have h := row_view zdb 0 64 64 (by rw [Hb64.out]; omega) (by rw [Hb64.out]; omega) (Nat.le_refl _)
      rwa [List.drop_zero, List.take_of_length_le (by rw [Hb64.out]; exact Nat.le_refl _)] at h
    have hovM := zoo.lt
    refine wp_app_seenG (.tmp 10) (.tmp 11) rfl M ov (bksL (TL t) zs) rfl zoo (by omega) Bx (Bx + 1) (.slice (some ⟨Bx, 0, none⟩) 64 64) blk rfl hvw (by rw [Hb64.out]; omega) (by rw [Hbl.out, Hb64.out]; omega) ?_
    intro v' X2 o2 g2
    refine ⟨trivial, ?_⟩
    obtain ⟨va, vc, rfl⟩ := o2.shape
    generalize (bksL (TL t) zs ++ blk).length = vn at *
    have hnv : ∀ k, k < M → some k ≠ ov.ownBlock := fun k hk e => by have := (hovM k e.symm).1; omega
    have zf : X2.heap[w.heap.size + 1]? = some (.cells #[ov] 27 (0, 0)) := (g2.block _ (by omega) (hnv _ (by omega))).trans zdo
    have e1 := Boxed.cell zf
    have e2 := Boxed.frozen zf
    have HFin : Hid ((KeepM wL.heap.size M V (X2.setCell ⟨w.heap.size + 1, 0, none⟩ (.slice va vn vc)) ∧ KpT (KA (w.heap.size + 2) lo hi) (wL.heap.size + 2) V (X2.setCell ⟨w.heap.size + 1, 0, none⟩ (.slice va vn vc))) ∧ BkI w (TL t) M (zs ++ [x]) (X2.setCell ⟨w.heap.size + 1, 0, none⟩ (.slice va vn vc))) := by
      have key : ∀ k : Nat, k < V.heap.size → k ≠ w.heap.size + 1 → some k ≠ ov.ownBlock → (X2.setCell ⟨w.heap.size + 1, 0, none⟩ (.slice va vn vc)).heap[k]? = V.heap[k]? := fun k hk h1 h2 => (Below.heap_setCell _ _ _ _ (by simpa using h1)).trans ((g2.block k (by omega) h2).trans (HK.out k))
      have hsz : (X2.setCell ⟨w.heap.size + 1, 0, none⟩ (.slice va vn vc)).heap.size = X2.heap.size := by simp
      have hs2 := g2.size
      have cY : Chg w.heap.size V.heap.size V (X2.setCell ⟨w.heap.size + 1, 0, none⟩ (.slice va vn vc)) := by
        have c2 : Chg w.heap.size V.heap.size X X2 := ⟨g2.os, g2.tape, g2.output, g2.size, fun k hk ho => g2.block k hk (fun e => by have := (hovM k e.symm); omega)⟩
        exact ((cd.widen (by omega) (by omega)).trans c2).setCell (p := ⟨w.heap.size + 1, 0, none⟩) (Or.inl ⟨by show w.heap.size ≤ w.heap.size + 1; omega, by show w.heap.size + 1 < V.heap.size; omega⟩) _
      refine ⟨⟨⟨by omega, fun k h1 h2 => key k (by omega) (by omega) (hnv k h2)⟩, fun k hk => ?_, fun k cs' ty fr ht e => ?_, fun k o _ e ho => ?_⟩, ⟨_, Boxed.set _ zf, ?_⟩, hch.step cY (by omega), hm⟩
      · obtain ⟨h1, h2⟩ := HKl.out k hk
        exact key k (by omega) h2 (hnv k (by omega))
      · refine key k (Array.getElem?_eq_some_iff.1 e).1 (fun h => ?_) (fun h => ?_)
        · rw [h, Hob.out] at e; cases e; exact absurd ht (by unfold tyA; decide)
        · obtain ⟨cur, h3⟩ := hoo.elem h.symm
          rw [h3] at e; cases e; exact absurd ht (by unfold tyA; decide)
      · refine key k (Array.getElem?_eq_some_iff.1 e).1 (fun h => ?_) (fun h => ?_)
        · rw [h, Hob.out] at e; cases e; cases ho
        · obtain ⟨cur, h3⟩ := hoo.elem h.symm
          rw [h3] at e; cases e; cases ho
      · rw [HSn'.out]
        exact o2.set (fun e => by have := (o2.lt _ e).1; simp at this; omega) _
    clear o2 g2 zf zdo zdb zoo hovM hnv hvw hoo hch HK qs
    go_simp
    refine heldR_one 3 rfl (by kernel_rfl) rfl (by kernel_rfl) ?_
    go_simp
    refine heldR_done (by kernel_rfl) ?_
    refine OnlyN.mk ?_
    gi_wp2
    exact HFin.out
  case done =>
    rintro M D zs V hD hS ⟨⟨ov, hob, hoo⟩, hch, hm⟩ hK'
    rw [bksL_all hS] at hoo
    have q1 := Boxed.cell hob
    have Hoo : Hid (OwnB V M 5 ov (TL t).flatten) := hoo
    have Hch : Hid (Chg 0 0 w V) := hch
    clear hoo hch hob
    gi_wp2
    refine ⟨by simp, .inl ⟨_, _, rfl, run_takeDeferred hK', ?_⟩⟩
    refine ⟨_, results_tmp rfl _ _ _, ov, rfl, OwnB.base (ownsRow_putObj Hoo.out _ hK' rfl) (fun g hg => by have := (Hoo.out.lt g hg).1; omega), ?_⟩
    exact Hch.out.step (l := D) (r := D + 1) ⟨rfl, rfl, rfl, by simp, fun k _ ho => World.putObj_heap_other (by omega)⟩ (by omega)

end Go.Proofs.YthngniodfbljeaaGreatDoor
