/- Several short texts in one: RoundHeld, ImplLay. -/
import Derived.Test.YtmfkgnifkkkkiaaDoorImplPieces
import Derived.Test.YtmfkgnifkkkkiaaDoorEncRow
import Derived.Test.YtmfkgnifkkkkiaaDoorImplCut
import Derived.Test.YtmfkgnifkkkkiaaDoorBytesOf
namespace Go.Proofs.YtmfkgnifkkkkiaaDoor
open Go.RowKit Go.Shelf

/-- It comes to its end. -/
def OnlyN (Q : Exit → Act → World → Prop) : Exit → Act → World → Prop
  | .normal, a, w => Q .normal a w
  | _, _, _ => False
theorem OnlyN.imp {Q : Exit → Act → World → Prop} : ∀ (e : Exit) (a : Act) (w : World), OnlyN Q e a w → Q e a w := fun e a w h => by
  cases e <;> first | exact h | exact (h : False).elim

def noDefer (ops : Array Oper) : Bool := ops.all fun o => match o.op with | .defer _ => false | _ => true
theorem noDefer_spec {ops : Array Oper} (h : noDefer ops = true) {i : Nat} {o : Oper} (hi : ops[i]? = some o) : ∀ c, o.op ≠ .defer c := by
  intro c hc
  obtain ⟨hlt, rfl⟩ := Array.getElem?_eq_some_iff.1 hi
  have := Array.all_eq_true.1 h i hlt
  rw [hc] at this
  cases this

section
variable {P : Program} {n l : Nat} {ops : Array Oper} {Q : Exit → Act → World → Prop} {S : World → Prop}

theorem opIn_of {o : Oper} {a : Act} {w : World} {K : Act → World → Prop} (hd : ∀ c, o.op ≠ .defer c) (h : o.wp P a w K Q) : o.wpIn (Fence.wide.inRound l) n P a w K Q := by
  unfold Oper.wp at h
  refine ⟨fun _ _ => trivial, ?_⟩
  rw [Fence.inRound_round, Oper.semAt_some l a.eval o hd]
  generalize (execOp a.eval o).run P w = r at h ⊢
  cases r with
  | ok x w' =>
    cases x with
    | value v => exact h
    | skip => exact h
    | defer d => exact h
    | enter f args => exact ⟨(fun h => by cases h), callsIn_wide.2 h⟩
    | row row args => exact ⟨(fun h => by cases h), fun c cs _ => let ⟨v, w'', r, s⟩ := h c cs; ⟨v, w'', r, stepsIn_wide.2 s⟩⟩
    | _ => exact (h : False).elim
  | halt x w' => cases x <;> first | exact h | exact (h : False).elim

theorem anyIn_of (hn : noDefer ops = true) : ∀ (fuel : Nat) (listed : Array Bool) (a : Act) (w : World), wpAnyH P .any ops (OnlyN Q) S fuel listed a w → wpAnyIn (Fence.wide.inRound l) n P .any ops (OnlyN Q) fuel listed a w
  | 0, _, _, _, h => h
  | fuel + 1, listed, a, w, h => ⟨h.1, fun i hi => by
      have h2 := h.2 i hi
      unfold wpOp at h2
      unfold wpOpIn
      cases ho : ops[i]? with
      | none =>
        simp only [ho] at h2 ⊢
        exact anyIn_of hn fuel _ _ _ h2.2
      | some o =>
        simp only [ho] at h2 ⊢
        by_cases hw : Region.wanted o (yielded ops a.tmps) = true
        · rw [if_pos hw] at h2 ⊢
          rcases h2 with h2 | ⟨_, _, _, hf⟩
          · exact Oper.wpIn_mono (fun a' w' h' => anyIn_of hn fuel _ _ _ h'.2) (opIn_of (noDefer_spec hn ho) h2)
          · exact (hf : False).elim
        · rw [if_neg hw] at h2 ⊢
          exact ⟨fun _ _ => trivial, anyIn_of hn fuel _ _ _ h2.2⟩⟩

theorem round_region (S : World → Prop) {id : Nat} {a : Act} {w : World} (hm : P.follows .mixedOrders = true) (hn : noDefer ops = true)
    (h : wpAnyH P .any ops (OnlyN Q) S ops.size (Array.replicate ops.size false) a w.drew) : (Code.region id ops true).wpIn (Fence.wide.inRound l) n P Q a w :=
  wpIn_mono (wpIn_region_any hm (anyIn_of hn _ _ _ _ h)) OnlyN.imp
end

end Go.Proofs.YtmfkgnifkkkkiaaDoor

namespace Go.Proofs.YtmfkgnifkkkkiaaDoor
open Go.RowKit Go.Shelf
attribute [local go_sem] Oper.semAt_some

/-- The row with these blocks laid from block at on. -/
def layC (at' : Nat) (ys : List Int) : List (Nat × Nat) → List Value → List Value
  | [], c => c
  | z :: zs, c => layC at' ys zs (splice c ((at' + z.1) * 64) ((blkOf ys z.2).map (Value.int .u8)))
theorem layC_snoc (at' : Nat) (ys : List Int) : ∀ (zs : List (Nat × Nat)) (z : Nat × Nat) (c : List Value), layC at' ys (zs ++ [z]) c = splice (layC at' ys zs c) ((at' + z.1) * 64) ((blkOf ys z.2).map (Value.int .u8))
  | [], _, _ => rfl
  | _ :: zs, z, _ => layC_snoc at' ys zs z _
theorem splice_length {cur cs : List Value} {o : Nat} (h : o + cs.length ≤ cur.length) : (splice cur o cs).length = cur.length := by
  unfold splice; simp only [List.length_append, List.length_take, List.length_drop]; omega
theorem blkOf_length {ys : List Int} {K x : Nat} (hl : ys.length = 64 * K) (hx : x < K) : (blkOf ys x).length = 64 := by unfold blkOf; rw [List.length_take, List.length_drop]; omega
theorem layC_length {at' K nB : Nat} {ys : List Int} (hl : ys.length = 64 * K) (hat : at' + K ≤ nB) : ∀ (zs : List (Nat × Nat)) (c : List Value), (∀ z ∈ zs, z.1 < K ∧ z.2 < K) → c.length = nB * 64 → (layC at' ys zs c).length = nB * 64
  | [], _, _, h => h
  | z :: zs, _, hz, h => by
    obtain ⟨h1, h2⟩ := hz z (by simp)
    refine layC_length hl hat zs _ (fun y hy => hz y (by simp [hy])) ?_
    rw [splice_length (by rw [List.length_map, blkOf_length hl h2]; omega)]; exact h
theorem splice_splice {c xs ys : List Value} {o : Nat} (h : o + xs.length + ys.length ≤ c.length) : splice (splice c o xs) (o + xs.length) ys = splice c o (xs ++ ys) := by
  have e0 : (c.take o).length = o := by rw [List.length_take]; omega
  have e1 : (c.take o ++ xs).length = o + xs.length := by rw [List.length_append, e0]
  have A : (c.take o ++ (xs ++ c.drop (o + xs.length))).take (o + xs.length) = c.take o ++ xs := by
    rw [← List.append_assoc, List.take_append_of_le_length (by rw [e1]; exact Nat.le_refl _), List.take_of_length_le (by rw [e1]; exact Nat.le_refl _)]
  have B : (c.take o ++ (xs ++ c.drop (o + xs.length))).drop (o + xs.length + ys.length) = c.drop (o + xs.length + ys.length) := by
    rw [← List.append_assoc, List.drop_append, List.drop_eq_nil_of_le (by rw [e1]; omega), List.nil_append, e1, List.drop_drop]
    congr 1; omega
  unfold splice
  simp only [List.append_assoc] at A B ⊢
  rw [A, B, List.length_append, List.append_assoc, show o + (xs.length + ys.length) = o + xs.length + ys.length by omega]

theorem layC_range {at' K nB : Nat} {ys : List Int} {c : List Value} (hl : ys.length = 64 * K) (hat : at' + K ≤ nB) (hc : c.length = nB * 64) : ∀ k, k ≤ K → layC at' ys ((List.range k).zip (List.range k)) c = splice c (at' * 64) ((ys.take (64 * k)).map (Value.int .u8))
  | 0, _ => by show c = _; unfold splice; simp
  | k + 1, hk => by
    rw [List.range_succ, List.zip_append rfl]
    show layC at' ys (_ ++ [(k, k)]) c = _
    rw [layC_snoc, layC_range hl hat hc k (by omega)]
    have e : at' * 64 + ((ys.take (64 * k)).map (Value.int .u8)).length = (at' + k) * 64 := by rw [List.length_map, List.length_take]; omega
    rw [← e, splice_splice, ← List.map_append]
    · congr 2
      unfold blkOf
      rw [show 64 * (k + 1) = 64 * k + 64 by omega, List.take_add]
    · rw [List.length_map, List.length_map, List.length_take, blkOf_length hl (by omega)]; omega

set_option maxHeartbeats 1000000 in
theorem cutBlocks_calls (w : World) (ao : Option Addr) (n cap : Nat) :
    Calls Tryd.prog 51 #[.slice ao n cap] w fun e w' => e = .returned (.func (.func 63) #[] #[.pointer (some ⟨w.heap.size, 0, none⟩)]) ∧ w' = w.alloc (.cells #[.slice ao n cap] 24) := by
  go_enter Tryd.func51, Tryd.ntmps51
  go_wp2
  go_ret
  exact ⟨rfl, rfl⟩

/-- What the loop of lay keeps. -/
structure LayI (w : World) (p gD nB at' : Nat) (pv : Value) (cur : List Value) (V : World) : Prop where
  dv : V.heap[p]? = some (.cells #[.slice (some ⟨gD, 0, none⟩) nB nB, pv] 56 (0, 0))
  dr : V.heap[gD]? = some (.cells cur.toArray 58 (0, 0))
  bv : V.heap[w.heap.size]? = some (.cells #[.pointer (some ⟨p, 0, none⟩)] 52 (0, 0))
  ba : V.heap[w.heap.size + 1]? = some (.cells #[.int .i64 (at' : Int)] 2 (0, 0))
  ch : Chg gD (gD + 1) w V

theorem LayI.chg {w V V' : World} {p gD nB at' : Nat} {pv : Value} {cur : List Value} (h : LayI w p gD nB at' pv cur V) (c : Chg 0 0 V V') : LayI w p gD nB at' pv cur V' :=
  ⟨(c.block _ (Array.getElem?_eq_some_iff.1 h.dv).1 (by omega)).trans h.dv, (c.block _ (Array.getElem?_eq_some_iff.1 h.dr).1 (by omega)).trans h.dr, (c.block _ (Array.getElem?_eq_some_iff.1 h.bv).1 (by omega)).trans h.bv, (c.block _ (Array.getElem?_eq_some_iff.1 h.ba).1 (by omega)).trans h.ba, h.ch.step c (by omega)⟩

theorem there_sub {w : World} {g o n m : Nat} (h : w.there g 0 m) (hn : o + n ≤ m) : w.there g o n := by
  intro j hj
  have := h (o + j) (by omega)
  simpa using this

set_option maxRecDepth 100000 in
set_option maxHeartbeats 4000000 in
theorem lay_calls (w : World) (p gD nB at' b off cap K : Nat) (pv : Value) (cur : List Value) (ys : List Int) (hK : K ≤ 4096) (hK0 : 0 < K) (hnB : nB ≤ 2048) (hat : at' + K ≤ nB) (hcl : cur.length = nB * 64) (hcap : 64 * K ≤ cap) (hc2 : cap ≤ 9223372036854775807) (hys : ys.length = 64 * K)
    (hdv : w.heap[p]? = some (.cells #[.slice (some ⟨gD, 0, none⟩) nB nB, pv] 56 (0, 0))) (hdr : w.heap[gD]? = some (.cells cur.toArray 58 (0, 0))) (hpg : p ≠ gD) (hbg : b ≠ gD)
    (hb : ∀ i, i < ys.length → w.cell? ⟨b, off + i, none⟩ = some (.int .u8 (ys.getD i 0))) :
    Calls Tryd.prog 26 #[.pointer (some ⟨p, 0, none⟩), .int .i64 (at' : Int), .slice (some ⟨b, off, none⟩) (64 * K) cap] w fun e w' =>
      e = .returned (.tuple #[]) ∧ w'.heap[gD]? = some (.cells (splice cur (at' * 64) (ys.map (Value.int .u8))).toArray 58 (0, 0)) ∧ Chg gD (gD + 1) w w' := by
  have hpl : p < w.heap.size := (Array.getElem?_eq_some_iff.1 hdv).1
  have hgl : gD < w.heap.size := (Array.getElem?_eq_some_iff.1 hdr).1
  have hbl : b < w.heap.size := lt_of_cell (hb 0 (by omega))
  obtain ⟨z1, z2, z3, z4⟩ := alloc3 w (.cells #[.pointer (some ⟨p, 0, none⟩)] 52) (.cells #[.int .i64 (at' : Int)] 2) (.cells #[.slice (some ⟨b, off, none⟩) (64 * K) cap] 24)
  have cA : Chg 0 0 w (((w.alloc (.cells #[.pointer (some ⟨p, 0, none⟩)] 52)).alloc (.cells #[.int .i64 (at' : Int)] 2)).alloc (.cells #[.slice (some ⟨b, off, none⟩) (64 * K) cap] 24)) := ((Chg.alloc (Chg.refl 0 0 w) _).alloc _).alloc _
  have hb2 := fun i (hi : i < ys.length) => cA.cell (hb i hi) (by omega)
  have s2 : ((w.alloc (.cells #[.pointer (some ⟨p, 0, none⟩)] 52)).alloc (.cells #[.int .i64 (at' : Int)] 2)).heap.size = w.heap.size + 2 := (alloc2 w _ _).1
  refine (callsIn_wide (n := 0)).1 ?_
  refine callsIn_of_wp_marks Tryd.func26 rfl trivial ?_ rfl
  simp only [Tryd.ntmps26, List.size_toArray, List.length_cons, List.length_nil, Nat.reduceAdd, Nat.reduceSub, Array.replicate_succ, Array.replicate_zero, List.push_toArray, List.append_toArray, List.nil_append, List.cons_append]
  gi_wp2
  refine ⟨trivial, rfl, (callsIn_wide.2 (cutBlocks_calls _ _ _ _)).mono ?_⟩
  rintro e w1 ⟨rfl, rfl⟩
  rw [s2]
  have hL0 : LayI w p gD nB at' pv cur (((w.alloc (.cells #[.pointer (some ⟨p, 0, none⟩)] 52)).alloc (.cells #[.int .i64 (at' : Int)] 2)).alloc (.cells #[.slice (some ⟨b, off, none⟩) (64 * K) cap] 24)) := ⟨(cA.block _ hpl (by omega)).trans hdv, (cA.block _ hgl (by omega)).trans hdr, z2, z3, cA.widen (by omega) (by omega)⟩
  generalize ((w.alloc (.cells #[.pointer (some ⟨p, 0, none⟩)] 52)).alloc (.cells #[.int .i64 (at' : Int)] 2)).alloc (.cells #[.slice (some ⟨b, off, none⟩) (64 * K) cap] 24) = wL at *
  gi_wp2
  have vlen : ∀ {zs : List (Fin K × Fin K)}, ∀ z ∈ vals zs, z.1 < K ∧ z.2 < K := by
    intro zs z hz
    obtain ⟨q, _, rfl⟩ := List.mem_map.1 hz
    exact ⟨q.1.isLt, q.2.isLt⟩
  refine range_own (n := 0) (gf := 63) (lb := #[.pointer (some ⟨w.heap.size + 2, 0, none⟩)]) rfl (enters_of Tryd.func63 (by kernel_rfl) rfl)
    (cut_seq (w.heap.size + 2) b off cap K ys wL hK hcap hc2 hys (Boxed.cell z4) hb2 (by omega)) (Below.refl _ _) (fun _ => rfl) KeepS.trans (fun V o _ _ k hk => World.putObj_heap_other (by omega))
    (fun M zs V => LayI w p gD nB at' pv (layC at' ys (vals zs) cur) V) (fun _ _ _ _ => False)
    ?hI (fun _ _ _ _ _ _ hs _ _ => hs) ?hIF (fun _ _ _ _ _ hs _ _ => hs) ?h0
    (fun x a' V => ∃ Bx, w.heap.size + 3 + 2 ≤ Bx ∧ V.heap[Bx]? = some (.cells ((blkOf ys x.2.val).map (Value.int .u8)).toArray 58 (0, 0)) ∧
      a' = { tmps := #[.pointer (some ⟨p, 0, none⟩), .int .i64 (at' : Int), .slice (some ⟨b, off, none⟩) (64 * K) cap, .pointer (some ⟨w.heap.size, 0, none⟩), .pointer (some ⟨w.heap.size + 1, 0, none⟩), undef, .int .i64 (x.1.val : Int), .pointer (some ⟨Bx, 0, none⟩), .slice (some ⟨b, off, none⟩) (64 * K) cap, .func (.func 63) #[] #[.pointer (some ⟨w.heap.size + 2, 0, none⟩)], .int .i64 (x.1.val : Int), .agg ((blkOf ys x.2.val).map (Value.int .u8)).toArray, undef, undef, undef, undef, undef, undef, undef, undef, undef], defers := [] })
    ?hAx ?assign ?body ?done (fun _ _ _ _ _ _ _ h _ => h.elim)
  case hI =>
    rintro M zs A C row h hg hr
    have hne : ∀ k, k < w.heap.size + 3 → some k ≠ row := fun k hk e => by have := (hr _ e.symm).1; omega
    exact ⟨(hg.block _ (Array.getElem?_eq_some_iff.1 h.dv).1 (hne _ (by omega))).trans h.dv, (hg.block _ (Array.getElem?_eq_some_iff.1 h.dr).1 (hne _ (by omega))).trans h.dr, (hg.block _ (Array.getElem?_eq_some_iff.1 h.bv).1 (hne _ (by omega))).trans h.bv, (hg.block _ (Array.getElem?_eq_some_iff.1 h.ba).1 (hne _ (by omega))).trans h.ba,
      ⟨hg.os.trans h.ch.os, hg.tape.trans h.ch.tape, hg.output.trans h.ch.output, Nat.le_trans h.ch.size hg.size, fun k hk ho => (hg.block k (Nat.lt_of_lt_of_le hk h.ch.size) (hne _ (by omega))).trans (h.ch.block k hk ho)⟩⟩
  case hIF =>
    rintro M zs A C h hc hm
    exact ⟨(hc.block _ (Array.getElem?_eq_some_iff.1 h.dv).1 (by omega)).trans h.dv, (hc.block _ (Array.getElem?_eq_some_iff.1 h.dr).1 (by omega)).trans h.dr, (hc.block _ (Array.getElem?_eq_some_iff.1 h.bv).1 (by omega)).trans h.bv, (hc.block _ (Array.getElem?_eq_some_iff.1 h.ba).1 (by omega)).trans h.ba, h.ch.step hc (by omega)⟩
  case h0 =>
    intro V hV hsz
    exact ⟨(hV.block _ (by omega)).trans hL0.dv, (hV.block _ (by omega)).trans hL0.dr, (hV.block _ (by omega)).trans hL0.bv, (hV.block _ (by omega)).trans hL0.ba, hL0.ch.step (Chg.ofBelow hV 0 0) (by omega)⟩
  case hAx =>
    rintro x a' _ A C row ⟨Bx, h1, h2, h3⟩ hg hr
    exact ⟨Bx, h1, cells_stay h2 hg (fun r e => (hr r e).2), h3⟩
  case assign =>
    rintro M l' zs x V K' hM hMV hi hK'
    simp only [encBk]
    have hln : ((blkOf ys x.2.val).map (Value.int .u8)).length = 64 := by rw [List.length_map]; exact blkOf_length hys x.2.isLt
    have h1c : ∀ v ∈ (blkOf ys x.2.val).map (Value.int .u8), v.oneCell' = true := ints_oneCell _ _
    have hics : (Tryd.prog.info? 58).map (·.size) = some ((blkOf ys x.2.val).map (Value.int .u8)).length := by rw [hln]; kernel_rfl
    generalize (blkOf ys x.2.val).map (Value.int .u8) = cs at *
    gi_wp2_with (refine wpListIn_plain rfl fun K hK => ?_; refine opIn_of (fun _ h => by cases h) ?_; refine wp_store_row 58 (.tmp 7) (.tmp 11) rfl rfl V.heap.size rfl cs _ 58 rfl (heap_new V _) (by rw [hln]; rfl) hics h1c ?_; intro wg hbg hcg; refine hK _ _ ?_)
    have cv : Chg 0 0 V wg := (Chg.alloc (Chg.refl 0 0 V) _).step hcg (Or.inr (Or.inl (Nat.le_refl _)))
    have hVs := (Array.getElem?_eq_some_iff.1 hi.ba).1
    exact hK' _ _ (KeepM.chg cv hMV (by omega)) (by rintro k rfl; exact cv.block k (by omega) (by omega)) (hi.chg cv) ⟨V.heap.size, by omega, hbg, rfl⟩
  case body =>
    rintro M l' zs x a' V hM hMV hi ⟨Bx, hBx, hbx, rfl⟩ hlen
    have hln : ((blkOf ys x.2.val).map (Value.int .u8)).length = 64 := by rw [List.length_map]; exact blkOf_length hys x.2.isLt
    have h1c : ∀ v ∈ (blkOf ys x.2.val).map (Value.int .u8), v.oneCell' = true := ints_oneCell _ _
    have hics : (Tryd.prog.info? 58).map (·.size) = some ((blkOf ys x.2.val).map (Value.int .u8)).length := by rw [hln]; kernel_rfl
    have hlc := layC_length (nB := nB) hys hat (vals zs) cur vlen hcl
    have hsn : layC at' ys (vals (zs ++ [x])) cur = splice (layC at' ys (vals zs) cur) ((at' + x.1.val) * 64) ((blkOf ys x.2.val).map (Value.int .u8)) := by
      unfold vals; rw [List.map_append]; exact layC_snoc at' ys _ _ _
    have HSn : Hid (layC at' ys (vals (zs ++ [x])) cur = splice (layC at' ys (vals zs) cur) ((at' + x.1.val) * 64) ((blkOf ys x.2.val).map (Value.int .u8))) := hsn
    have hx1 := x.1.isLt
    have c0 := Boxed.cell hi.bv
    have c1 : V.cell? ⟨p, 0, none⟩ = some (.slice (some ⟨gD, 0, none⟩) nB nB) := (two_cells hi.dv).1
    have c2 := Boxed.cell hi.ba
    have hmx : Tryd.prog.follows .mixedOrders = true := by kernel_rfl
    clear hsn
    generalize (blkOf ys x.2.val).map (Value.int .u8) = cs at *
    generalize layC at' ys (vals zs) cur = C at *
    generalize hq : x.1.val = q at *
    have Hq : Hid (at' + q < nB) := by show _ < _; omega
    have hqs : (at' : Int) + (q : Int) = ((at' + q : Nat) : Int) := by omega
    generalize hr : at' + q = r at *
    have hrb : r ≤ 2048 := by have := Hq.out; omega
    have hri : (r : Int) < (nB : Int) := by have := Hq.out; omega
    have hrw : IntKind.i64.wrap (r : Int) = (r : Int) := by rw [IntKind.wrap_i64]; omega
    have HS : Hid ((fun w' : World => w'.cell? ⟨w.heap.size, 0, none⟩ = some (.pointer (some ⟨p, 0, none⟩)) ∧ w'.cell? ⟨p, 0, none⟩ = some (.slice (some ⟨gD, 0, none⟩) nB nB) ∧ w'.cell? ⟨w.heap.size + 1, 0, none⟩ = some (.int .i64 (at' : Int)) ∧ w'.heap[Bx]? = some (.cells cs.toArray 58 (0, 0))) V.drew) := ⟨c0, c1, c2, hbx⟩
    gi_wp2
    refine round_region (fun w' : World => w'.cell? ⟨w.heap.size, 0, none⟩ = some (.pointer (some ⟨p, 0, none⟩)) ∧ w'.cell? ⟨p, 0, none⟩ = some (.slice (some ⟨gD, 0, none⟩) nB nB) ∧ w'.cell? ⟨w.heap.size + 1, 0, none⟩ = some (.int .i64 (at' : Int)) ∧ w'.heap[Bx]? = some (.cells cs.toArray 58 (0, 0))) hmx (by kernel_rfl) ?_
    have hiD : LayI w p gD nB at' pv C V.drew := hi.chg (Chg.drew (Chg.refl 0 0 V))
    have kD : KeepM wL.heap.size M V V.drew := KeepM.chg (Chg.drew (Chg.refl 0 0 V)) hMV (by omega)
    have sD : KeepS (fun k => k = b) V V.drew := fun _ _ => rfl
    have hVD : M ≤ V.drew.heap.size := hMV
    generalize V.drew = X at *
    refine held_take 0 (.pointer (some ⟨p, 0, none⟩)) rfl (by kernel_rfl) (by kernel_rfl) (by kernel_rfl) (fun _ _ _ h => h) (.inl ⟨by kernel_rfl, fun w' hw' => by have h4 := hw'.1; go_simp⟩) HS.out ?_
    go_simp
    refine held_take 1 (.pointer (some ⟨p, 0, none⟩)) rfl (by kernel_rfl) (by kernel_rfl) (by kernel_rfl) (fun _ _ _ h => h) (.inl ⟨by kernel_rfl, fun w' hw' => by go_simp⟩) HS.out ?_
    go_simp
    refine held_take 2 (.pointer (some ⟨p, 0, none⟩)) rfl (by kernel_rfl) (by kernel_rfl) (by kernel_rfl) (fun _ _ _ h => h) (.inl ⟨by kernel_rfl, fun w' hw' => by go_simp⟩) HS.out ?_
    go_simp
    refine held_take 3 (.slice (some ⟨gD, 0, none⟩) nB nB) rfl (by kernel_rfl) (by kernel_rfl) (by kernel_rfl) (fun _ _ _ h => h) (.inl ⟨by kernel_rfl, fun w' hw' => by have h4 := hw'.2.1; go_simp⟩) HS.out ?_
    go_simp
    refine held_take 4 (.int .i64 (at' : Int)) rfl (by kernel_rfl) (by kernel_rfl) (by kernel_rfl) (fun _ _ _ h => h) (.inl ⟨by kernel_rfl, fun w' hw' => by have h4 := hw'.2.2.1; go_simp⟩) HS.out ?_
    go_simp
    refine held_take 5 (.int .i64 (q : Int)) rfl (by kernel_rfl) (by kernel_rfl) (by kernel_rfl) (fun _ _ _ h => h) (.inl ⟨by kernel_rfl, fun w' hw' => by go_simp⟩) HS.out ?_
    go_simp
    refine held_take 6 (.int .i64 (r : Int)) rfl (by kernel_rfl) (by kernel_rfl) (by kernel_rfl) (fun _ _ _ h => h) (.inl ⟨by kernel_rfl, fun w' hw' => by go_simp⟩) HS.out ?_
    go_simp
    refine held_take 7 (.agg cs.toArray) rfl (by kernel_rfl) (by kernel_rfl) (by kernel_rfl) (fun _ _ _ h => h) (yieldsIf_load_mid (by kernel_rfl) 58 (.tmp 7) rfl Bx 0 rfl cs _ (fun w' hw' => by intro j v hj; have h4 := hw'.2.2.2; rw [Nat.zero_add]; simp [World.cell?, h4, hj]) Tryd.underlying58 rfl hics) HS.out ?_
    go_simp
    refine held_one 8 rfl rfl (by kernel_rfl) ?_
    go_simp
    refine ⟨HS.out, ?_⟩
    refine held_one 9 rfl rfl (by kernel_rfl) ?_
    have hfit : r * 64 + cs.length ≤ C.length := by rw [hln, hlc]; have := Hq.out; omega
    refine wp_store_mid 58 (.tmp 20) (.tmp 19) rfl gD (r * 64) cs.toArray rfl rfl (there_sub (row_there hiD.dr) (by simpa using hfit)) (by simpa using hics) (all_oneCell_toArray h1c) ?_
    have hh := heap_setCells gD 58 cs (r * 64) X C hiD.dr hfit
    have hc : Chg gD (gD + 1) X (X.setCells gD (r * 64) cs) := Chg.setCells gD _ _ X
    have hBl := (Array.getElem?_eq_some_iff.1 HS.out.2.2.2).1
    have hwl := (Array.getElem?_eq_some_iff.1 hiD.ba).1
    have hN : LayI w p gD nB at' pv (splice C (r * 64) cs) (X.setCells gD (r * 64) cs) :=
      ⟨(hc.block _ (by omega) (by omega)).trans hiD.dv, hh, (hc.block _ (by omega) (by omega)).trans hiD.bv, (hc.block _ (by omega) (by omega)).trans hiD.ba, hiD.ch.step hc (by omega)⟩
    refine ⟨⟨hc.cell HS.out.1 (by omega), hc.cell HS.out.2.1 (by omega), hc.cell HS.out.2.2.1 (by omega), (hc.block _ hBl (by omega)).trans HS.out.2.2.2⟩, ?_⟩
    have kN : KeepM wL.heap.size M V (X.setCells gD (r * 64) cs) := kD.trans (KeepM.chg hc hVD (by omega))
    have sN : KeepS (fun k => k = b) V (X.setCells gD (r * 64) cs) := sD.trans (by rintro k rfl; exact hc.block k (by omega) (by omega))
    show wpAnyH _ _ _ _ _ 0 _ _ (X.setCells gD (r * 64) cs)
    generalize X.setCells gD (r * 64) cs = Y at *
    refine held_done (by kernel_rfl) ?_
    show (KeepM wL.heap.size M V Y ∧ KeepS (fun k => k = b) V Y) ∧ LayI w p gD nB at' pv (layC at' ys (vals (zs ++ [x])) cur) Y
    exact ⟨⟨kN, sN⟩, by rw [HSn.out]; exact hN⟩
  case done =>
    rintro M D zs V hD hS h hK'
    gi_wp2
    refine ⟨by simp, .inl ⟨_, _, rfl, run_takeDeferred hK', ?_⟩⟩
    refine ⟨_, results_none rfl _ _ _, rfl, ?_, ?_⟩
    · rw [World.putObj_heap_other (by omega), h.dr, hS, layC_range hys hat hcl K (Nat.le_refl _), List.take_of_length_le (by omega)]
    · exact h.ch.step (l := D) (r := D + 1) ⟨rfl, rfl, rfl, by simp, fun k _ ho => World.putObj_heap_other (by omega)⟩ (by omega)

end Go.Proofs.YtmfkgnifkkkkiaaDoor
