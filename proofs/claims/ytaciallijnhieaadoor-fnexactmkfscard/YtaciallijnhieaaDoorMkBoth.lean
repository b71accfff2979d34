/- Several short texts in one: RoundHeld, ImplLay, ArrKit, InoC, PutPs, IsWithin, BlkImpl, InoEncP, ImplRoot, ImplNew, ImplSuper, ImplSys, ImplGeo, Join, FlushE, ImplMk0, ImplMk, SpecMk0, SpecMk, MkBoth. -/
import Derived.Test.YtaciallijnhieaaDoorImplCut
import Derived.Test.YtaciallijnhieaaDoorHeld
import Derived.Test.YtaciallijnhieaaDoorCells
import Derived.Test.YtaciallijnhieaaDoorMem
import Derived.Deep.MidRow
import Derived.Test.YtaciallijnhieaaDoorPutN
import Derived.Test.YtaciallijnhieaaDoorCopyRow
import Derived.Test.YtaciallijnhieaaDoorWeak
import Derived.Deep.DeepCutAuto
import Derived.Test.YtaciallijnhieaaDoorRows
import Derived.Test.YtaciallijnhieaaDoorRowZ
import Derived.Test.YtaciallijnhieaaDoorOpenBlk
import Derived.Test.YtaciallijnhieaaDoorSmall
import Derived.Test.YtaciallijnhieaaDoorCells2
import Derived.Deep.RegionWith
import Derived.Test.YtaciallijnhieaaDoorImplSealed
import Derived.Test.YtaciallijnhieaaDoorFsSup
import Derived.Test.YtaciallijnhieaaDoorGeoSpec
import Derived.Test.YtaciallijnhieaaDoorSettle
import Derived.Test.YtaciallijnhieaaDoorImplEncS
import Derived.Test.YtaciallijnhieaaDoorSpecNew
import Derived.Test.YtaciallijnhieaaDoorSpecPut
import Derived.Test.YtaciallijnhieaaDoorSpecSuper
import Derived.Test.YtaciallijnhieaaDoorJoin2
namespace Go.Proofs.YtaciallijnhieaaDoor
open Go.RowKit Go.Shelf

/-- It comes to its end. -/
def OnlyN (Q : Exit → Act → World → Prop) : Exit → Act → World → Prop
  | .normal, a, w => Q .normal a w
  | _, _, _ => False
theorem OnlyN.imp {Q : Exit → Act → World → Prop} : ∀ (e : Exit) (a : Act) (w : World), OnlyN Q e a w → Q e a w := fun e a w h => by
  cases e <;> first | exact h | exact (h : False).elim

def noDefer (ops : Array Oper) : Bool := ops.all fun o => match o.op with | .defer _ => false | _ => true
theorem noDefer_spec {ops : Array Oper} (h : noDefer ops = true) {i : Nat} {o : Oper} (hi : ops[i]? = some o) : ∀ c, o.op ≠ .defer c := by
  intro c hc
  obtain ⟨hlt, rfl⟩ := Array.getElem?_eq_some_iff.1 hi
  have := Array.all_eq_true.1 h i hlt
  rw [hc] at this
  cases this

section
variable {P : Program} {n l : Nat} {ops : Array Oper} {Q : Exit → Act → World → Prop} {S : World → Prop}

theorem opIn_of {o : Oper} {a : Act} {w : World} {K : Act → World → Prop} (hd : ∀ c, o.op ≠ .defer c) (h : o.wp P a w K Q) : o.wpIn (Fence.wide.inRound l) n P a w K Q := by
  unfold Oper.wp at h
  refine ⟨fun _ _ => trivial, ?_⟩
  rw [Fence.inRound_round, Oper.semAt_some l a.eval o hd]
  generalize (execOp a.eval o).run P w = r at h ⊢
  cases r with
  | ok x w' =>
    cases x with
    | value v => exact h
    | skip => exact h
    | defer d => exact h
    | enter f args => exact ⟨(fun h => by cases h), callsIn_wide.2 h⟩
    | row row args => exact ⟨(fun h => by cases h), fun c cs _ => let ⟨v, w'', r, s⟩ := h c cs; ⟨v, w'', r, stepsIn_wide.2 s⟩⟩
    | _ => exact (h : False).elim
  | halt x w' => cases x <;> first | exact h | exact (h : False).elim

theorem anyIn_of (hn : noDefer ops = true) : ∀ (fuel : Nat) (listed : Array Bool) (a : Act) (w : World), wpAnyH P .any ops (OnlyN Q) S fuel listed a w → wpAnyIn (Fence.wide.inRound l) n P .any ops (OnlyN Q) fuel listed a w
  | 0, _, _, _, h => h
  | fuel + 1, listed, a, w, h => ⟨h.1, fun i hi => by
      have h2 := h.2 i hi
      unfold wpOp at h2
      unfold wpOpIn
      cases ho : ops[i]? with
      | none =>
        simp only [ho] at h2 ⊢
        exact anyIn_of hn fuel _ _ _ h2.2
      | some o =>
        simp only [ho] at h2 ⊢
        by_cases hw : Region.wanted o (yielded ops a.tmps) = true
        · rw [if_pos hw] at h2 ⊢
          rcases h2 with h2 | ⟨_, _, _, hf⟩
          · exact Oper.wpIn_mono (fun a' w' h' => anyIn_of hn fuel _ _ _ h'.2) (opIn_of (noDefer_spec hn ho) h2)
          · exact (hf : False).elim
        · rw [if_neg hw] at h2 ⊢
          exact ⟨fun _ _ => trivial, anyIn_of hn fuel _ _ _ h2.2⟩⟩

theorem round_region (S : World → Prop) {id : Nat} {a : Act} {w : World} (hm : P.follows .mixedOrders = true) (hn : noDefer ops = true)
    (h : wpAnyH P .any ops (OnlyN Q) S ops.size (Array.replicate ops.size false) a w.drew) : (Code.region id ops true).wpIn (Fence.wide.inRound l) n P Q a w :=
  wpIn_mono (wpIn_region_any hm (anyIn_of hn _ _ _ _ h)) OnlyN.imp
end

end Go.Proofs.YtaciallijnhieaaDoor

namespace Go.Proofs.YtaciallijnhieaaDoor
open Go.RowKit Go.Shelf
attribute [local go_sem] Oper.semAt_some

/-- The row with these blocks laid from block at on. -/
def layC (at' : Nat) (ys : List Int) : List (Nat × Nat) → List Value → List Value
  | [], c => c
  | z :: zs, c => layC at' ys zs (splice c ((at' + z.1) * 64) ((blkOf ys z.2).map (Value.int .u8)))
theorem layC_snoc (at' : Nat) (ys : List Int) : ∀ (zs : List (Nat × Nat)) (z : Nat × Nat) (c : List Value), layC at' ys (zs ++ [z]) c = splice (layC at' ys zs c) ((at' + z.1) * 64) ((blkOf ys z.2).map (Value.int .u8))
  | [], _, _ => rfl
  | _ :: zs, z, _ => layC_snoc at' ys zs z _
theorem splice_length {cur cs : List Value} {o : Nat} (h : o + cs.length ≤ cur.length) : (splice cur o cs).length = cur.length := by
  unfold splice; simp only [List.length_append, List.length_take, List.length_drop]; omega
theorem blkOf_length {ys : List Int} {K x : Nat} (hl : ys.length = 64 * K) (hx : x < K) : (blkOf ys x).length = 64 := by unfold blkOf; rw [List.length_take, List.length_drop]; omega
theorem layC_length {at' K nB : Nat} {ys : List Int} (hl : ys.length = 64 * K) (hat : at' + K ≤ nB) : ∀ (zs : List (Nat × Nat)) (c : List Value), (∀ z ∈ zs, z.1 < K ∧ z.2 < K) → c.length = nB * 64 → (layC at' ys zs c).length = nB * 64
  | [], _, _, h => h
  | z :: zs, _, hz, h => by
    obtain ⟨h1, h2⟩ := hz z (by simp)
    refine layC_length hl hat zs _ (fun y hy => hz y (by simp [hy])) ?_
    rw [splice_length (by rw [List.length_map, blkOf_length hl h2]; omega)]; exact h
theorem splice_splice {c xs ys : List Value} {o : Nat} (h : o + xs.length + ys.length ≤ c.length) : splice (splice c o xs) (o + xs.length) ys = splice c o (xs ++ ys) := by
  have e0 : (c.take o).length = o := by rw [List.length_take]; omega
  have e1 : (c.take o ++ xs).length = o + xs.length := by rw [List.length_append, e0]
  have A : (c.take o ++ (xs ++ c.drop (o + xs.length))).take (o + xs.length) = c.take o ++ xs := by
    rw [← List.append_assoc, List.take_append_of_le_length (by rw [e1]; exact Nat.le_refl _), List.take_of_length_le (by rw [e1]; exact Nat.le_refl _)]
  have B : (c.take o ++ (xs ++ c.drop (o + xs.length))).drop (o + xs.length + ys.length) = c.drop (o + xs.length + ys.length) := by
    rw [← List.append_assoc, List.drop_append, List.drop_eq_nil_of_le (by rw [e1]; omega), List.nil_append, e1, List.drop_drop]
    congr 1; omega
  unfold splice
  simp only [List.append_assoc] at A B ⊢
  rw [A, B, List.length_append, List.append_assoc, show o + (xs.length + ys.length) = o + xs.length + ys.length by omega]

theorem layC_range {at' K nB : Nat} {ys : List Int} {c : List Value} (hl : ys.length = 64 * K) (hat : at' + K ≤ nB) (hc : c.length = nB * 64) : ∀ k, k ≤ K → layC at' ys ((List.range k).zip (List.range k)) c = splice c (at' * 64) ((ys.take (64 * k)).map (Value.int .u8))
  | 0, _ => by show c = _; unfold splice; simp
  | k + 1, hk => by
    rw [List.range_succ, List.zip_append rfl]
    show layC at' ys (_ ++ [(k, k)]) c = _
    rw [layC_snoc, layC_range hl hat hc k (by omega)]
    have e : at' * 64 + ((ys.take (64 * k)).map (Value.int .u8)).length = (at' + k) * 64 := by rw [List.length_map, List.length_take]; omega
    rw [← e, splice_splice, ← List.map_append]
    · congr 2
      unfold blkOf
      rw [show 64 * (k + 1) = 64 * k + 64 by omega, List.take_add]
    · rw [List.length_map, List.length_map, List.length_take, blkOf_length hl (by omega)]; omega

set_option maxHeartbeats 1000000 in
theorem cutBlocks_calls (w : World) (ao : Option Addr) (n cap : Nat) :
    Calls Tryd.prog 51 #[.slice ao n cap] w fun e w' => e = .returned (.func (.func 63) #[] #[.pointer (some ⟨w.heap.size, 0, none⟩)]) ∧ w' = w.alloc (.cells #[.slice ao n cap] 24) := by
  go_enter Tryd.func51, Tryd.ntmps51
  go_wp2
  go_ret
  exact ⟨rfl, rfl⟩

/-- What the loop of lay keeps. -/
structure LayI (w : World) (p gD nB at' : Nat) (pv : Value) (cur : List Value) (V : World) : Prop where
  dv : V.heap[p]? = some (.cells #[.slice (some ⟨gD, 0, none⟩) nB nB, pv] 56 (0, 0))
  dr : V.heap[gD]? = some (.cells cur.toArray 58 (0, 0))
  bv : V.heap[w.heap.size]? = some (.cells #[.pointer (some ⟨p, 0, none⟩)] 52 (0, 0))
  ba : V.heap[w.heap.size + 1]? = some (.cells #[.int .i64 (at' : Int)] 2 (0, 0))
  ch : Chg gD (gD + 1) w V

theorem LayI.chg {w V V' : World} {p gD nB at' : Nat} {pv : Value} {cur : List Value} (h : LayI w p gD nB at' pv cur V) (c : Chg 0 0 V V') : LayI w p gD nB at' pv cur V' :=
  ⟨(c.block _ (Array.getElem?_eq_some_iff.1 h.dv).1 (by omega)).trans h.dv, (c.block _ (Array.getElem?_eq_some_iff.1 h.dr).1 (by omega)).trans h.dr, (c.block _ (Array.getElem?_eq_some_iff.1 h.bv).1 (by omega)).trans h.bv, (c.block _ (Array.getElem?_eq_some_iff.1 h.ba).1 (by omega)).trans h.ba, h.ch.step c (by omega)⟩

theorem there_sub {w : World} {g o n m : Nat} (h : w.there g 0 m) (hn : o + n ≤ m) : w.there g o n := by
  intro j hj
  have := h (o + j) (by omega)
  simpa using this

set_option maxRecDepth 100000 in
set_option maxHeartbeats 4000000 in
theorem lay_calls (w : World) (p gD nB at' b off cap K : Nat) (pv : Value) (cur : List Value) (ys : List Int) (hK : K ≤ 4096) (hK0 : 0 < K) (hnB : nB ≤ 2048) (hat : at' + K ≤ nB) (hcl : cur.length = nB * 64) (hcap : 64 * K ≤ cap) (hc2 : cap ≤ 9223372036854775807) (hys : ys.length = 64 * K)
    (hdv : w.heap[p]? = some (.cells #[.slice (some ⟨gD, 0, none⟩) nB nB, pv] 56 (0, 0))) (hdr : w.heap[gD]? = some (.cells cur.toArray 58 (0, 0))) (hpg : p ≠ gD) (hbg : b ≠ gD)
    (hb : ∀ i, i < ys.length → w.cell? ⟨b, off + i, none⟩ = some (.int .u8 (ys.getD i 0))) :
    Calls Tryd.prog 26 #[.pointer (some ⟨p, 0, none⟩), .int .i64 (at' : Int), .slice (some ⟨b, off, none⟩) (64 * K) cap] w fun e w' =>
      e = .returned (.tuple #[]) ∧ w'.heap[gD]? = some (.cells (splice cur (at' * 64) (ys.map (Value.int .u8))).toArray 58 (0, 0)) ∧ Chg gD (gD + 1) w w' := by
  have hpl : p < w.heap.size := (Array.getElem?_eq_some_iff.1 hdv).1
  have hgl : gD < w.heap.size := (Array.getElem?_eq_some_iff.1 hdr).1
  have hbl : b < w.heap.size := lt_of_cell (hb 0 (by omega))
  obtain ⟨z1, z2, z3, z4⟩ := alloc3 w (.cells #[.pointer (some ⟨p, 0, none⟩)] 52) (.cells #[.int .i64 (at' : Int)] 2) (.cells #[.slice (some ⟨b, off, none⟩) (64 * K) cap] 24)
  have cA : Chg 0 0 w (((w.alloc (.cells #[.pointer (some ⟨p, 0, none⟩)] 52)).alloc (.cells #[.int .i64 (at' : Int)] 2)).alloc (.cells #[.slice (some ⟨b, off, none⟩) (64 * K) cap] 24)) := ((Chg.alloc (Chg.refl 0 0 w) _).alloc _).alloc _
  have hb2 := fun i (hi : i < ys.length) => cA.cell (hb i hi) (by omega)
  have s2 : ((w.alloc (.cells #[.pointer (some ⟨p, 0, none⟩)] 52)).alloc (.cells #[.int .i64 (at' : Int)] 2)).heap.size = w.heap.size + 2 := (alloc2 w _ _).1
  refine (callsIn_wide (n := 0)).1 ?_
  refine callsIn_of_wp_marks Tryd.func26 rfl trivial ?_ rfl
  simp only [Tryd.ntmps26, List.size_toArray, List.length_cons, List.length_nil, Nat.reduceAdd, Nat.reduceSub, Array.replicate_succ, Array.replicate_zero, List.push_toArray, List.append_toArray, List.nil_append, List.cons_append]
  gi_wp2
  refine ⟨trivial, rfl, (callsIn_wide.2 (cutBlocks_calls _ _ _ _)).mono ?_⟩
  rintro e w1 ⟨rfl, rfl⟩
  rw [s2]
  have hL0 : LayI w p gD nB at' pv cur (((w.alloc (.cells #[.pointer (some ⟨p, 0, none⟩)] 52)).alloc (.cells #[.int .i64 (at' : Int)] 2)).alloc (.cells #[.slice (some ⟨b, off, none⟩) (64 * K) cap] 24)) := ⟨(cA.block _ hpl (by omega)).trans hdv, (cA.block _ hgl (by omega)).trans hdr, z2, z3, cA.widen (by omega) (by omega)⟩
  generalize ((w.alloc (.cells #[.pointer (some ⟨p, 0, none⟩)] 52)).alloc (.cells #[.int .i64 (at' : Int)] 2)).alloc (.cells #[.slice (some ⟨b, off, none⟩) (64 * K) cap] 24) = wL at *
  gi_wp2
  have vlen : ∀ {zs : List (Fin K × Fin K)}, ∀ z ∈ vals zs, z.1 < K ∧ z.2 < K := by
    intro zs z hz
    obtain ⟨q, _, rfl⟩ := List.mem_map.1 hz
    exact ⟨q.1.isLt, q.2.isLt⟩
  refine range_own (n := 0) (gf := 63) (lb := #[.pointer (some ⟨w.heap.size + 2, 0, none⟩)]) rfl (enters_of Tryd.func63 (by kernel_rfl) rfl)
    (cut_seq (w.heap.size + 2) b off cap K ys wL hK hcap hc2 hys (Boxed.cell z4) hb2 (by omega)) (Below.refl _ _) (fun _ => rfl) KeepS.trans (fun V o k hk => World.putObj_heap_other (by omega))
    (fun M zs V => LayI w p gD nB at' pv (layC at' ys (vals zs) cur) V) (fun _ _ _ _ => False)
    ?hI (fun _ _ _ _ _ _ hs _ _ => hs) ?hIF (fun _ _ _ _ _ hs _ _ => hs) ?h0
    (fun x a' V => ∃ Bx, w.heap.size + 3 + 2 ≤ Bx ∧ V.heap[Bx]? = some (.cells ((blkOf ys x.2.val).map (Value.int .u8)).toArray 58 (0, 0)) ∧
      a' = { tmps := #[.pointer (some ⟨p, 0, none⟩), .int .i64 (at' : Int), .slice (some ⟨b, off, none⟩) (64 * K) cap, .pointer (some ⟨w.heap.size, 0, none⟩), .pointer (some ⟨w.heap.size + 1, 0, none⟩), undef, .int .i64 (x.1.val : Int), .pointer (some ⟨Bx, 0, none⟩), .slice (some ⟨b, off, none⟩) (64 * K) cap, .func (.func 63) #[] #[.pointer (some ⟨w.heap.size + 2, 0, none⟩)], .int .i64 (x.1.val : Int), .agg ((blkOf ys x.2.val).map (Value.int .u8)).toArray, undef, undef, undef, undef, undef, undef, undef, undef, undef], defers := [] })
    ?hAx ?assign ?body ?done (fun _ _ _ _ _ _ _ h _ => h.elim)
  case hI =>
    rintro M zs A C row h hg hr
    have hne : ∀ k, k < w.heap.size + 3 → some k ≠ row := fun k hk e => by have := (hr _ e.symm).1; omega
    exact ⟨(hg.block _ (Array.getElem?_eq_some_iff.1 h.dv).1 (hne _ (by omega))).trans h.dv, (hg.block _ (Array.getElem?_eq_some_iff.1 h.dr).1 (hne _ (by omega))).trans h.dr, (hg.block _ (Array.getElem?_eq_some_iff.1 h.bv).1 (hne _ (by omega))).trans h.bv, (hg.block _ (Array.getElem?_eq_some_iff.1 h.ba).1 (hne _ (by omega))).trans h.ba,
      ⟨hg.os.trans h.ch.os, hg.tape.trans h.ch.tape, hg.output.trans h.ch.output, Nat.le_trans h.ch.size hg.size, fun k hk ho => (hg.block k (Nat.lt_of_lt_of_le hk h.ch.size) (hne _ (by omega))).trans (h.ch.block k hk ho)⟩⟩
  case hIF =>
    rintro M zs A C h hc hm
    exact ⟨(hc.block _ (Array.getElem?_eq_some_iff.1 h.dv).1 (by omega)).trans h.dv, (hc.block _ (Array.getElem?_eq_some_iff.1 h.dr).1 (by omega)).trans h.dr, (hc.block _ (Array.getElem?_eq_some_iff.1 h.bv).1 (by omega)).trans h.bv, (hc.block _ (Array.getElem?_eq_some_iff.1 h.ba).1 (by omega)).trans h.ba, h.ch.step hc (by omega)⟩
  case h0 =>
    intro V hV hsz
    exact ⟨(hV.block _ (by omega)).trans hL0.dv, (hV.block _ (by omega)).trans hL0.dr, (hV.block _ (by omega)).trans hL0.bv, (hV.block _ (by omega)).trans hL0.ba, hL0.ch.step (Chg.ofBelow hV 0 0) (by omega)⟩
  case hAx =>
    rintro x a' _ A C row ⟨Bx, h1, h2, h3⟩ hg hr
    exact ⟨Bx, h1, cells_stay h2 hg (fun r e => (hr r e).2), h3⟩
  case assign =>
    rintro M l' zs x V K' hM hMV hi hK'
    simp only [encBk]
    have hln : ((blkOf ys x.2.val).map (Value.int .u8)).length = 64 := by rw [List.length_map]; exact blkOf_length hys x.2.isLt
    have h1c : ∀ v ∈ (blkOf ys x.2.val).map (Value.int .u8), v.oneCell' = true := ints_oneCell _ _
    have hics : (Tryd.prog.info? 58).map (·.size) = some ((blkOf ys x.2.val).map (Value.int .u8)).length := by rw [hln]; kernel_rfl
    generalize (blkOf ys x.2.val).map (Value.int .u8) = cs at *
    gi_wp2_with (refine wpListIn_plain rfl fun K hK => ?_; refine opIn_of (fun _ h => by cases h) ?_; refine wp_store_row 58 (.tmp 7) (.tmp 11) rfl rfl V.heap.size rfl cs _ 58 rfl (heap_new V _) (by rw [hln]; rfl) hics h1c ?_; intro wg hbg hcg; refine hK _ _ ?_)
    have cv : Chg 0 0 V wg := (Chg.alloc (Chg.refl 0 0 V) _).step hcg (Or.inr (Or.inl (Nat.le_refl _)))
    have hVs := (Array.getElem?_eq_some_iff.1 hi.ba).1
    exact hK' _ _ (KeepM.chg cv hMV (by omega)) (by rintro k rfl; exact cv.block k (by omega) (by omega)) (hi.chg cv) ⟨V.heap.size, by omega, hbg, rfl⟩
  case body =>
    rintro M l' zs x a' V hM hMV hi ⟨Bx, hBx, hbx, rfl⟩ hlen
    have hln : ((blkOf ys x.2.val).map (Value.int .u8)).length = 64 := by rw [List.length_map]; exact blkOf_length hys x.2.isLt
    have h1c : ∀ v ∈ (blkOf ys x.2.val).map (Value.int .u8), v.oneCell' = true := ints_oneCell _ _
    have hics : (Tryd.prog.info? 58).map (·.size) = some ((blkOf ys x.2.val).map (Value.int .u8)).length := by rw [hln]; kernel_rfl
    have hlc := layC_length (nB := nB) hys hat (vals zs) cur vlen hcl
    have hsn : layC at' ys (vals (zs ++ [x])) cur = splice (layC at' ys (vals zs) cur) ((at' + x.1.val) * 64) ((blkOf ys x.2.val).map (Value.int .u8)) := by
      unfold vals; rw [List.map_append]; exact layC_snoc at' ys _ _ _
    have HSn : Hid (layC at' ys (vals (zs ++ [x])) cur = splice (layC at' ys (vals zs) cur) ((at' + x.1.val) * 64) ((blkOf ys x.2.val).map (Value.int .u8))) := hsn
    have hx1 := x.1.isLt
    have c0 := Boxed.cell hi.bv
    have c1 : V.cell? ⟨p, 0, none⟩ = some (.slice (some ⟨gD, 0, none⟩) nB nB) := (two_cells hi.dv).1
    have c2 := Boxed.cell hi.ba
    have hmx : Tryd.prog.follows .mixedOrders = true := by kernel_rfl
    clear hsn
    generalize (blkOf ys x.2.val).map (Value.int .u8) = cs at *
    generalize layC at' ys (vals zs) cur = C at *
    generalize hq : x.1.val = q at *
    have Hq : Hid (at' + q < nB) := by show _ < _; omega
    have hqs : (at' : Int) + (q : Int) = ((at' + q : Nat) : Int) := by omega
    generalize hr : at' + q = r at *
    have hrb : r ≤ 2048 := by have := Hq.out; omega
    have hri : (r : Int) < (nB : Int) := by have := Hq.out; omega
    have hrw : IntKind.i64.wrap (r : Int) = (r : Int) := by rw [IntKind.wrap_i64]; omega
    have HS : Hid ((fun w' : World => w'.cell? ⟨w.heap.size, 0, none⟩ = some (.pointer (some ⟨p, 0, none⟩)) ∧ w'.cell? ⟨p, 0, none⟩ = some (.slice (some ⟨gD, 0, none⟩) nB nB) ∧ w'.cell? ⟨w.heap.size + 1, 0, none⟩ = some (.int .i64 (at' : Int)) ∧ w'.heap[Bx]? = some (.cells cs.toArray 58 (0, 0))) V.drew) := ⟨c0, c1, c2, hbx⟩
    gi_wp2
    refine round_region (fun w' : World => w'.cell? ⟨w.heap.size, 0, none⟩ = some (.pointer (some ⟨p, 0, none⟩)) ∧ w'.cell? ⟨p, 0, none⟩ = some (.slice (some ⟨gD, 0, none⟩) nB nB) ∧ w'.cell? ⟨w.heap.size + 1, 0, none⟩ = some (.int .i64 (at' : Int)) ∧ w'.heap[Bx]? = some (.cells cs.toArray 58 (0, 0))) hmx (by kernel_rfl) ?_
    have hiD : LayI w p gD nB at' pv C V.drew := hi.chg (Chg.drew (Chg.refl 0 0 V))
    have kD : KeepM wL.heap.size M V V.drew := KeepM.chg (Chg.drew (Chg.refl 0 0 V)) hMV (by omega)
    have sD : KeepS (fun k => k = b) V V.drew := fun _ _ => rfl
    have hVD : M ≤ V.drew.heap.size := hMV
    generalize V.drew = X at *
    refine held_take 0 (.pointer (some ⟨p, 0, none⟩)) rfl (by kernel_rfl) (by kernel_rfl) (by kernel_rfl) (fun _ _ _ h => h) (.inl ⟨by kernel_rfl, fun w' hw' => by have h4 := hw'.1; go_simp⟩) HS.out ?_
    go_simp
    refine held_take 1 (.pointer (some ⟨p, 0, none⟩)) rfl (by kernel_rfl) (by kernel_rfl) (by kernel_rfl) (fun _ _ _ h => h) (.inl ⟨by kernel_rfl, fun w' hw' => by go_simp⟩) HS.out ?_
    go_simp
    refine held_take 2 (.pointer (some ⟨p, 0, none⟩)) rfl (by kernel_rfl) (by kernel_rfl) (by kernel_rfl) (fun _ _ _ h => h) (.inl ⟨by kernel_rfl, fun w' hw' => by go_simp⟩) HS.out ?_
    go_simp
    refine held_take 3 (.slice (some ⟨gD, 0, none⟩) nB nB) rfl (by kernel_rfl) (by kernel_rfl) (by kernel_rfl) (fun _ _ _ h => h) (.inl ⟨by kernel_rfl, fun w' hw' => by have h4 := hw'.2.1; go_simp⟩) HS.out ?_
    go_simp
    refine held_take 4 (.int .i64 (at' : Int)) rfl (by kernel_rfl) (by kernel_rfl) (by kernel_rfl) (fun _ _ _ h => h) (.inl ⟨by kernel_rfl, fun w' hw' => by have h4 := hw'.2.2.1; go_simp⟩) HS.out ?_
    go_simp
    refine held_take 5 (.int .i64 (q : Int)) rfl (by kernel_rfl) (by kernel_rfl) (by kernel_rfl) (fun _ _ _ h => h) (.inl ⟨by kernel_rfl, fun w' hw' => by go_simp⟩) HS.out ?_
    go_simp
    refine held_take 6 (.int .i64 (r : Int)) rfl (by kernel_rfl) (by kernel_rfl) (by kernel_rfl) (fun _ _ _ h => h) (.inl ⟨by kernel_rfl, fun w' hw' => by go_simp⟩) HS.out ?_
    go_simp
    refine held_take 7 (.agg cs.toArray) rfl (by kernel_rfl) (by kernel_rfl) (by kernel_rfl) (fun _ _ _ h => h) (yieldsIf_load_mid (by kernel_rfl) 58 (.tmp 7) rfl Bx 0 rfl cs _ (fun w' hw' => by intro j v hj; have h4 := hw'.2.2.2; rw [Nat.zero_add]; simp [World.cell?, h4, hj]) Tryd.underlying58 rfl hics) HS.out ?_
    go_simp
    refine held_one 8 rfl rfl (by kernel_rfl) ?_
    go_simp
    refine ⟨HS.out, ?_⟩
    refine held_one 9 rfl rfl (by kernel_rfl) ?_
    have hfit : r * 64 + cs.length ≤ C.length := by rw [hln, hlc]; have := Hq.out; omega
    refine wp_store_mid 58 (.tmp 20) (.tmp 19) rfl gD (r * 64) cs.toArray rfl rfl (there_sub (row_there hiD.dr) (by simpa using hfit)) (by simpa using hics) (all_oneCell_toArray h1c) ?_
    have hh := heap_setCells gD 58 cs (r * 64) X C hiD.dr hfit
    have hc : Chg gD (gD + 1) X (X.setCells gD (r * 64) cs) := Chg.setCells gD _ _ X
    have hBl := (Array.getElem?_eq_some_iff.1 HS.out.2.2.2).1
    have hwl := (Array.getElem?_eq_some_iff.1 hiD.ba).1
    have hN : LayI w p gD nB at' pv (splice C (r * 64) cs) (X.setCells gD (r * 64) cs) :=
      ⟨(hc.block _ (by omega) (by omega)).trans hiD.dv, hh, (hc.block _ (by omega) (by omega)).trans hiD.bv, (hc.block _ (by omega) (by omega)).trans hiD.ba, hiD.ch.step hc (by omega)⟩
    refine ⟨⟨hc.cell HS.out.1 (by omega), hc.cell HS.out.2.1 (by omega), hc.cell HS.out.2.2.1 (by omega), (hc.block _ hBl (by omega)).trans HS.out.2.2.2⟩, ?_⟩
    have kN : KeepM wL.heap.size M V (X.setCells gD (r * 64) cs) := kD.trans (KeepM.chg hc hVD (by omega))
    have sN : KeepS (fun k => k = b) V (X.setCells gD (r * 64) cs) := sD.trans (by rintro k rfl; exact hc.block k (by omega) (by omega))
    show wpAnyH _ _ _ _ _ 0 _ _ (X.setCells gD (r * 64) cs)
    generalize X.setCells gD (r * 64) cs = Y at *
    refine held_done (by kernel_rfl) ?_
    show (KeepM wL.heap.size M V Y ∧ KeepS (fun k => k = b) V Y) ∧ LayI w p gD nB at' pv (layC at' ys (vals (zs ++ [x])) cur) Y
    exact ⟨⟨kN, sN⟩, by rw [HSn.out]; exact hN⟩
  case done =>
    rintro M D zs V hD hS h hK'
    gi_wp2
    refine ⟨by simp, .inl ⟨_, _, rfl, run_takeDeferred hK', ?_⟩⟩
    refine ⟨_, results_none rfl _ _ _, rfl, ?_, ?_⟩
    · rw [World.putObj_heap_other (by omega), h.dr, hS, layC_range hys hat hcl K (Nat.le_refl _), List.take_of_length_le (by omega)]
    · exact h.ch.step (l := D) (r := D + 1) ⟨rfl, rfl, rfl, by simp, fun k _ ho => World.putObj_heap_other (by omega)⟩ (by omega)

end Go.Proofs.YtaciallijnhieaaDoor

namespace Go.Proofs.YtaciallijnhieaaDoor
open Go.RowKit

/-- The block b has these cells. -/
def ArrC (w : World) (b : Nat) (T : TypeId) (cs : List Value) : Prop := w.heap[b]? = some (.cells cs.toArray T (0, 0))
theorem ArrC.lt {w : World} {b : Nat} {T : TypeId} {cs : List Value} (h : ArrC w b T cs) : b < w.heap.size := (Array.getElem?_eq_some_iff.1 h).1
theorem ArrC.cell {w : World} {b : Nat} {T : TypeId} {cs : List Value} (h : ArrC w b T cs) (i : Nat) {v : Value} (hv : cs[i]? = some v) : w.cell? ⟨b, i, none⟩ = some v := by
  have h' : w.heap[b]? = some (.cells cs.toArray T (0, 0)) := h
  simp only [World.cell?, h']
  simpa using hv
theorem ArrC.frozen {w : World} {b : Nat} {T : TypeId} {cs : List Value} (h : ArrC w b T cs) (i : Nat) : w.frozen? ⟨b, i, none⟩ = false := by
  have h' : w.heap[b]? = some (.cells cs.toArray T (0, 0)) := h
  simp [World.frozen?, h']
theorem ArrC.put {w : World} {b : Nat} {T : TypeId} {cs : List Value} (h : ArrC w b T cs) (i : Nat) (v : Value) : ArrC (w.setCell ⟨b, i, none⟩ v) b T (cs.set i v) := by
  have h' : w.heap[b]? = some (.cells cs.toArray T (0, 0)) := h
  show (w.setCell ⟨b, i, none⟩ v).heap[b]? = _
  simp only [World.setCell, Array.getElem?_modify, if_true, h', Option.map_some]
  simp
theorem ArrC.chg {w w' : World} {b l r : Nat} {T : TypeId} {cs : List Value} (h : ArrC w b T cs) (c : Chg l r w w') (d : b < l ∨ r ≤ b) : ArrC w' b T cs := (c.block b h.lt d).trans h
theorem ArrC.range {w : World} {b : Nat} {T : TypeId} {cs : List Value} (h : ArrC w b T cs) : w.rangeAt b 0 cs := by
  intro j v hv
  rw [Nat.zero_add]
  exact h.cell j hv
theorem ArrC.new (w : World) (T : TypeId) (cs : List Value) : ArrC (w.alloc (.cells cs.toArray T)) w.heap.size T cs := heap_new w _

/-- One of an array that is a value. -/
theorem run_idx {P : Program} {t e : TypeId} {n : Nat} {kd : IntKind} {row : List Value} {k : Nat} {v : Value} (h : P.underlying t = some (.array n e)) (he : P.underlying e = some (.int kd)) (hs : (P.info? e).map (·.size) = some 1) (hk : k < n) (hv : row[k]? = some v) (w : World) :
    (Instr.index t (.agg row.toArray) (.int .i64 (k : Int))).run P w = .ok v w := by
  cases hq : P.info? e with
  | none => rw [hq] at hs; cases hs
  | some i =>
    have hs : i.size = 1 := by simpa [hq] using hs
    have hk' : 0 ≤ (k : Int) ∧ (k : Int) < (n : Int) := by omega
    have hkl : k < row.length := (List.getElem?_eq_some_iff.1 hv).1
    have hv' : row[k] = v := (List.getElem?_eq_some_iff.1 hv).2
    simp [Instr.index, run_underlying h, asIntOf, hk', part, isAgg, run_underlying he, sizeOf, typeInfo, hq, hs, hkl, hv', go_sem]
    intro hc
    omega

theorem results_ct {P : Program} {fn : Func} {p1 p3 : Tmp} {t1 : TypeId} {w : World} {tmps : Array Value} {a1 : Addr} {v1 v3 : Value} (h : fn.results = #[.cell p1 t1, .tmp p3]) (h1 : tmps.getD p1 undef = .pointer (some a1)) (h3 : tmps.getD p3 undef = v3)
    (hl : (loadVar t1 a1).run P w = .ok v1 w) : (results fn tmps).run P w = .ok (.tuple #[v1, v3]) w := by
  have h1' : tmps[p1]?.getD undef = .pointer (some a1) := by simpa using h1
  have h3' : tmps[p3]?.getD undef = v3 := by simpa using h3
  simp only [results, h]
  simp [asAddr, h1', h3', hl]

/-- A whole row is read, where it is wanted. -/
theorem wpList_load_midG {P : Program} {ops : Array Oper} {rest : List Oper} {op : Oper} {a : Act} {w : World} {Q : Exit → Act → World → Prop} (hgd : Region.wanted op (yielded ops a.tmps) = true) (ty : TypeId) (x : Operand) (ho : op.op = .load ty x)
    (b o : Nat) (hx : a.eval x = .pointer (some ⟨b, o, none⟩)) (cs : List Value) (d : TypeDesc) (hc : w.rangeAt b o cs)
    (hu : P.underlying ty = some d) (hd : d.isRow = true) (hi : (P.info? ty).map (·.size) = some cs.length)
    (h : wpList P ops Q rest (a.put op.dst (.agg cs.toArray)) w) : wpList P ops Q (op :: rest) a w :=
  wpList_step fun K hK => by rw [if_pos hgd]; exact wp_load_mid ty x ho b o hx cs d hc hu hd hi (hK _ _ h)

end Go.Proofs.YtaciallijnhieaaDoor

namespace Go.Proofs.YtaciallijnhieaaDoor
open Go.RowKit

/-- The cells of an inode. -/
def nC (i : Ino) : List Value := [.int .i64 i.kind, .int .i64 i.links, .int .i64 i.size] ++ i.dir.map (Value.int .i64) ++ [.int .i64 i.ind]
theorem nC_len {i : Ino} (h : i.dir.length = 8) : (nC i).length = 12 := by unfold nC; simp [h]
theorem nC_one (i : Ino) : ∀ v ∈ nC i, v.oneCell' = true := by
  intro v hv
  unfold nC at hv
  simp only [List.mem_append, List.mem_cons, List.not_mem_nil, or_false, List.mem_map] at hv
  rcases hv with ((rfl | rfl | rfl) | ⟨x, _, rfl⟩) | rfl <;> rfl
theorem nC_0 (i : Ino) : (nC i)[0]? = some (.int .i64 i.kind) := rfl
theorem nC_1 (i : Ino) : (nC i)[1]? = some (.int .i64 i.links) := rfl
theorem nC_2 (i : Ino) : (nC i)[2]? = some (.int .i64 i.size) := rfl
theorem nC_d (i : Ino) {j : Nat} (h : j < i.dir.length) : (nC i)[3 + j]? = some (.int .i64 (i.dir.getD j 0)) := by
  unfold nC
  rw [List.getElem?_append_left (by simp; omega), List.getElem?_append_right (by simp)]
  simp [List.getD_eq_getElem?_getD, h]
theorem nC_i {i : Ino} (h : i.dir.length = 8) : (nC i)[11]? = some (.int .i64 i.ind) := by
  unfold nC
  rw [List.getElem?_append_right (by simp; omega)]
  simp [h]
theorem nC_setd {i : Ino} (h : i.dir.length = 8) {j : Nat} (hj : j < 8) (x : Int) : (nC i).set (3 + j) (.int .i64 x) = nC { i with dir := i.dir.set j x } := by
  unfold nC
  rw [List.append_assoc, List.set_append, if_neg (by simp), List.set_append, if_pos (by simp; omega)]
  simp [List.map_set]
theorem nC_seti {i : Ino} (h : i.dir.length = 8) (x : Int) : (nC i).set 11 (.int .i64 x) = nC { i with ind := x } := by
  unfold nC
  rw [List.set_append, if_neg (by simp; omega)]
  simp [h]
/-- The eight numbers, where they lie. -/
theorem nC_range {w : World} {b : Nat} {T : TypeId} {i : Ino} (h : ArrC w b T (nC i)) : w.rangeAt b 3 (i.dir.map (Value.int .i64)) := by
  intro j v hv
  have hj : j < i.dir.length := by have := (List.getElem?_eq_some_iff.1 hv).1; simpa using this
  rw [h.cell (3 + j) (nC_d i hj), ← hv]
  simp [List.getD_eq_getElem?_getD, hj]

@[irreducible] def Z12 : List Value := List.replicate 12 (.int .i64 0)
theorem Z12_eq : (#[.int .i64 0, .int .i64 0, .int .i64 0, .int .i64 0, .int .i64 0, .int .i64 0, .int .i64 0, .int .i64 0, .int .i64 0, .int .i64 0, .int .i64 0, .int .i64 0] : Array Value) = Z12.toArray := by unfold Z12; rfl
theorem Z12_length : Z12.length = 12 := by unfold Z12; simp
def zeroI : Ino := ⟨0, 0, 0, [0, 0, 0, 0, 0, 0, 0, 0], 0⟩
theorem Z12_ino : Z12 = nC zeroI := by unfold Z12; rfl
theorem Tryd.sizeIno : (Tryd.prog.info? 98).map (·.size) = some 12 := by kernel_rfl
theorem Tryd.size8 : (Tryd.prog.info? 96).map (·.size) = some 8 := by kernel_rfl

theorem eight {ds : List Int} (h : ds.length = 8) : ∃ a b c d e f g k, ds = [a, b, c, d, e, f, g, k] := by
  match ds, h with
  | [a, b, c, d, e, f, g, k], _ => exact ⟨a, b, c, d, e, f, g, k, rfl⟩

end Go.Proofs.YtaciallijnhieaaDoor

namespace Go.Proofs.YtaciallijnhieaaDoor
open Go.RowKit

/-- The bytes of numbers, two each. -/
def putPs (xs : List Int) : List Int := xs.flatMap fun x => putN x 2
theorem put2_len {x : Int} (h : 0 ≤ x ∧ x < 2048) : (putN x 2).length = 2 := by
  unfold putN
  rw [if_neg (by omega), if_neg (by have : (256 : Int) ^ (2 : Int).toNat = 65536 := rfl; rw [this]; omega), digs_length]; rfl
theorem putPs_len {xs : List Int} (h : ∀ x ∈ xs, 0 ≤ x ∧ x < 2048) : (putPs xs).length = 2 * xs.length := by
  unfold putPs
  induction xs with
  | nil => rfl
  | cons x r ih =>
    rw [List.flatMap_cons, List.length_append, put2_len (h x (by simp)), ih (fun y hy => h y (by simp [hy])), List.length_cons]; omega
theorem putPs_take {xs : List Int} {k : Nat} (h : k < xs.length) : putPs (xs.take (k + 1)) = putPs (xs.take k) ++ putN (xs.getD k 0) 2 := by
  unfold putPs
  rw [List.take_succ_eq_append_getElem h, List.flatMap_append]
  simp [List.getD_eq_getElem?_getD, h]
theorem splice_more {c xs ys : List Value} {o : Nat} (h : o + xs.length + ys.length ≤ c.length) : splice (splice c o xs) (o + xs.length) ys = splice c o (xs ++ ys) := by
  have e0 : (c.take o).length = o := by rw [List.length_take]; omega
  have e1 : (c.take o ++ xs).length = o + xs.length := by rw [List.length_append, e0]
  have A : (c.take o ++ (xs ++ c.drop (o + xs.length))).take (o + xs.length) = c.take o ++ xs := by
    rw [← List.append_assoc, List.take_append_of_le_length (by rw [e1]; exact Nat.le_refl _), List.take_of_length_le (by rw [e1]; exact Nat.le_refl _)]
  have B : (c.take o ++ (xs ++ c.drop (o + xs.length))).drop (o + xs.length + ys.length) = c.drop (o + xs.length + ys.length) := by
    rw [← List.append_assoc, List.drop_append, List.drop_eq_nil_of_le (by rw [e1]; omega), List.nil_append, e1, List.drop_drop]
    congr 1; omega
  unfold splice
  simp only [List.append_assoc] at A B ⊢
  rw [A, B, List.length_append, List.append_assoc, show o + (xs.length + ys.length) = o + xs.length + ys.length by omega]
theorem splice_nil {c : List Value} {o : Nat} : splice c o [] = c := by unfold splice; simp

/-- What lies where bytes that are one's own are seen. -/
theorem OwnB.two {x : World} {base : Nat} {e : TypeId} {r : Value} {xs : List Int} {n : Nat} (o2 : OwnB x base e r xs) (hn : xs.length = n) (hp : 0 < n) (hb : n ≤ 1048576) :
    ∃ g gc, r = .slice (some ⟨g, 0, none⟩) n gc ∧ ∀ j v, (xs.map (Value.int .u8))[j]? = some v → x.cell? ((⟨g, 0, none⟩ : Addr).add j) = some v := by
  have hv := o2.view (hi := x.heap.size) (by omega) (fun g hg => (o2.lt g hg).2)
  rcases o2.2 with ⟨_, h0⟩ | ⟨g, gc, cur, rfl, hg, hh, h1, h2, h3, h4⟩
  · omega
  · refine ⟨g, gc, by rw [hn], fun j v hj => ?_⟩
    rw [Addr.add_mid, Nat.zero_add]
    have hj' : cur.toList[j]? = some v := by
      rw [← h4] at hj
      rw [List.getElem?_take] at hj
      split at hj
      · exact hj
      · cases hj
    simp only [World.cell?, hh]
    simpa using hj'

set_option maxRecDepth 20000 in
set_option maxHeartbeats 2000000 in
theorem putPointers_calls (w : World) (B o n cap : Nat) (T : TypeId) (cs : List Value) (hA : ArrC w B T cs) (xs : List Int) (b off c2 : Nat) (hbB : b ≠ B) (hl : xs.length ≤ 1000) (hn : 2 * xs.length ≤ n) (hcap : n ≤ cap) (hcap2 : cap ≤ 1048576) (hon : o + n ≤ cs.length)
    (hg : ∀ x ∈ xs, 0 ≤ x ∧ x < 2048) (h1 : ∀ i, i < xs.length → w.cell? ⟨b, off + i, none⟩ = some (.int .i64 (xs.getD i 0))) :
    Calls Tryd.prog 67 #[.slice (some ⟨B, o, none⟩) n cap, .slice (some ⟨b, off, none⟩) xs.length c2] w fun e w' => (∃ v, e = .returned v) ∧ ArrC w' B T (splice cs o ((putPs xs).map (Value.int .u8))) ∧ Chg B (B + 1) w w' := by
  go_enter Tryd.func67, Tryd.ntmps67
  go_wp2
  go_loopw [8] (fun x wr => ∃ k : Nat, k ≤ xs.length ∧ x = .int .i64 k ∧ ArrC wr B T (splice cs o ((putPs (xs.take k)).map (Value.int .u8))) ∧ Chg B (B + 1) w wr) (fun x _ => xs.length - (intOf x).toNat)
  case atStart => exact ⟨0, Nat.zero_le _, rfl, by rw [List.take_zero]; show ArrC _ _ _ (splice cs o []); rw [splice_nil]; exact hA, Chg.refl _ _ _⟩
  case round =>
    obtain ⟨k, hk, rfl, ho, hc⟩ := hrel
    by_cases hlt : k < xs.length
    · have c1 := hc.cell (h1 k hlt) (by omega)
      have hx : xs.getD k 0 = xs[k] := by simp [List.getD_eq_getElem?_getD, hlt]
      have hi : (k : Int) < (xs.length : Int) := by omega
      have hgx := hg _ (List.getElem_mem hlt)
      rw [← hx] at hgx
      have h2 := put2_len hgx
      have hxb := hgx.2
      have hkl : (putPs (xs.take k)).length = 2 * k := by rw [putPs_len (fun x hx => hg x (List.mem_of_mem_take hx)), List.length_take, Nat.min_eq_left hk]
      have HT : Hid (splice (splice cs o ((putPs (xs.take k)).map (Value.int .u8))) (o + 2 * k) ((putN (xs.getD k 0) 2).map (Value.int .u8)) = splice cs o ((putPs (xs.take (k + 1))).map (Value.int .u8))) := by
        show _ = _
        rw [putPs_take hlt, List.map_append, ← splice_more (by rw [List.length_map, List.length_map, hkl, h2]; omega), List.length_map, hkl]
      have HL : Hid ((splice cs o ((putPs (xs.take k)).map (Value.int .u8))).length = cs.length) := length_splice _ _ _ (by rw [List.length_map, hkl]; omega)
      have H2 : Hid ((putN (xs.getD k 0) 2).length = 2) := h2
      have HO : Hid (ArrC wr B T (splice cs o ((putPs (xs.take k)).map (Value.int .u8)))) := ho
      have HC : Hid (Chg B (B + 1) w wr) := hc
      generalize splice cs o ((putPs (xs.take k)).map (Value.int .u8)) = cur at *
      generalize xs.getD k 0 = x at *
      have q1 : (0 : Int) ≤ (k : Int) * 2 := by omega
      have q2 : (k : Int) * 2 ≤ (n : Int) := by omega
      have q3 : ((k : Int) * 2).toNat = 2 * k := by omega
      have q5 : ¬ cap = 2 * k := by omega
      have q4 : IntKind.i64.wrap ((k : Int) * 2) = (k : Int) * 2 := by rw [IntKind.wrap_i64]; omega
      clear hx hgx h2 hkl hg h1 ho hc hA
      go_upto_region 3 with fail
      have HS0 : Hid ((fun _ : World => True) wr.drew) := trivial
      refine held_region (fun _ : World => True) (by kernel_rfl) ?_
      refine held_take 0 (.slice (some ⟨B, o, none⟩) n cap) rfl (by kernel_rfl) (by kernel_rfl) (by kernel_rfl) (fun _ _ _ h => h) (.inl ⟨by kernel_rfl, fun w' hw' => by go_simp⟩) HS0.out ?_
      go_simp
      refine held_take 1 (.int .i64 (k : Int)) rfl (by kernel_rfl) (by kernel_rfl) (by kernel_rfl) (fun _ _ _ h => h) (.inl ⟨by kernel_rfl, fun w' hw' => by go_simp⟩) HS0.out ?_
      go_simp
      refine held_take 2 (.int .i64 ((k : Int) * 2)) rfl (by kernel_rfl) (by kernel_rfl) (by kernel_rfl) (fun _ _ _ h => h) (.inl ⟨by kernel_rfl, fun w' hw' => by go_simp⟩) HS0.out ?_
      go_simp
      refine held_take 3 (.slice (some ⟨B, o + 2 * k, none⟩) (n - 2 * k) (cap - 2 * k)) rfl (by kernel_rfl) (by kernel_rfl) (by kernel_rfl) (fun _ _ _ h => h) (.inl ⟨by kernel_rfl, fun w' hw' => by go_simp⟩) HS0.out ?_
      go_simp
      refine held_take 4 (.int .i64 x) rfl (by kernel_rfl) (by kernel_rfl) (by kernel_rfl) (fun _ _ _ h => h) (.inl ⟨by kernel_rfl, fun w' hw' => by go_simp⟩) HS0.out ?_
      go_simp
      have C0 : Chg 0 0 wr wr.drew := Chg.drew (Chg.refl 0 0 wr)
      have HO1 : Hid (ArrC wr.drew B T cur) := HO.out.chg C0 (by omega)
      have HC1 : Hid (Chg B (B + 1) w wr.drew) := HC.out.step C0 (Or.inr (Or.inr (Nat.le_refl _)))
      clear HO HC
      generalize wr.drew = x1 at *
      have hB1 := HO1.out.lt
      have hN := implPut_calls x1 x 2 (by omega)
      refine held_one 5 rfl rfl (by kernel_rfl) ?_
      refine wp_enter 47 #[.int .i64 x, .int .i64 2] (by first | kernel_rfl | go_simp) hN ?_
      rintro e x2 ⟨r, rfl, o2, c2⟩
      have HO2 : Hid (ArrC x2 B T cur) := HO1.out.chg c2 (by omega)
      have HC2 : Hid (Chg B (B + 1) w x2) := HC1.out.step c2 (Or.inr (Or.inr (Nat.le_refl _)))
      obtain ⟨g, gc, rfl, hcell⟩ := o2.two H2.out (by omega) (by omega)
      refine ⟨_, rfl, trivial, ?_⟩
      have Hcell : Hid (∀ j v, ((putN x 2).map (Value.int .u8))[j]? = some v → x2.cell? ((⟨g, 0, none⟩ : Addr).add j) = some v) := hcell
      clear hN o2 c2 hcell HO1 HC1 C0
      go_simp
      refine held_one 6 rfl rfl (by kernel_rfl) ?_
      refine wp_copy_row (.tmp 16) (.tmp 18) 24 24 rfl 5 Tryd.underlying24 (by kernel_rfl) B (o + 2 * k) (n - 2 * k) (cap - 2 * k) ⟨g, 0, none⟩ 2 gc rfl rfl cur T HO2.out ((putN x 2).map (Value.int .u8)) (by rw [List.length_map, H2.out]; exact (Nat.min_eq_left (by omega)).symm) Hcell.out (by rw [List.length_map, H2.out, HL.out]; omega) (by intro v hv; rw [List.mem_map] at hv; obtain ⟨y, _, rfl⟩ := hv; rfl) ?_
      intro x3 hb3 hc3
      have HO3 : Hid (ArrC x3 B T (splice cs o ((putPs (xs.take (k + 1))).map (Value.int .u8)))) := by show ArrC _ _ _ _; rw [← HT.out]; exact hb3.out
      have HC3 : Hid (Chg B (B + 1) w x3) := HC2.out.trans hc3
      refine ⟨trivial, ?_⟩
      clear hb3 hc3 Hcell HO2 HC2
      go_simp
      refine held_done (by kernel_rfl) (NoPanic.normal ?_)
      go_wp2
      go_roundw
      case rel => exact ⟨k + 1, by omega, by go_num, HO3.out, HC3.out⟩
      case measure => simp [intOf]; omega
    · obtain rfl : k = xs.length := by omega
      rw [List.take_length] at ho
      have HO : Hid (ArrC wr B T (splice cs o ((putPs xs).map (Value.int .u8)))) := ho
      clear ho h1 hg
      go_wp2
      refine bodyPost_end (results_none rfl _ _ _) rfl ?_
      exact ⟨⟨_, rfl⟩, HO.out, hc⟩

end Go.Proofs.YtaciallijnhieaaDoor

namespace Go.Proofs.YtaciallijnhieaaDoor
open Go.RowKit

set_option maxHeartbeats 400000 in
theorem isWithin_calls (w : World) (v l m : Int) : Calls Tryd.prog 45 #[.int .i64 v, .int .i64 l, .int .i64 m] w fun e w' => e = .returned (.bool (decide (l ≤ v) && decide (v ≤ m))) ∧ w' = w := by
  by_cases h1 : l ≤ v
  · by_cases h2 : v ≤ m
    · rw [decide_eq_true h1, decide_eq_true h2]
      go_enter Tryd.func45, Tryd.ntmps45
      go_wp2
      go_ret
      exact ⟨rfl, rfl⟩
    · rw [decide_eq_true h1, decide_eq_false h2]
      go_enter Tryd.func45, Tryd.ntmps45
      go_wp2
      go_ret
      exact ⟨rfl, rfl⟩
  · rw [decide_eq_false h1]
    go_enter Tryd.func45, Tryd.ntmps45
    go_wp2
    go_ret
    exact ⟨rfl, rfl⟩

end Go.Proofs.YtaciallijnhieaaDoor

namespace Go.Proofs.YtaciallijnhieaaDoor
open Go.RowKit

/-- A number that a block of some disk has. -/
def blkB (x : Int) : Bool := decide (0 ≤ x) && decide (x ≤ 2047)
theorem blkB_iff {x : Int} : blkB x = true ↔ 0 ≤ x ∧ x < 2048 := by unfold blkB; simp; omega

end Go.Proofs.YtaciallijnhieaaDoor

namespace Go.Proofs.YtaciallijnhieaaDoor
open Go.RowKit

@[irreducible] def Z32b : List Value := List.replicate 32 (.int .u8 0)
theorem Z32b_eq : (#[.int .u8 0, .int .u8 0, .int .u8 0, .int .u8 0, .int .u8 0, .int .u8 0, .int .u8 0, .int .u8 0, .int .u8 0, .int .u8 0, .int .u8 0, .int .u8 0, .int .u8 0, .int .u8 0, .int .u8 0, .int .u8 0, .int .u8 0, .int .u8 0, .int .u8 0, .int .u8 0, .int .u8 0, .int .u8 0, .int .u8 0, .int .u8 0, .int .u8 0, .int .u8 0, .int .u8 0, .int .u8 0, .int .u8 0, .int .u8 0, .int .u8 0, .int .u8 0] : Array Value) = Z32b.toArray := by unfold Z32b; rfl
theorem Z32b_length : Z32b.length = 32 := by unfold Z32b; simp
theorem Z32b_rep : Z32b = List.replicate 32 (.int .u8 0) := by unfold Z32b; rfl
theorem Tryd.sizeRec : (Tryd.prog.info? 95).map (·.size) = some 32 := by kernel_rfl

theorem splice_end (X A : List Value) (z : Value) (n o : Nat) (ho : o = X.length) : splice (X ++ List.replicate n z) o A = X ++ A ++ List.replicate (n - A.length) z := by
  subst ho
  unfold splice
  rw [List.take_left, List.drop_append, List.drop_eq_nil_of_le (by omega), List.nil_append, Nat.add_sub_cancel_left, List.drop_replicate, List.append_assoc]
theorem putAll_ps (xs : List Int) : putAll xs = putPs xs := by
  unfold putAll putPs
  rw [List.flatMap_def]

/-- What lies in memory while a record is written. -/
structure EncR (w x : World) (i : Ino) (cur : List Value) : Prop where
  b0 : ArrC x w.heap.size 98 (nC i)
  b1 : ArrC x (w.heap.size + 1) 95 Z32b
  b2 : ArrC x (w.heap.size + 1 + 1) 95 cur
  ch : Chg 0 0 w x
theorem EncR.chg {w x y : World} {i : Ino} {cur : List Value} (h : EncR w x i cur) (c : Chg 0 0 x y) : EncR w y i cur :=
  ⟨h.b0.chg c (by omega), h.b1.chg c (by omega), h.b2.chg c (by omega), h.ch.trans c⟩
theorem EncR.put {w x y : World} {i : Ino} {cur cur' : List Value} (h : EncR w x i cur) (c : Chg (w.heap.size + 1 + 1) (w.heap.size + 1 + 1 + 1) x y) (hb : ArrC y (w.heap.size + 1 + 1) 95 cur') : EncR w y i cur' :=
  ⟨h.b0.chg c (by omega), h.b1.chg c (by omega), hb, h.ch.step c (by omega)⟩
theorem EncR.set {w x : World} {i : Ino} {cur : List Value} (h : EncR w x i cur) (j : Nat) (v : Value) : EncR w (x.setCell ⟨w.heap.size + 1 + 1, j, none⟩ v) i (cur.set j v) :=
  h.put (Chg.setCell (Chg.refl _ _ x) (p := ⟨w.heap.size + 1 + 1, j, none⟩) (Or.inl ⟨Nat.le_refl _, Nat.lt_succ_self _⟩) _) (h.b2.put j v)

/-- An inode whose numbers have room in a record. -/
structure Fits (i : Ino) : Prop where
  kind : 0 ≤ i.kind ∧ i.kind < 256
  links : 0 ≤ i.links ∧ i.links < 256
  size : 0 ≤ i.size ∧ i.size ≤ 2560
  len : i.dir.length = 8
  dir : ∀ x ∈ i.dir, 0 ≤ x ∧ x < 2048
  ind : 0 ≤ i.ind ∧ i.ind < 2048
theorem Fits.of {i : Ino} (h : inoB i = true) : Fits i := by
  obtain ⟨h1, h2, h3, h4, h5, h6⟩ := ino_good h
  exact ⟨by omega, by omega, h3, h4, fun x hx => goodI_iff.1 (h5 x hx), h6⟩
theorem put2_size {s : Int} (h : 0 ≤ s ∧ s ≤ 2560) : (putN s 2).length = 2 := by
  unfold putN
  rw [if_neg (by omega), if_neg (by have : (256 : Int) ^ (2 : Int).toNat = 65536 := rfl; rw [this]; omega), digs_length]; rfl

def recV (i : Ino) : List Value := (inoL i).map (Value.int .u8)
theorem rec_made {i : Ino} (h : Fits i) :
    splice (splice (splice ((Z32b.set 0 (.int .u8 i.kind)).set 1 (.int .u8 i.links)) 2 ((putN i.size 2).map (Value.int .u8))) 4 ((putPs i.dir).map (Value.int .u8))) 20 ((putPs [i.ind]).map (Value.int .u8)) = recV i := by
  have hs := put2_size h.size
  have hd := putPs_len h.dir
  rw [h.len] at hd
  have hx := putPs_len (xs := [i.ind]) (fun x hx => by rw [List.mem_singleton.1 hx]; exact h.ind)
  have e0 : (Z32b.set 0 (.int .u8 i.kind)).set 1 (.int .u8 i.links) = [Value.int .u8 i.kind, .int .u8 i.links] ++ List.replicate 30 (.int .u8 0) := by rw [Z32b_rep]; rfl
  rw [e0, splice_end _ _ _ 30 2 rfl]
  simp only [List.length_map, hs]
  rw [splice_end _ _ _ (30 - 2) 4 (by simp [hs])]
  simp only [List.length_map, hd]
  rw [splice_end _ _ _ (30 - 2 - 2 * 8) 20 (by simp [hs, hd])]
  simp only [List.length_map, hx]
  unfold recV inoL
  rw [putAll_ps]
  simp only [List.map_append, List.map_cons, List.map_nil, List.map_replicate]
  have e1 : putPs [i.ind] = putN i.ind 2 := by unfold putPs; simp
  rw [e1]
  rfl

theorem fill_intP (A : Array Value) (hr : A.size = 1) (a : Int) (k : IntKind) : Instr.fill (fun i => some (i * 1, 1)) A [(0, .int k a)] = some #[.int k a] := by
  obtain ⟨l⟩ := A
  match l, hr with
  | [x], _ => simp [Instr.fill, Value.cells]

set_option maxRecDepth 20000 in
set_option maxHeartbeats 4000000 in
theorem encR_calls (w : World) (i : Ino) (hf : Fits i) :
    Calls Tryd.prog 55 #[.agg (nC i).toArray] w fun e w' => e = .returned (.agg (recV i).toArray) ∧ Chg 0 0 w w' := by
  have u48 := Tryd.underlying95
  obtain ⟨ic, hic, hcz0, hcz1, hcz2⟩ := info_parts Tryd.infoI
  have HE0 : Hid (EncR w (((w.alloc (.cells (nC i).toArray 98)).alloc (.cells Z32b.toArray 95)).alloc (.cells Z32b.toArray 95)) i Z32b) := by
    show EncR _ _ _ _
    obtain ⟨_, h1, h2, h3⟩ := alloc3 w (.cells (nC i).toArray 98) (.cells Z32b.toArray 95) (.cells Z32b.toArray 95)
    exact ⟨h1, h2, h3, ((Chg.alloc (Chg.refl 0 0 w) _).alloc _).alloc _⟩
  have HF : Hid (Fits i) := hf
  have HM : Hid (splice (splice (splice ((Z32b.set 0 (.int .u8 i.kind)).set 1 (.int .u8 i.links)) 2 ((putN i.size 2).map (Value.int .u8))) 4 ((putPs i.dir).map (Value.int .u8))) 20 ((putPs [i.ind]).map (Value.int .u8)) = recV i) := rec_made hf
  have k0 := hf.kind
  have k1 := hf.links
  have k2 := hf.size
  have k3 := hf.ind
  have e0 : IntKind.u8.wrap i.kind = i.kind := wrap_u8 k0.1 k0.2
  have e1 : IntKind.u8.wrap i.links = i.links := wrap_u8 k1.1 k1.2
  have H2 : Hid ((putN i.size 2).length = 2) := put2_size k2
  have hln : (recV i).length = 32 := by
    rw [← HM.out, length_splice, length_splice, length_splice]
    · rw [List.length_set, List.length_set, Z32b_length]
    · rw [List.length_map, H2.out, List.length_set, List.length_set, Z32b_length]; omega
    · rw [length_splice _ _ _ (by rw [List.length_map, H2.out, List.length_set, List.length_set, Z32b_length]; omega), List.length_map, putPs_len hf.dir, hf.len, List.length_set, List.length_set, Z32b_length]; omega
    · rw [length_splice _ _ _ (by rw [length_splice _ _ _ (by rw [List.length_map, H2.out, List.length_set, List.length_set, Z32b_length]; omega), List.length_map, putPs_len hf.dir, hf.len, List.length_set, List.length_set, Z32b_length]; omega), length_splice _ _ _ (by rw [List.length_map, H2.out, List.length_set, List.length_set, Z32b_length]; omega), List.length_map, putPs_len (xs := [i.ind]) (fun x hx => by rw [List.mem_singleton.1 hx]; exact k3), List.length_set, List.length_set, Z32b_length]; simp
  have Hln : Hid ((recV i).length = 32) := hln
  have hics : (Tryd.prog.info? 95).map (·.size) = some (recV i).length := by rw [hln]; exact Tryd.sizeRec
  have HV2 : Hid (∀ v ∈ recV i, v.oneCell' = true) := by show ∀ v ∈ recV i, v.oneCell' = true; unfold recV; exact ints_oneCell _ _
  clear hf hln
  go_enter Tryd.func55, Tryd.ntmps55
  go_upto_region 2 with fail
  simp only [Z32b_eq]
  generalize (((w.alloc (.cells (nC i).toArray 98)).alloc (.cells Z32b.toArray 95)).alloc (.cells Z32b.toArray 95)) = wa at *
  have c0 := HE0.out.b0.cell 0 (nC_0 i)
  have c20 := HE0.out.b2.cell 0 (v := .int .u8 0) (by rw [Z32b_rep]; rfl)
  have f20 := HE0.out.b2.frozen 0
  have HE1 : Hid (EncR w (wa.setCell ⟨w.heap.size + 1 + 1, 0, none⟩ (.int .u8 i.kind)) i (Z32b.set 0 (.int .u8 i.kind))) := HE0.out.set 0 _
  go_upto_region 3 with fail
  generalize wa.setCell ⟨w.heap.size + 1 + 1, 0, none⟩ (.int .u8 i.kind) = wb at *
  clear c0 c20 f20 HE0
  have c0 := HE1.out.b0.cell 1 (nC_1 i)
  have c20 := HE1.out.b2.cell 1 (v := .int .u8 0) (by rw [Z32b_rep]; rfl)
  have f20 := HE1.out.b2.frozen 1
  have HE2 : Hid (EncR w (wb.setCell ⟨w.heap.size + 1 + 1, 1, none⟩ (.int .u8 i.links)) i ((Z32b.set 0 (.int .u8 i.kind)).set 1 (.int .u8 i.links))) := HE1.out.set 1 _
  go_upto_region 4 with fail
  generalize wb.setCell ⟨w.heap.size + 1 + 1, 1, none⟩ (.int .u8 i.links) = wd at *
  have HLc : Hid (((Z32b.set 0 (.int .u8 i.kind)).set 1 (.int .u8 i.links)).length = 32) := by show _ = _; rw [List.length_set, List.length_set, Z32b_length]
  clear c0 c20 f20 HE1
  generalize (Z32b.set 0 (.int .u8 i.kind)).set 1 (.int .u8 i.links) = cA at *
  go_cut [16] (fun _ wx => EncR w wx i (splice cA 2 ((putN i.size 2).map (Value.int .u8))))
  case first =>
    have HB1 : Hid (EncR w wd.drew i cA) := HE2.out.chg (Chg.drew (Chg.refl 0 0 wd))
    have HS : Hid ((fun w' : World => ArrC w' w.heap.size 98 (nC i)) wd.drew) := HB1.out.b0
    refine held_region (fun w' : World => ArrC w' w.heap.size 98 (nC i)) (by kernel_rfl) ?_
    refine held_take 0 (.slice (some ⟨w.heap.size + 1 + 1, 2, none⟩) 30 30) rfl (by kernel_rfl) (by kernel_rfl) (by kernel_rfl) (fun _ _ _ h => h) (.inl ⟨by kernel_rfl, fun w' hw' => by go_simp⟩) HS.out ?_
    go_simp
    refine held_take 1 (.pointer (some ⟨w.heap.size, 2, none⟩)) rfl (by kernel_rfl) (by kernel_rfl) (by kernel_rfl) (fun _ _ _ h => h) (.inl ⟨by kernel_rfl, fun w' hw' => by go_simp⟩) HS.out ?_
    go_simp
    refine held_take 2 (.int .i64 i.size) rfl (by kernel_rfl) (by kernel_rfl) (by kernel_rfl) (fun _ _ _ h => h) (.inl ⟨by kernel_rfl, fun w' hw' => by have q := ArrC.cell hw' 2 (nC_2 i); go_simp⟩) HS.out ?_
    go_simp
    generalize wd.drew = x1 at *
    have hN := implPut_calls x1 i.size 2 (by omega)
    refine held_one 3 rfl rfl (by kernel_rfl) ?_
    refine wp_enter 47 #[.int .i64 i.size, .int .i64 2] (by first | kernel_rfl | go_simp) hN ?_
    rintro e x2 ⟨r, rfl, o2, c2⟩
    have HB2 : Hid (EncR w x2 i cA) := HB1.out.chg c2
    obtain ⟨g, gc, rfl, hcell⟩ := o2.two H2.out (by omega) (by omega)
    refine ⟨_, rfl, HB2.out.b0, ?_⟩
    have Hcell : Hid (∀ j v, ((putN i.size 2).map (Value.int .u8))[j]? = some v → x2.cell? ((⟨g, 0, none⟩ : Addr).add j) = some v) := hcell
    clear hN o2 c2 hcell HB1
    go_simp
    refine held_one 4 rfl rfl (by kernel_rfl) ?_
    refine wp_copy_row (.tmp 12) (.tmp 15) 24 24 rfl 5 Tryd.underlying24 (by kernel_rfl) (w.heap.size + 1 + 1) 2 30 30 ⟨g, 0, none⟩ 2 gc rfl rfl cA 95 HB2.out.b2 ((putN i.size 2).map (Value.int .u8)) (by rw [List.length_map, H2.out]; rfl) Hcell.out (by rw [List.length_map, H2.out, HLc.out]; omega) (by intro v hv; rw [List.mem_map] at hv; obtain ⟨y, _, rfl⟩ := hv; rfl) ?_
    intro x3 hb3 hc3
    have HB3 : Hid (EncR w x3 i (splice cA 2 ((putN i.size 2).map (Value.int .u8)))) := HB2.out.put hc3 hb3.out
    refine ⟨HB3.out.b0, ?_⟩
    clear hb3 hc3 Hcell HB2
    go_simp
    refine held_done (by kernel_rfl) (NoPanic.normal ?_)
    go_wp2
    go_meet
    exact HB3.out
  case rest =>
    have HE3 : Hid (EncR w wc i (splice cA 2 ((putN i.size 2).map (Value.int .u8)))) := hcut
    have HLd : Hid ((splice cA 2 ((putN i.size 2).map (Value.int .u8))).length = 32) := by show _ = _; rw [length_splice _ _ _ (by rw [List.length_map, H2.out, HLc.out]; omega), HLc.out]
    generalize splice cA 2 ((putN i.size 2).map (Value.int .u8)) = cB at *
    generalize wc = we at *
    clear hcut HE2 HLc
    go_upto_region 5 with fail
    go_cut [20] (fun _ wx => EncR w wx i (splice cB 4 ((putPs i.dir).map (Value.int .u8))))
    case first =>
      have HB1 : Hid (EncR w we.drew i cB) := HE3.out.chg (Chg.drew (Chg.refl 0 0 we))
      have HS : Hid ((fun w' : World => ArrC w' w.heap.size 98 (nC i)) we.drew) := HB1.out.b0
      refine held_region (fun w' : World => ArrC w' w.heap.size 98 (nC i)) (by kernel_rfl) ?_
      refine held_take 0 (.slice (some ⟨w.heap.size + 1 + 1, 4, none⟩) 28 28) rfl (by kernel_rfl) (by kernel_rfl) (by kernel_rfl) (fun _ _ _ h => h) (.inl ⟨by kernel_rfl, fun w' hw' => by go_simp⟩) HS.out ?_
      go_simp
      refine held_take 1 (.pointer (some ⟨w.heap.size, 3, none⟩)) rfl (by kernel_rfl) (by kernel_rfl) (by kernel_rfl) (fun _ _ _ h => h) (.inl ⟨by kernel_rfl, fun w' hw' => by go_simp⟩) HS.out ?_
      go_simp
      refine held_take 2 (.slice (some ⟨w.heap.size, 3, none⟩) 8 8) rfl (by kernel_rfl) (by kernel_rfl) (by kernel_rfl) (fun _ _ _ h => h) (.inl ⟨by kernel_rfl, fun w' hw' => by go_simp⟩) HS.out ?_
      go_simp
      generalize we.drew = x1 at *
      have hN := putPointers_calls x1 (w.heap.size + 1 + 1) 4 28 28 95 cB HB1.out.b2 i.dir w.heap.size 3 8 (by omega) (by rw [HF.out.len]; omega) (by rw [HF.out.len]; omega) (by omega) (by omega) (by rw [HLd.out]; omega) HF.out.dir (fun j hj => HB1.out.b0.cell (3 + j) (nC_d i hj))
      rw [HF.out.len] at hN
      refine held_one 3 rfl rfl (by kernel_rfl) ?_
      refine wp_enter 67 #[.slice (some ⟨w.heap.size + 1 + 1, 4, none⟩) 28 28, .slice (some ⟨w.heap.size, 3, none⟩) 8 8] (by first | kernel_rfl | go_simp) hN ?_
      rintro e x2 ⟨⟨v, rfl⟩, ha2, c2⟩
      have HB2 : Hid (EncR w x2 i (splice cB 4 ((putPs i.dir).map (Value.int .u8)))) := HB1.out.put c2 ha2
      refine ⟨_, rfl, HB2.out.b0, ?_⟩
      clear hN ha2 c2 HB1
      go_simp
      refine held_done (by kernel_rfl) (NoPanic.normal ?_)
      go_wp2
      go_meet
      exact HB2.out
    case rest =>
      have HE4 : Hid (EncR w wc i (splice cB 4 ((putPs i.dir).map (Value.int .u8)))) := hcut
      have HLe : Hid ((splice cB 4 ((putPs i.dir).map (Value.int .u8))).length = 32) := by show _ = _; rw [length_splice _ _ _ (by rw [List.length_map, putPs_len HF.out.dir, HF.out.len, HLd.out]; omega), HLd.out]
      generalize splice cB 4 ((putPs i.dir).map (Value.int .u8)) = cD at *
      generalize wc = wf at *
      clear hcut HE3 HLd
      go_upto_region 6 with fail
      go_cut [25] (fun _ wx => EncR w wx i (recV i))
      case first =>
        have HB1 : Hid (EncR w wf.drew i cD) := HE4.out.chg (Chg.drew (Chg.refl 0 0 wf))
        have HS : Hid ((fun w' : World => ArrC w' w.heap.size 98 (nC i)) wf.drew) := HB1.out.b0
        refine held_region (fun w' : World => ArrC w' w.heap.size 98 (nC i)) (by kernel_rfl) ?_
        refine held_take 0 (.slice (some ⟨w.heap.size + 1 + 1, 20, none⟩) 12 12) rfl (by kernel_rfl) (by kernel_rfl) (by kernel_rfl) (fun _ _ _ h => h) (.inl ⟨by kernel_rfl, fun w' hw' => by go_simp⟩) HS.out ?_
        go_simp
        refine held_take 1 (.pointer (some ⟨w.heap.size, 11, none⟩)) rfl (by kernel_rfl) (by kernel_rfl) (by kernel_rfl) (fun _ _ _ h => h) (.inl ⟨by kernel_rfl, fun w' hw' => by go_simp⟩) HS.out ?_
        go_simp
        refine held_take 2 (.int .i64 i.ind) rfl (by kernel_rfl) (by kernel_rfl) (by kernel_rfl) (fun _ _ _ h => h) (.inl ⟨by kernel_rfl, fun w' hw' => by have q := ArrC.cell hw' 11 (nC_i HF.out.len); go_simp⟩) HS.out ?_
        go_simp
        generalize wf.drew = x1 at *
        refine held_one 3 rfl rfl (by kernel_rfl) ?_
        refine wp_buildSlice 49 2 1 #[(0, .tmp 23)] rfl #[.int .i64 i.ind] ic _ Tryd.underlying49 hic hcz0 (by rw [hcz1]; decide) (by rw [hcz1]; decide) (by rw [hcz1, Array.toList_map]; refine fill_intP _ ?_ _ _; simp) ?_
        have hs1 := (HB1.out.b2).lt
        have HB2 : Hid (EncR w (x1.alloc (.cells #[.int .i64 i.ind] 2)) i cD) := HB1.out.chg (Chg.alloc (Chg.refl 0 0 x1) _)
        have hnew := heap_new x1 (.cells #[.int .i64 i.ind] 2)
        have hN := putPointers_calls (x1.alloc (.cells #[.int .i64 i.ind] 2)) (w.heap.size + 1 + 1) 20 12 12 95 cD HB2.out.b2 [i.ind] x1.heap.size 0 1 (by omega) (by simp) (by simp) (by omega) (by omega) (by rw [HLe.out]; omega) (fun y hy => by rw [List.mem_singleton.1 hy]; exact k3) (fun j hj => by
          obtain rfl : j = 0 := by simpa using hj
          simp only [World.cell?, hnew]; rfl)
        rw [HM.out] at hN
        generalize x1.heap.size = M at *
        generalize x1.alloc (.cells #[.int .i64 i.ind] 2) = x2 at *
        refine ⟨HB2.out.b0, ?_⟩
        clear hnew HB1 hs1
        go_simp
        refine held_one 4 rfl rfl (by kernel_rfl) ?_
        refine wp_enter 67 #[.slice (some ⟨w.heap.size + 1 + 1, 20, none⟩) 12 12, .slice (some ⟨M, 0, none⟩) 1 1] (by first | kernel_rfl | go_simp) hN ?_
        rintro e x3 ⟨⟨v, rfl⟩, ha2, c2⟩
        have HB3 : Hid (EncR w x3 i (recV i)) := HB2.out.put c2 ha2
        refine ⟨_, rfl, HB3.out.b0, ?_⟩
        clear hN ha2 c2 HB2
        go_simp
        refine held_done (by kernel_rfl) (NoPanic.normal ?_)
        go_wp2
        go_meet
        exact HB3.out
      case rest =>
        have HBm : Hid (EncR w wc i (recV i)) := hcut
        generalize wc = wz at *
        have HR : Hid (wz.rangeAt (w.heap.size + 1 + 1) 0 (recV i)) := HBm.out.b2.range
        have HB1 : Hid (wz.heap[w.heap.size + 1]? = some (.cells Z32b.toArray 95 (0, 0))) := HBm.out.b1
        clear hcut HE4 HLe
        generalize hcs : recV i = cs at *
        have Hcs : Hid (recV i = cs) := hcs
        clear hcs
        go_wp2_with (first
          | (refine wpList_load_mid rfl 95 (.tmp 3) rfl (w.heap.size + 1 + 1) 0 rfl cs _ HR.out u48 rfl hics ?_)
          | (refine wpList_store_row rfl 95 (.tmp 2) (.tmp 26) rfl rfl (w.heap.size + 1) rfl cs Z32b 95 rfl HB1.out (by rw [Z32b_length]; exact Hln.out) hics HV2.out ?_; intro wg hbg hcg))
        have HCg : Hid (Chg 0 0 w wg) := HBm.out.ch.step hcg (by omega)
        have hl1 : (loadVar 95 ⟨w.heap.size + 1, 0, none⟩).run Tryd.prog wg = .ok (.agg cs.toArray) wg := run_loadVar_mid _ _ _ _ cs _ (row_rng hbg) u48 rfl hics
        go_wp2
        exact bodyPost_ret (v := .agg cs.toArray) (results_one Tryd.results55 rfl hl1) rfl ⟨by rw [Hcs.out], HCg.out⟩

end Go.Proofs.YtaciallijnhieaaDoor

namespace Go.Proofs.YtaciallijnhieaaDoor
open Go.RowKit

/-- The first block of the table of inodes of a new disk. -/
def rootL : List Int := [2, 1] ++ List.replicate 62 0
@[irreducible] def rootV : List Value := rootL.map (Value.int .u8)
theorem rootV_length : rootV.length = 64 := by unfold rootV; rfl

/-- The root's inode. -/
def rootNo : Ino := ⟨2, 1, 0, [0, 0, 0, 0, 0, 0, 0, 0], 0⟩
theorem rootNo_fits : Fits rootNo := ⟨by decide, by decide, by decide, rfl, by decide, by decide⟩
theorem rootNo_rec : recV rootNo = ([2, 1] ++ List.replicate 30 (0 : Int)).map (Value.int .u8) := by unfold recV; rfl
theorem rootNo_arr : (#[.int .i64 2, .int .i64 1, .int .i64 0, .int .i64 0, .int .i64 0, .int .i64 0, .int .i64 0, .int .i64 0, .int .i64 0, .int .i64 0, .int .i64 0, .int .i64 0] : Array Value) = (nC rootNo).toArray := rfl
theorem root_splice : splice Z64 0 (recV rootNo) = rootV := by
  rw [rootNo_rec]
  unfold Z64 rootV splice
  rfl

set_option maxRecDepth 20000 in
set_option maxHeartbeats 1000000 in
theorem rootBlock_calls (w : World) : Calls Tryd.prog 29 #[] w fun e w' => e = .returned (.agg rootV.toArray) ∧ Chg 0 0 w w' := by
  have hics : (Tryd.prog.info? 58).map (·.size) = some rootV.length := by rw [rootV_length]; kernel_rfl
  have h1c : ∀ v ∈ rootV, v.oneCell' = true := by unfold rootV; exact ints_oneCell _ _
  have u44 := Tryd.underlying58
  have Hlr : Hid (rootV.length = 64) := rootV_length
  have hrl : (recV rootNo).length = 32 := by rw [rootNo_rec]; rfl
  have Hrl : Hid ((recV rootNo).length = 32) := hrl
  have hicr : (Tryd.prog.info? 95).map (·.size) = some (recV rootNo).length := by rw [hrl]; exact Tryd.sizeRec
  have HV2 : Hid (∀ v ∈ recV rootNo, v.oneCell' = true) := by show ∀ v ∈ recV rootNo, v.oneCell' = true; unfold recV; exact ints_oneCell _ _
  have HSp : Hid (splice Z64 0 (recV rootNo) = rootV) := root_splice
  have hN4 := fun w' => encR_calls w' rootNo rootNo_fits
  rw [← rootNo_arr] at hN4
  generalize recV rootNo = rs at *
  clear hrl
  go_enter Tryd.func29, Tryd.ntmps29
  go_upto_region 1 with fail
  have hn := heap_new w (.cells Z64.toArray 58)
  simp only [Z64_eq]
  have hA : Chg 0 0 w (w.alloc (.cells Z64.toArray 58)) := Chg.alloc (Chg.refl 0 0 w) _
  generalize w.alloc (.cells Z64.toArray 58) = wa at *
  go_upto_region 3 with (first
    | (go_at_call 55; refine (hN4 _).mono ?_; clear hN4; rintro e w5 ⟨rfl, hc5⟩)
    | (refine wpList_store_row rfl 95 (.tmp 1) (.tmp 4) rfl rfl w5.heap.size rfl rs Z32b 95 rfl (by rw [← Z32b_eq]; exact heap_new w5 _) (by rw [Z32b_length]; exact Hrl.out) hicr HV2.out ?_; intro wh hbh hch))
  simp only [Z64_eq]
  have C5 := hA.trans hc5
  have C6 : Chg 0 0 w wh := C5.trans ((Chg.alloc (Chg.refl 0 0 w5) _).step hch (by omega))
  have hs5 : w5.heap.size < wh.heap.size := (Array.getElem?_eq_some_iff.1 hbh).1
  have hs0 : w.heap.size < w5.heap.size := Nat.lt_of_lt_of_le (Array.getElem?_eq_some_iff.1 hn).1 hc5.size
  have hr0 : wh.heap[w.heap.size]? = some (.cells Z64.toArray 58 (0, 0)) := by
    have h1 := (hc5.block _ (Array.getElem?_eq_some_iff.1 hn).1 (by omega)).trans hn
    exact (((Chg.alloc (Chg.refl 0 0 w5) _).step hch (by omega) : Chg 0 0 w5 wh).block _ hs0 (by omega)).trans h1
  have C7 : Chg 0 0 wh (wh.alloc (.cells Z64.toArray 58)) := Chg.alloc (Chg.refl 0 0 wh) _
  have HRt : Hid ((wh.alloc (.cells Z64.toArray 58)).drew.heap[w.heap.size]? = some (.cells Z64.toArray 58 (0, 0))) := (C7.block _ (by omega) (by omega)).trans hr0
  have HRec : Hid ((wh.alloc (.cells Z64.toArray 58)).drew.heap[w5.heap.size]? = some (.cells rs.toArray 95 (0, 0))) := (C7.block _ hs5 (by omega)).trans hbh
  have HBl : Hid ((wh.alloc (.cells Z64.toArray 58)).drew.heap[wh.heap.size]? = some (.cells Z64.toArray 58 (0, 0))) := heap_new wh _
  have HC : Hid (Chg 0 0 w (wh.alloc (.cells Z64.toArray 58)).drew) := (C6.trans C7).drew
  have HS0 : Hid ((fun _ : World => True) (wh.alloc (.cells Z64.toArray 58)).drew) := trivial
  clear C5 C6 C7 hr0 hbh hch hc5 hA hn
  refine held_region (fun _ : World => True) (by kernel_rfl) ?_
  generalize (wh.alloc (.cells Z64.toArray 58)).drew = x1 at *
  generalize w5.heap.size = M at *
  generalize wh.heap.size = N at *
  refine held_take 0 (.slice (some ⟨N, 0, none⟩) 64 64) rfl (by kernel_rfl) (by kernel_rfl) (by kernel_rfl) (fun _ _ _ h => h) (.inl ⟨by kernel_rfl, fun w' hw' => by go_simp⟩) HS0.out ?_
  go_simp
  refine held_take 1 (.slice (some ⟨M, 0, none⟩) 32 32) rfl (by kernel_rfl) (by kernel_rfl) (by kernel_rfl) (fun _ _ _ h => h) (.inl ⟨by kernel_rfl, fun w' hw' => by go_simp⟩) HS0.out ?_
  go_simp
  refine held_one 2 rfl rfl (by kernel_rfl) ?_
  refine wp_copy_row (.tmp 5) (.tmp 6) 24 24 rfl 5 Tryd.underlying24 (by kernel_rfl) N 0 64 64 ⟨M, 0, none⟩ 32 32 rfl rfl Z64 58 HBl.out rs (by rw [Hrl.out]; rfl) (fun j v hj => by
      rw [Addr.add_mid, Nat.zero_add]
      have h := HRec.out
      simp only [World.cell?, h]
      simpa using hj) (by rw [Hrl.out, Z64_length]; omega) HV2.out ?_
  intro x3 hb3 hc3
  have HB3 : Hid (x3.heap[N]? = some (.cells rootV.toArray 58 (0, 0))) := by show _ = _; rw [← HSp.out]; exact hb3.out
  have HC3 : Hid (Chg 0 0 w x3) := HC.out.step hc3 (by omega)
  have HR3 : Hid (x3.heap[w.heap.size]? = some (.cells Z64.toArray 58 (0, 0))) := (hc3.block _ (Array.getElem?_eq_some_iff.1 HRt.out).1 (by omega)).trans HRt.out
  refine ⟨trivial, ?_⟩
  clear hb3 hc3 HRt HRec HBl HC
  go_simp
  refine held_done (by kernel_rfl) (NoPanic.normal ?_)
  go_wp2_with (first
    | (refine wpList_load_mid rfl 58 (.tmp 2) rfl N 0 rfl rootV _ (row_rng HB3.out) u44 rfl hics ?_)
    | (refine wpList_store_row rfl 58 (.tmp 0) (.tmp 8) rfl rfl w.heap.size rfl rootV Z64 58 rfl HR3.out (by rw [Z64_length]; exact Hlr.out) hics h1c ?_; intro wg hbg hcg))
  have HCg : Hid (Chg 0 0 w wg) := HC3.out.step hcg (by omega)
  have hl1 : (loadVar 58 ⟨w.heap.size, 0, none⟩).run Tryd.prog wg = .ok (.agg rootV.toArray) wg := run_loadVar_mid _ _ _ _ rootV _ (row_rng hbg) u44 rfl hics
  go_wp2
  exact bodyPost_ret (v := .agg rootV.toArray) (results_one Tryd.results29 rfl hl1) rfl ⟨rfl, HCg.out⟩

end Go.Proofs.YtaciallijnhieaaDoor

namespace Go.Proofs.YtaciallijnhieaaDoor
open Go.RowKit

set_option maxRecDepth 20000 in
set_option maxHeartbeats 1000000 in
theorem newHeader_calls (w : World) (kd it sq : Int) (m0 : w.cell? ⟨1, 0, none⟩ = some (.int .u8 106)) (m1 : w.cell? ⟨1, 1, none⟩ = some (.int .u8 108)) (m2 : w.cell? ⟨1, 2, none⟩ = some (.int .u8 111)) (m3 : w.cell? ⟨1, 3, none⟩ = some (.int .u8 103)) :
    Calls Tryd.prog 49 #[.int .i64 kd, .int .i64 it, .int .i64 sq] w fun e w' => e = .returned (.agg #[.int .u8 106, .int .u8 108, .int .u8 111, .int .u8 103, .int .i64 kd, .int .i64 it, .int .i64 sq]) ∧ Chg 0 0 w w' := by
  have C0 : Chg 0 0 w (w.alloc (.cells #[.int .u8 0, .int .u8 0, .int .u8 0, .int .u8 0, .int .i64 0, .int .i64 0, .int .i64 0] 62)) := Chg.alloc (Chg.refl 0 0 w) _
  have n0 := C0.cell m0 (by omega)
  have n1 := C0.cell m1 (by omega)
  have n2 := C0.cell m2 (by omega)
  have n3 := C0.cell m3 (by omega)
  have HC : Hid (Chg 0 0 w (w.alloc (.cells #[.int .u8 106, .int .u8 108, .int .u8 111, .int .u8 103, .int .i64 kd, .int .i64 it, .int .i64 sq] 62))) := Chg.alloc (Chg.refl 0 0 w) _
  clear C0
  go_enter Tryd.func49, Tryd.ntmps49
  go_wp2
  exact bodyPost_ret (v := .agg #[.int .u8 106, .int .u8 108, .int .u8 111, .int .u8 103, .int .i64 kd, .int .i64 it, .int .i64 sq]) (by simp [results, Tryd.results49, go_sem]) rfl ⟨rfl, HC.out⟩

end Go.Proofs.YtaciallijnhieaaDoor

namespace Go.Proofs.YtaciallijnhieaaDoor
open Go.RowKit

set_option maxRecDepth 20000 in
set_option maxHeartbeats 2000000 in
theorem superOf_calls (w : World) (c s q : Int) (m0 : w.cell? ⟨1, 0, none⟩ = some (.int .u8 106)) (m1 : w.cell? ⟨1, 1, none⟩ = some (.int .u8 108)) (m2 : w.cell? ⟨1, 2, none⟩ = some (.int .u8 111)) (m3 : w.cell? ⟨1, 3, none⟩ = some (.int .u8 103)) :
    Calls Tryd.prog 24 #[.agg #[.int .i64 c, .int .i64 s, .int .i64 q]] w fun e w' => e = .returned (.agg #[.int .u8 106, .int .u8 108, .int .u8 111, .int .u8 103, .int .i64 1, .int .i64 c, .int .i64 q, .int .i64 s]) ∧ Chg 0 0 w w' := by
  have C0 : Chg 0 0 w ((w.alloc (.cells #[.int .i64 c, .int .i64 s, .int .i64 q] 43)).alloc (.cells #[.int .u8 0, .int .u8 0, .int .u8 0, .int .u8 0, .int .i64 0, .int .i64 0, .int .i64 0, .int .i64 0] 64)) := (Chg.alloc (Chg.refl 0 0 w) _).alloc _
  have B0 : ((w.alloc (.cells #[.int .i64 c, .int .i64 s, .int .i64 q] 43)).alloc (.cells #[.int .u8 0, .int .u8 0, .int .u8 0, .int .u8 0, .int .i64 0, .int .i64 0, .int .i64 0, .int .i64 0] 64)).heap[w.heap.size]? = some (.cells #[.int .i64 c, .int .i64 s, .int .i64 q] 43 (0, 0)) := alloc_two _ _ _
  have B1 : ((w.alloc (.cells #[.int .i64 c, .int .i64 s, .int .i64 q] 43)).alloc (.cells #[.int .u8 0, .int .u8 0, .int .u8 0, .int .u8 0, .int .i64 0, .int .i64 0, .int .i64 0, .int .i64 0] 64)).heap[w.heap.size + 1]? = some (.cells #[.int .u8 0, .int .u8 0, .int .u8 0, .int .u8 0, .int .i64 0, .int .i64 0, .int .i64 0, .int .i64 0] 64 (0, 0)) := alloc_twoN _ _ _
  have hlt : w.heap.size + 1 < ((w.alloc (.cells #[.int .i64 c, .int .i64 s, .int .i64 q] 43)).alloc (.cells #[.int .u8 0, .int .u8 0, .int .u8 0, .int .u8 0, .int .i64 0, .int .i64 0, .int .i64 0, .int .i64 0] 64)).heap.size := (Array.getElem?_eq_some_iff.1 B1).1
  have HM : Hid (w.cell? ⟨1, 0, none⟩ = some (.int .u8 106) ∧ w.cell? ⟨1, 1, none⟩ = some (.int .u8 108) ∧ w.cell? ⟨1, 2, none⟩ = some (.int .u8 111) ∧ w.cell? ⟨1, 3, none⟩ = some (.int .u8 103)) := ⟨m0, m1, m2, m3⟩
  obtain ⟨k0, k1, k2⟩ := trio B0
  have HC0 : Hid (Chg 0 0 w ((w.alloc (.cells #[.int .i64 c, .int .i64 s, .int .i64 q] 43)).alloc (.cells #[.int .u8 0, .int .u8 0, .int .u8 0, .int .u8 0, .int .i64 0, .int .i64 0, .int .i64 0, .int .i64 0] 64))) := C0
  have HB1 : Hid (((w.alloc (.cells #[.int .i64 c, .int .i64 s, .int .i64 q] 43)).alloc (.cells #[.int .u8 0, .int .u8 0, .int .u8 0, .int .u8 0, .int .i64 0, .int .i64 0, .int .i64 0, .int .i64 0] 64)).heap[w.heap.size + 1]? = some (.cells #[.int .u8 0, .int .u8 0, .int .u8 0, .int .u8 0, .int .i64 0, .int .i64 0, .int .i64 0, .int .i64 0] 64 (0, 0))) := B1
  have HS0 : Hid (((w.alloc (.cells #[.int .i64 c, .int .i64 s, .int .i64 q] 43)).alloc (.cells #[.int .u8 0, .int .u8 0, .int .u8 0, .int .u8 0, .int .i64 0, .int .i64 0, .int .i64 0, .int .i64 0] 64)).drew.cell? ⟨w.heap.size, 0, none⟩ = some (.int .i64 c) ∧ ((w.alloc (.cells #[.int .i64 c, .int .i64 s, .int .i64 q] 43)).alloc (.cells #[.int .u8 0, .int .u8 0, .int .u8 0, .int .u8 0, .int .i64 0, .int .i64 0, .int .i64 0, .int .i64 0] 64)).drew.cell? ⟨w.heap.size, 1, none⟩ = some (.int .i64 s) ∧ ((w.alloc (.cells #[.int .i64 c, .int .i64 s, .int .i64 q] 43)).alloc (.cells #[.int .u8 0, .int .u8 0, .int .u8 0, .int .u8 0, .int .i64 0, .int .i64 0, .int .i64 0, .int .i64 0] 64)).drew.cell? ⟨w.heap.size, 2, none⟩ = some (.int .i64 q)) := ⟨k0, k1, k2⟩
  clear C0 B0 B1 m0 m1 m2 m3 k0 k1 k2
  go_enter Tryd.func24, Tryd.ntmps24
  go_upto_region 1 with fail
  generalize ((w.alloc (.cells #[.int .i64 c, .int .i64 s, .int .i64 q] 43)).alloc (.cells #[.int .u8 0, .int .u8 0, .int .u8 0, .int .u8 0, .int .i64 0, .int .i64 0, .int .i64 0, .int .i64 0] 64)) = wa at *
  refine held_region (fun w' : World => w'.cell? ⟨w.heap.size, 0, none⟩ = some (.int .i64 c) ∧ w'.cell? ⟨w.heap.size, 1, none⟩ = some (.int .i64 s) ∧ w'.cell? ⟨w.heap.size, 2, none⟩ = some (.int .i64 q)) (by kernel_rfl) ?_
  refine held_take 0 (.pointer (some ⟨w.heap.size, 0, none⟩)) rfl (by kernel_rfl) (by kernel_rfl) (by kernel_rfl) (fun _ _ _ h => h) (.inl ⟨by kernel_rfl, fun w' hw' => by have h4 := hw'.1; have h5 := hw'.2.1; have h6 := hw'.2.2; go_simp⟩) HS0.out ?_
  go_simp
  refine held_take 1 (.int .i64 c) rfl (by kernel_rfl) (by kernel_rfl) (by kernel_rfl) (fun _ _ _ h => h) (.inl ⟨by kernel_rfl, fun w' hw' => by have h4 := hw'.1; have h5 := hw'.2.1; have h6 := hw'.2.2; go_simp⟩) HS0.out ?_
  go_simp
  refine held_take 2 (.pointer (some ⟨w.heap.size, 2, none⟩)) rfl (by kernel_rfl) (by kernel_rfl) (by kernel_rfl) (fun _ _ _ h => h) (.inl ⟨by kernel_rfl, fun w' hw' => by have h4 := hw'.1; have h5 := hw'.2.1; have h6 := hw'.2.2; go_simp⟩) HS0.out ?_
  go_simp
  refine held_take 3 (.int .i64 q) rfl (by kernel_rfl) (by kernel_rfl) (by kernel_rfl) (fun _ _ _ h => h) (.inl ⟨by kernel_rfl, fun w' hw' => by have h4 := hw'.1; have h5 := hw'.2.1; have h6 := hw'.2.2; go_simp⟩) HS0.out ?_
  go_simp
  refine held_take 5 (.pointer (some ⟨w.heap.size, 1, none⟩)) rfl (by kernel_rfl) (by kernel_rfl) (by kernel_rfl) (fun _ _ _ h => h) (.inl ⟨by kernel_rfl, fun w' hw' => by have h4 := hw'.1; have h5 := hw'.2.1; have h6 := hw'.2.2; go_simp⟩) HS0.out ?_
  go_simp
  refine held_take 6 (.int .i64 s) rfl (by kernel_rfl) (by kernel_rfl) (by kernel_rfl) (fun _ _ _ h => h) (.inl ⟨by kernel_rfl, fun w' hw' => by have h4 := hw'.1; have h5 := hw'.2.1; have h6 := hw'.2.2; go_simp⟩) HS0.out ?_
  go_simp
  have HC1 : Hid (Chg 0 0 w wa.drew) := HC0.out.drew
  have HB2 : Hid (wa.drew.heap[w.heap.size + 1]? = some (.cells #[.int .u8 0, .int .u8 0, .int .u8 0, .int .u8 0, .int .i64 0, .int .i64 0, .int .i64 0, .int .i64 0] 64 (0, 0))) := HB1.out
  have hlt2 : w.heap.size + 1 < wa.drew.heap.size := hlt
  generalize wa.drew = w1 at *
  have hN := newHeader_calls w1 1 c q (HC1.out.cell HM.out.1 (by omega)) (HC1.out.cell HM.out.2.1 (by omega)) (HC1.out.cell HM.out.2.2.1 (by omega)) (HC1.out.cell HM.out.2.2.2 (by omega))
  refine held_one 4 rfl rfl (by kernel_rfl) ?_
  refine wp_enter 49 #[.int .i64 1, .int .i64 c, .int .i64 q] (by first | kernel_rfl | go_simp) hN ?_
  rintro e w2 ⟨rfl, h2⟩
  have HS2 : Hid (w2.cell? ⟨w.heap.size, 0, none⟩ = some (.int .i64 c) ∧ w2.cell? ⟨w.heap.size, 1, none⟩ = some (.int .i64 s) ∧ w2.cell? ⟨w.heap.size, 2, none⟩ = some (.int .i64 q)) := ⟨h2.cell HS0.out.1 (by omega), h2.cell HS0.out.2.1 (by omega), h2.cell HS0.out.2.2 (by omega)⟩
  have HC2 : Hid (Chg 0 0 w w2) := HC1.out.trans h2
  have HB3 : Hid (w2.heap[w.heap.size + 1]? = some (.cells #[.int .u8 0, .int .u8 0, .int .u8 0, .int .u8 0, .int .i64 0, .int .i64 0, .int .i64 0, .int .i64 0] 64 (0, 0))) := (h2.block (w.heap.size + 1) hlt2 (by omega)).trans HB2.out
  refine ⟨_, rfl, HS2.out, ?_⟩
  clear hN h2
  go_simp
  refine held_take 7 (.agg #[.int .u8 106, .int .u8 108, .int .u8 111, .int .u8 103, .int .i64 1, .int .i64 c, .int .i64 q, .int .i64 s]) rfl (by kernel_rfl) (by kernel_rfl) (by kernel_rfl) (fun _ _ _ h => h) (.inl ⟨by kernel_rfl, fun w' hw' => by have h4 := hw'.1; have h5 := hw'.2.1; have h6 := hw'.2.2; go_simp⟩) HS2.out ?_
  go_simp
  refine held_one 8 rfl rfl (by kernel_rfl) ?_
  refine wp_store_row 64 (.tmp 2) (.tmp 10) rfl rfl (w.heap.size + 1) rfl [.int .u8 106, .int .u8 108, .int .u8 111, .int .u8 103, .int .i64 1, .int .i64 c, .int .i64 q, .int .i64 s] [.int .u8 0, .int .u8 0, .int .u8 0, .int .u8 0, .int .i64 0, .int .i64 0, .int .i64 0, .int .i64 0] 64 rfl HB3.out rfl (by kernel_rfl) (by simp [Value.oneCell']) ?_
  intro w3 hb3 hc3
  have HS3 : Hid (w3.cell? ⟨w.heap.size, 0, none⟩ = some (.int .i64 c) ∧ w3.cell? ⟨w.heap.size, 1, none⟩ = some (.int .i64 s) ∧ w3.cell? ⟨w.heap.size, 2, none⟩ = some (.int .i64 q)) := ⟨hc3.cell HS2.out.1 (by omega), hc3.cell HS2.out.2.1 (by omega), hc3.cell HS2.out.2.2 (by omega)⟩
  have HC3 : Hid (Chg 0 0 w w3) := HC2.out.step hc3 (by omega)
  have HB4 : Hid (w3.heap[w.heap.size + 1]? = some (.cells #[.int .u8 106, .int .u8 108, .int .u8 111, .int .u8 103, .int .i64 1, .int .i64 c, .int .i64 q, .int .i64 s] 64 (0, 0))) := hb3
  refine ⟨HS3.out, ?_⟩
  clear hb3 hc3
  refine held_done (by kernel_rfl) (NoPanic.normal ?_)
  go_wp2
  have hb := HB4.out
  exact bodyPost_ret (v := .agg #[.int .u8 106, .int .u8 108, .int .u8 111, .int .u8 103, .int .i64 1, .int .i64 c, .int .i64 q, .int .i64 s]) (by simp [results, Tryd.results24, go_sem, World.cell?, hb]) rfl ⟨rfl, HC3.out⟩

end Go.Proofs.YtaciallijnhieaaDoor

namespace Go.Proofs.YtaciallijnhieaaDoor
open Go.RowKit

theorem Tryd.infoI64 : (Tryd.prog.info? 2).map (fun i => (i.zero, i.size, i.bytes)) = some (some (.int .i64 0), 1, 8) := by kernel_rfl

/-- What the variable systemMagic holds. -/
def SysM (w : World) : Prop := w.cell? ⟨0, 0, none⟩ = some (.int .u8 102) ∧ w.cell? ⟨0, 1, none⟩ = some (.int .u8 115) ∧ w.cell? ⟨0, 2, none⟩ = some (.int .u8 121) ∧ w.cell? ⟨0, 3, none⟩ = some (.int .u8 115)
theorem SysM.chg {w w' : World} (h : SysM w) (c : Chg 0 0 w w') : SysM w' := ⟨c.cell h.1 (by omega), c.cell h.2.1 (by omega), c.cell h.2.2.1 (by omega), c.cell h.2.2.2 (by omega)⟩

theorem magic_at0 (w : World) : (Instr.index 60 (.agg #[.int .u8 102, .int .u8 115, .int .u8 121, .int .u8 115]) (.int .i64 0)).run Tryd.prog w = .ok (.int .u8 102) w := by kernel_rfl
theorem magic_at1 (w : World) : (Instr.index 60 (.agg #[.int .u8 102, .int .u8 115, .int .u8 121, .int .u8 115]) (.int .i64 1)).run Tryd.prog w = .ok (.int .u8 115) w := by kernel_rfl
theorem magic_at2 (w : World) : (Instr.index 60 (.agg #[.int .u8 102, .int .u8 115, .int .u8 121, .int .u8 115]) (.int .i64 2)).run Tryd.prog w = .ok (.int .u8 121) w := by kernel_rfl
theorem magic_at3 (w : World) : (Instr.index 60 (.agg #[.int .u8 102, .int .u8 115, .int .u8 121, .int .u8 115]) (.int .i64 3)).run Tryd.prog w = .ok (.int .u8 115) w := by kernel_rfl
theorem num_at0 (b l n : Int) (w : World) : (Instr.index 85 (.agg #[.int .i64 b, .int .i64 l, .int .i64 n]) (.int .i64 0)).run Tryd.prog w = .ok (.int .i64 b) w := by kernel_rfl
theorem num_at1 (b l n : Int) (w : World) : (Instr.index 85 (.agg #[.int .i64 b, .int .i64 l, .int .i64 n]) (.int .i64 1)).run Tryd.prog w = .ok (.int .i64 l) w := by kernel_rfl
theorem num_at2 (b l n : Int) (w : World) : (Instr.index 85 (.agg #[.int .i64 b, .int .i64 l, .int .i64 n]) (.int .i64 2)).run Tryd.prog w = .ok (.int .i64 n) w := by kernel_rfl

/-- A byte of the block that is written. -/
theorem Beg.at {w x : World} {hd : Obj} {cur : List Value} (h : Beg w x hd cur) (i : Nat) (hi : i < cur.length) (v : Value) :
    (∃ u, x.cell? ⟨w.heap.size + 1 + 1, i, none⟩ = some u) ∧ x.frozen? ⟨w.heap.size + 1 + 1, i, none⟩ = false ∧ Beg w (x.setCell ⟨w.heap.size + 1 + 1, i, none⟩ v) hd (cur.set i v) := by
  have hb := h.b2
  have hlt := h.lt
  refine ⟨⟨cur[i], ?_⟩, ?_, ?_⟩
  · simp [World.cell?, hb, hi]
  · simp [World.frozen?, hb]
  · refine h.put (Chg.setCell (p := ⟨w.heap.size + 1 + 1, i, none⟩) (Chg.refl _ _ x) (Or.inl ⟨Nat.le_refl _, Nat.lt_succ_self _⟩) _) ?_
    simp [World.setCell, hb, Array.getElem?_modify]

/-- The block with so many bytes of the magic; with the version; with so many numbers. -/
def mgC (k : Nat) : List Value := ([102, 115, 121, 115].take k).map (Value.int .u8) ++ Z64.drop k
theorem mgC_length {k : Nat} (h : k ≤ 4) : (mgC k).length = 64 := by
  match k, h with
  | 0, _ | 1, _ | 2, _ | 3, _ | 4, _ => unfold mgC Z64; rfl
def verC : List Value := (mgC 4).set 4 (.int .u8 1)
theorem verC_length : verC.length = 64 := by unfold verC; rw [List.length_set]; exact mgC_length (by omega)
def numC (b l n : Int) : Nat → List Value
  | 0 => verC
  | 1 => splice verC 6 ((putN b 2).map (Value.int .u8))
  | 2 => splice (splice verC 6 ((putN b 2).map (Value.int .u8))) 8 ((putN l 2).map (Value.int .u8))
  | _ => splice (splice (splice verC 6 ((putN b 2).map (Value.int .u8))) 8 ((putN l 2).map (Value.int .u8))) 10 ((putN n 2).map (Value.int .u8))
theorem numC_last {b l n : Int} (h : GeoIn b l n) : numC b l n 3 = (fsA b l n ++ [0, 0, 0, 0]).map (Value.int .u8) := by
  obtain ⟨h1, h2, h3, h4, h5, h6⟩ := h
  show splice (splice (splice verC 6 _) 8 _) 10 _ = _
  unfold fsA
  match q1 : putN b 2, pn2 (v := b) (by omega) (by omega), q2 : putN l 2, pn2 (v := l) (by omega) (by omega), q3 : putN n 2, pn2 (v := n) (by omega) (by omega) with
  | [a0, a1], _, [b0, b1], _, [c0, c1], _ => unfold verC mgC Z64 splice; rfl
theorem splice_len {cur cs : List Value} {o : Nat} (h : o + cs.length ≤ cur.length) : (splice cur o cs).length = cur.length := by
  unfold splice; simp only [List.length_append, List.length_take, List.length_drop]; omega
theorem numC_length {b l n : Int} (h : GeoIn b l n) (k : Nat) (hk : k ≤ 3) : (numC b l n k).length = 64 := by
  obtain ⟨h1, h2, h3, h4, h5, h6⟩ := h
  have p1 : ((putN b 2).map (Value.int .u8)).length = 2 := by rw [List.length_map]; exact pn2 (by omega) (by omega)
  have p2 : ((putN l 2).map (Value.int .u8)).length = 2 := by rw [List.length_map]; exact pn2 (by omega) (by omega)
  have p3 : ((putN n 2).map (Value.int .u8)).length = 2 := by rw [List.length_map]; exact pn2 (by omega) (by omega)
  have v := verC_length
  have s1 : (splice verC 6 ((putN b 2).map (Value.int .u8))).length = 64 := by rw [splice_len (by omega)]; exact v
  have s2 : (splice (splice verC 6 ((putN b 2).map (Value.int .u8))) 8 ((putN l 2).map (Value.int .u8))).length = 64 := by rw [splice_len (by omega)]; exact s1
  match k, hk with
  | 0, _ => exact v
  | 1, _ => exact s1
  | 2, _ => exact s2
  | 3, _ => show (splice _ 10 _).length = 64; rw [splice_len (by omega)]; exact s2

set_option maxRecDepth 20000 in
set_option maxHeartbeats 4000000 in
theorem systemBlock_calls (w : World) (b l n : Int) (hg : GeoIn b l n) (hm : SysM w) :
    Calls Tryd.prog 23 #[geoV b l n] w fun e w' => e = .returned (.agg ((fsL b l n).map (Value.int .u8)).toArray) ∧ Chg 0 0 w w' := by
  obtain ⟨ti, hti, hz0, hz1, hz2⟩ := info_parts Tryd.infoU
  obtain ⟨tj, htj, hy0, hy1, hy2⟩ := info_parts Tryd.infoI64
  obtain ⟨g1, g2, g3, g4, g5, g6⟩ := id hg
  have P1 : Hid ((putN b 2).length = 2) := pn2 (by omega) (by omega)
  have P2 : Hid ((putN l 2).length = 2) := pn2 (by omega) (by omega)
  have P3 : Hid ((putN n 2).length = 2) := pn2 (by omega) (by omega)
  have HG : Hid (GeoIn b l n) := hg
  have HB0 : Hid (Beg w (((w.alloc (.cells #[.int .i64 b, .int .i64 l, .int .i64 n] 29)).alloc (.cells Z64.toArray 58)).alloc (.cells Z64.toArray 58)) (.cells #[.int .i64 b, .int .i64 l, .int .i64 n] 29 (0, 0)) Z64) := by
    show Beg _ _ _ _
    obtain ⟨z1, z2, z3, z4⟩ := alloc3 w (.cells #[.int .i64 b, .int .i64 l, .int .i64 n] 29) (.cells Z64.toArray 58) (.cells Z64.toArray 58)
    exact ⟨z2, z3, z4, ((Chg.alloc (Chg.refl 0 0 w) _).alloc _).alloc _⟩
  have HM : Hid (SysM (((w.alloc (.cells #[.int .i64 b, .int .i64 l, .int .i64 n] 29)).alloc (.cells Z64.toArray 58)).alloc (.cells Z64.toArray 58))) := hm.chg (((Chg.alloc (Chg.refl 0 0 w) _).alloc _).alloc _)
  clear hm hg
  go_enter Tryd.func23, Tryd.ntmps23
  go_upto_region 2 with fail
  simp only [Z64_eq]
  generalize (((w.alloc (.cells #[.int .i64 b, .int .i64 l, .int .i64 n] 29)).alloc (.cells Z64.toArray 58)).alloc (.cells Z64.toArray 58)) = wa at *
  obtain ⟨m0, m1, m2, m3⟩ := HM.out
  go_wp2
  clear m0 m1 m2 m3 HM
  go_loopw [9] (fun x wr => (x = .int .i64 0 ∧ Beg w wr (.cells #[.int .i64 b, .int .i64 l, .int .i64 n] 29 (0, 0)) (mgC 0)) ∨ (x = .int .i64 1 ∧ Beg w wr (.cells #[.int .i64 b, .int .i64 l, .int .i64 n] 29 (0, 0)) (mgC 1)) ∨ (x = .int .i64 2 ∧ Beg w wr (.cells #[.int .i64 b, .int .i64 l, .int .i64 n] 29 (0, 0)) (mgC 2)) ∨ (x = .int .i64 3 ∧ Beg w wr (.cells #[.int .i64 b, .int .i64 l, .int .i64 n] 29 (0, 0)) (mgC 3)) ∨ (x = .int .i64 4 ∧ Beg w wr (.cells #[.int .i64 b, .int .i64 l, .int .i64 n] 29 (0, 0)) (mgC 4))) (fun x _ => 4 - (intOf x).toNat)
  case atStart => exact Or.inl ⟨rfl, HB0.out⟩
  case round =>
    clear HB0
    rcases hrel with ⟨rfl, hbeg⟩ | ⟨rfl, hbeg⟩ | ⟨rfl, hbeg⟩ | ⟨rfl, hbeg⟩ | ⟨rfl, hbeg⟩
    · have HB : Hid (Beg w wr (.cells #[.int .i64 b, .int .i64 l, .int .i64 n] 29 (0, 0)) (mgC 0)) := hbeg
      clear hbeg
      have hix := magic_at0 wr
      obtain ⟨⟨u, c1⟩, c2, c3⟩ := HB.out.at 0 (by rw [mgC_length (by omega)]; omega) (.int .u8 102)
      have HN : Hid (Beg w (wr.setCell ⟨w.heap.size + 1 + 1, 0, none⟩ (.int .u8 102)) (.cells #[.int .i64 b, .int .i64 l, .int .i64 n] 29 (0, 0)) (mgC 1)) := by
        have e : (mgC 0).set 0 (.int .u8 102) = mgC 1 := by unfold mgC Z64; rfl
        rw [e] at c3; exact c3
      clear c3 HB
      go_wp2
      go_roundw
      case rel => exact Or.inr (Or.inl ⟨rfl, HN.out⟩)
      case measure => simp [intOf]
    · have HB : Hid (Beg w wr (.cells #[.int .i64 b, .int .i64 l, .int .i64 n] 29 (0, 0)) (mgC 1)) := hbeg
      clear hbeg
      have hix := magic_at1 wr
      obtain ⟨⟨u, c1⟩, c2, c3⟩ := HB.out.at 1 (by rw [mgC_length (by omega)]; omega) (.int .u8 115)
      have HN : Hid (Beg w (wr.setCell ⟨w.heap.size + 1 + 1, 1, none⟩ (.int .u8 115)) (.cells #[.int .i64 b, .int .i64 l, .int .i64 n] 29 (0, 0)) (mgC 2)) := by
        have e : (mgC 1).set 1 (.int .u8 115) = mgC 2 := by unfold mgC Z64; rfl
        rw [e] at c3; exact c3
      clear c3 HB
      go_wp2
      go_roundw
      case rel => exact Or.inr (Or.inr (Or.inl ⟨rfl, HN.out⟩))
      case measure => simp [intOf]
    · have HB : Hid (Beg w wr (.cells #[.int .i64 b, .int .i64 l, .int .i64 n] 29 (0, 0)) (mgC 2)) := hbeg
      clear hbeg
      have hix := magic_at2 wr
      obtain ⟨⟨u, c1⟩, c2, c3⟩ := HB.out.at 2 (by rw [mgC_length (by omega)]; omega) (.int .u8 121)
      have HN : Hid (Beg w (wr.setCell ⟨w.heap.size + 1 + 1, 2, none⟩ (.int .u8 121)) (.cells #[.int .i64 b, .int .i64 l, .int .i64 n] 29 (0, 0)) (mgC 3)) := by
        have e : (mgC 2).set 2 (.int .u8 121) = mgC 3 := by unfold mgC Z64; rfl
        rw [e] at c3; exact c3
      clear c3 HB
      go_wp2
      go_roundw
      case rel => exact Or.inr (Or.inr (Or.inr (Or.inl ⟨rfl, HN.out⟩)))
      case measure => simp [intOf]
    · have HB : Hid (Beg w wr (.cells #[.int .i64 b, .int .i64 l, .int .i64 n] 29 (0, 0)) (mgC 3)) := hbeg
      clear hbeg
      have hix := magic_at3 wr
      obtain ⟨⟨u, c1⟩, c2, c3⟩ := HB.out.at 3 (by rw [mgC_length (by omega)]; omega) (.int .u8 115)
      have HN : Hid (Beg w (wr.setCell ⟨w.heap.size + 1 + 1, 3, none⟩ (.int .u8 115)) (.cells #[.int .i64 b, .int .i64 l, .int .i64 n] 29 (0, 0)) (mgC 4)) := by
        have e : (mgC 3).set 3 (.int .u8 115) = mgC 4 := by unfold mgC Z64; rfl
        rw [e] at c3; exact c3
      clear c3 HB
      go_wp2
      go_roundw
      case rel => exact Or.inr (Or.inr (Or.inr (Or.inr (⟨rfl, HN.out⟩))))
      case measure => simp [intOf]
    · have HB : Hid (Beg w wr (.cells #[.int .i64 b, .int .i64 l, .int .i64 n] 29 (0, 0)) (mgC 4)) := hbeg
      clear hbeg
      obtain ⟨⟨u, c1⟩, c2, c3⟩ := HB.out.at 4 (by rw [mgC_length (by omega)]; omega) (.int .u8 1)
      have HN : Hid (Beg w (wr.setCell ⟨w.heap.size + 1 + 1, 4, none⟩ (.int .u8 1)) (.cells #[.int .i64 b, .int .i64 l, .int .i64 n] 29 (0, 0)) (numC b l n 0)) := c3
      have hb0 := HN.out.b0
      have q0 : (wr.setCell ⟨w.heap.size + 1 + 1, 4, none⟩ (.int .u8 1)).cell? ⟨w.heap.size, 0, none⟩ = some (.int .i64 b) := by simp [World.cell?, hb0]
      have q1 : (wr.setCell ⟨w.heap.size + 1 + 1, 4, none⟩ (.int .u8 1)).cell? ⟨w.heap.size, 1, none⟩ = some (.int .i64 l) := by simp [World.cell?, hb0]
      have q2 : (wr.setCell ⟨w.heap.size + 1 + 1, 4, none⟩ (.int .u8 1)).cell? ⟨w.heap.size, 2, none⟩ = some (.int .i64 n) := by simp [World.cell?, hb0]
      clear c3 HB hb0
      go_upto_region 8 with fail
      generalize wr.setCell ⟨w.heap.size + 1 + 1, 4, none⟩ (.int .u8 1) = ws at *
      clear c1 c2
      go_wp2
      clear q0 q1 q2
      go_loopw [25] (fun x wr => (x = .int .i64 0 ∧ Beg w wr (.cells #[.int .i64 b, .int .i64 l, .int .i64 n] 29 (0, 0)) (numC b l n 0)) ∨ (x = .int .i64 1 ∧ Beg w wr (.cells #[.int .i64 b, .int .i64 l, .int .i64 n] 29 (0, 0)) (numC b l n 1)) ∨ (x = .int .i64 2 ∧ Beg w wr (.cells #[.int .i64 b, .int .i64 l, .int .i64 n] 29 (0, 0)) (numC b l n 2)) ∨ (x = .int .i64 3 ∧ Beg w wr (.cells #[.int .i64 b, .int .i64 l, .int .i64 n] 29 (0, 0)) (numC b l n 3))) (fun x _ => 3 - (intOf x).toNat)
      case atStart => exact Or.inl ⟨rfl, HN.out⟩
      case round =>
        clear HN
        rcases hrel with ⟨rfl, hbeg⟩ | ⟨rfl, hbeg⟩ | ⟨rfl, hbeg⟩ | ⟨rfl, hbeg⟩
        · have HB : Hid (Beg w wr (.cells #[.int .i64 b, .int .i64 l, .int .i64 n] 29 (0, 0)) (numC b l n 0)) := hbeg
          clear hbeg
          have hix := num_at0 b l n wr
          have HCl : Hid ((numC b l n 0).length = 64) := numC_length HG.out 0 (by omega)
          go_upto_region 11 with fail
          clear hix
          have HB1 : Hid (Beg w wr.drew (.cells #[.int .i64 b, .int .i64 l, .int .i64 n] 29 (0, 0)) (numC b l n 0)) := HB.out.chg (Chg.drew (Chg.refl 0 0 wr))
          clear HB
          refine held_region (fun _ : World => True) (by kernel_rfl) ?_
          refine held_take 0 (.int .i64 0) rfl (by kernel_rfl) (by kernel_rfl) (by kernel_rfl) (fun _ _ _ h => h) (.inl ⟨by kernel_rfl, fun w' hw' => by (go_simp; all_goals decide)⟩) trivial ?_
          go_simp
          refine held_take 1 (.int .i64 0) rfl (by kernel_rfl) (by kernel_rfl) (by kernel_rfl) (fun _ _ _ h => h) (.inl ⟨by kernel_rfl, fun w' hw' => by (go_simp; all_goals decide)⟩) trivial ?_
          go_simp
          refine held_take 2 (.int .i64 6) rfl (by kernel_rfl) (by kernel_rfl) (by kernel_rfl) (fun _ _ _ h => h) (.inl ⟨by kernel_rfl, fun w' hw' => by (go_simp; all_goals decide)⟩) trivial ?_
          go_simp
          refine held_take 3 (.slice (some ⟨w.heap.size + 1 + 1, 6, none⟩) 58 58) rfl (by kernel_rfl) (by kernel_rfl) (by kernel_rfl) (fun _ _ _ h => h) (.inl ⟨by kernel_rfl, fun w' hw' => by (go_simp; all_goals decide)⟩) trivial ?_
          go_simp
          refine held_take 4 (.int .i64 b) rfl (by kernel_rfl) (by kernel_rfl) (by kernel_rfl) (fun _ _ _ h => h) (.inl ⟨by kernel_rfl, fun w' hw' => by (go_simp; all_goals decide)⟩) trivial ?_
          go_simp
          generalize wr.drew = x1 at *
          have hN := implPut_calls x1 b 2 (by omega)
          refine held_one 5 rfl rfl (by kernel_rfl) ?_
          refine wp_enter 47 #[.int .i64 b, .int .i64 2] (by first | kernel_rfl | go_simp) hN ?_
          rintro e x2 ⟨r, rfl, o2, c2⟩
          have HB2 : Hid (Beg w x2 (.cells #[.int .i64 b, .int .i64 l, .int .i64 n] 29 (0, 0)) (numC b l n 0)) := HB1.out.chg c2
          obtain ⟨g, gc, rfl, hcell⟩ : ∃ g gc, r = .slice (some ⟨g, 0, none⟩) 2 gc ∧ ∀ i, i < 2 → x2.cell? ⟨g, i, none⟩ = some (.int .u8 ((putN b 2).getD i 0)) := by
            have hv := o2.view (hi := x2.heap.size) (by rw [P1.out]; omega) (fun g hg => (o2.lt g hg).2)
            rcases o2.2 with ⟨_, h0⟩ | ⟨g, gc, cur, rfl, _⟩
            · rw [P1.out] at h0; omega
            · refine ⟨g, gc, by rw [P1.out], fun i hi => hv.cellAt' i (by rw [P1.out]; exact hi)⟩
          refine ⟨_, rfl, trivial, ?_⟩
          have Hcell : Hid (∀ i, i < 2 → x2.cell? ⟨g, i, none⟩ = some (.int .u8 ((putN b 2).getD i 0))) := hcell
          clear hN o2 c2 hcell HB1
          go_simp
          refine held_one 6 rfl rfl (by kernel_rfl) ?_
          refine wp_copy_row (.tmp 32) (.tmp 34) 24 24 rfl 5 Tryd.underlying24 (by kernel_rfl) (w.heap.size + 1 + 1) 6 58 58 ⟨g, 0, none⟩ 2 gc rfl rfl (numC b l n 0) 58 HB2.out.b2 ((putN b 2).map (Value.int .u8)) (by rw [List.length_map, P1.out]; rfl) ?_ (by rw [List.length_map, P1.out, HCl.out]; decide) (ints_oneCell _ _) ?_
          · intro j v hj
            have hj4 : j < 2 := by have := (List.getElem?_eq_some_iff.1 hj).1; rwa [List.length_map, P1.out] at this
            have hjl : j < (putN b 2).length := by rw [P1.out]; exact hj4
            rw [Addr.add_mid, Nat.zero_add, Hcell.out j hj4, ← hj]
            simp [List.getD_eq_getElem?_getD, hjl]
          intro x3 hb3 hc3
          have HB4 : Hid (Beg w x3 (.cells #[.int .i64 b, .int .i64 l, .int .i64 n] 29 (0, 0)) (numC b l n 1)) := HB2.out.put hc3 hb3.out
          refine ⟨trivial, ?_⟩
          clear hb3 hc3 HB2 Hcell
          go_simp
          refine held_done (by kernel_rfl) (NoPanic.normal ?_)
          go_wp2
          go_roundw
          case rel => exact Or.inr (Or.inl ⟨rfl, HB4.out⟩)
          case measure => simp [intOf]
        · have HB : Hid (Beg w wr (.cells #[.int .i64 b, .int .i64 l, .int .i64 n] 29 (0, 0)) (numC b l n 1)) := hbeg
          clear hbeg
          have hix := num_at1 b l n wr
          have HCl : Hid ((numC b l n 1).length = 64) := numC_length HG.out 1 (by omega)
          go_upto_region 11 with fail
          clear hix
          have HB1 : Hid (Beg w wr.drew (.cells #[.int .i64 b, .int .i64 l, .int .i64 n] 29 (0, 0)) (numC b l n 1)) := HB.out.chg (Chg.drew (Chg.refl 0 0 wr))
          clear HB
          refine held_region (fun _ : World => True) (by kernel_rfl) ?_
          refine held_take 0 (.int .i64 1) rfl (by kernel_rfl) (by kernel_rfl) (by kernel_rfl) (fun _ _ _ h => h) (.inl ⟨by kernel_rfl, fun w' hw' => by (go_simp; all_goals decide)⟩) trivial ?_
          go_simp
          refine held_take 1 (.int .i64 2) rfl (by kernel_rfl) (by kernel_rfl) (by kernel_rfl) (fun _ _ _ h => h) (.inl ⟨by kernel_rfl, fun w' hw' => by (go_simp; all_goals decide)⟩) trivial ?_
          go_simp
          refine held_take 2 (.int .i64 8) rfl (by kernel_rfl) (by kernel_rfl) (by kernel_rfl) (fun _ _ _ h => h) (.inl ⟨by kernel_rfl, fun w' hw' => by (go_simp; all_goals decide)⟩) trivial ?_
          go_simp
          refine held_take 3 (.slice (some ⟨w.heap.size + 1 + 1, 8, none⟩) 56 56) rfl (by kernel_rfl) (by kernel_rfl) (by kernel_rfl) (fun _ _ _ h => h) (.inl ⟨by kernel_rfl, fun w' hw' => by (go_simp; all_goals decide)⟩) trivial ?_
          go_simp
          refine held_take 4 (.int .i64 l) rfl (by kernel_rfl) (by kernel_rfl) (by kernel_rfl) (fun _ _ _ h => h) (.inl ⟨by kernel_rfl, fun w' hw' => by (go_simp; all_goals decide)⟩) trivial ?_
          go_simp
          generalize wr.drew = x1 at *
          have hN := implPut_calls x1 l 2 (by omega)
          refine held_one 5 rfl rfl (by kernel_rfl) ?_
          refine wp_enter 47 #[.int .i64 l, .int .i64 2] (by first | kernel_rfl | go_simp) hN ?_
          rintro e x2 ⟨r, rfl, o2, c2⟩
          have HB2 : Hid (Beg w x2 (.cells #[.int .i64 b, .int .i64 l, .int .i64 n] 29 (0, 0)) (numC b l n 1)) := HB1.out.chg c2
          obtain ⟨g, gc, rfl, hcell⟩ : ∃ g gc, r = .slice (some ⟨g, 0, none⟩) 2 gc ∧ ∀ i, i < 2 → x2.cell? ⟨g, i, none⟩ = some (.int .u8 ((putN l 2).getD i 0)) := by
            have hv := o2.view (hi := x2.heap.size) (by rw [P2.out]; omega) (fun g hg => (o2.lt g hg).2)
            rcases o2.2 with ⟨_, h0⟩ | ⟨g, gc, cur, rfl, _⟩
            · rw [P2.out] at h0; omega
            · refine ⟨g, gc, by rw [P2.out], fun i hi => hv.cellAt' i (by rw [P2.out]; exact hi)⟩
          refine ⟨_, rfl, trivial, ?_⟩
          have Hcell : Hid (∀ i, i < 2 → x2.cell? ⟨g, i, none⟩ = some (.int .u8 ((putN l 2).getD i 0))) := hcell
          clear hN o2 c2 hcell HB1
          go_simp
          refine held_one 6 rfl rfl (by kernel_rfl) ?_
          refine wp_copy_row (.tmp 32) (.tmp 34) 24 24 rfl 5 Tryd.underlying24 (by kernel_rfl) (w.heap.size + 1 + 1) 8 56 56 ⟨g, 0, none⟩ 2 gc rfl rfl (numC b l n 1) 58 HB2.out.b2 ((putN l 2).map (Value.int .u8)) (by rw [List.length_map, P2.out]; rfl) ?_ (by rw [List.length_map, P2.out, HCl.out]; decide) (ints_oneCell _ _) ?_
          · intro j v hj
            have hj4 : j < 2 := by have := (List.getElem?_eq_some_iff.1 hj).1; rwa [List.length_map, P2.out] at this
            have hjl : j < (putN l 2).length := by rw [P2.out]; exact hj4
            rw [Addr.add_mid, Nat.zero_add, Hcell.out j hj4, ← hj]
            simp [List.getD_eq_getElem?_getD, hjl]
          intro x3 hb3 hc3
          have HB4 : Hid (Beg w x3 (.cells #[.int .i64 b, .int .i64 l, .int .i64 n] 29 (0, 0)) (numC b l n 2)) := HB2.out.put hc3 hb3.out
          refine ⟨trivial, ?_⟩
          clear hb3 hc3 HB2 Hcell
          go_simp
          refine held_done (by kernel_rfl) (NoPanic.normal ?_)
          go_wp2
          go_roundw
          case rel => exact Or.inr (Or.inr (Or.inl ⟨rfl, HB4.out⟩))
          case measure => simp [intOf]
        · have HB : Hid (Beg w wr (.cells #[.int .i64 b, .int .i64 l, .int .i64 n] 29 (0, 0)) (numC b l n 2)) := hbeg
          clear hbeg
          have hix := num_at2 b l n wr
          have HCl : Hid ((numC b l n 2).length = 64) := numC_length HG.out 2 (by omega)
          go_upto_region 11 with fail
          clear hix
          have HB1 : Hid (Beg w wr.drew (.cells #[.int .i64 b, .int .i64 l, .int .i64 n] 29 (0, 0)) (numC b l n 2)) := HB.out.chg (Chg.drew (Chg.refl 0 0 wr))
          clear HB
          refine held_region (fun _ : World => True) (by kernel_rfl) ?_
          refine held_take 0 (.int .i64 2) rfl (by kernel_rfl) (by kernel_rfl) (by kernel_rfl) (fun _ _ _ h => h) (.inl ⟨by kernel_rfl, fun w' hw' => by (go_simp; all_goals decide)⟩) trivial ?_
          go_simp
          refine held_take 1 (.int .i64 4) rfl (by kernel_rfl) (by kernel_rfl) (by kernel_rfl) (fun _ _ _ h => h) (.inl ⟨by kernel_rfl, fun w' hw' => by (go_simp; all_goals decide)⟩) trivial ?_
          go_simp
          refine held_take 2 (.int .i64 10) rfl (by kernel_rfl) (by kernel_rfl) (by kernel_rfl) (fun _ _ _ h => h) (.inl ⟨by kernel_rfl, fun w' hw' => by (go_simp; all_goals decide)⟩) trivial ?_
          go_simp
          refine held_take 3 (.slice (some ⟨w.heap.size + 1 + 1, 10, none⟩) 54 54) rfl (by kernel_rfl) (by kernel_rfl) (by kernel_rfl) (fun _ _ _ h => h) (.inl ⟨by kernel_rfl, fun w' hw' => by (go_simp; all_goals decide)⟩) trivial ?_
          go_simp
          refine held_take 4 (.int .i64 n) rfl (by kernel_rfl) (by kernel_rfl) (by kernel_rfl) (fun _ _ _ h => h) (.inl ⟨by kernel_rfl, fun w' hw' => by (go_simp; all_goals decide)⟩) trivial ?_
          go_simp
          generalize wr.drew = x1 at *
          have hN := implPut_calls x1 n 2 (by omega)
          refine held_one 5 rfl rfl (by kernel_rfl) ?_
          refine wp_enter 47 #[.int .i64 n, .int .i64 2] (by first | kernel_rfl | go_simp) hN ?_
          rintro e x2 ⟨r, rfl, o2, c2⟩
          have HB2 : Hid (Beg w x2 (.cells #[.int .i64 b, .int .i64 l, .int .i64 n] 29 (0, 0)) (numC b l n 2)) := HB1.out.chg c2
          obtain ⟨g, gc, rfl, hcell⟩ : ∃ g gc, r = .slice (some ⟨g, 0, none⟩) 2 gc ∧ ∀ i, i < 2 → x2.cell? ⟨g, i, none⟩ = some (.int .u8 ((putN n 2).getD i 0)) := by
            have hv := o2.view (hi := x2.heap.size) (by rw [P3.out]; omega) (fun g hg => (o2.lt g hg).2)
            rcases o2.2 with ⟨_, h0⟩ | ⟨g, gc, cur, rfl, _⟩
            · rw [P3.out] at h0; omega
            · refine ⟨g, gc, by rw [P3.out], fun i hi => hv.cellAt' i (by rw [P3.out]; exact hi)⟩
          refine ⟨_, rfl, trivial, ?_⟩
          have Hcell : Hid (∀ i, i < 2 → x2.cell? ⟨g, i, none⟩ = some (.int .u8 ((putN n 2).getD i 0))) := hcell
          clear hN o2 c2 hcell HB1
          go_simp
          refine held_one 6 rfl rfl (by kernel_rfl) ?_
          refine wp_copy_row (.tmp 32) (.tmp 34) 24 24 rfl 5 Tryd.underlying24 (by kernel_rfl) (w.heap.size + 1 + 1) 10 54 54 ⟨g, 0, none⟩ 2 gc rfl rfl (numC b l n 2) 58 HB2.out.b2 ((putN n 2).map (Value.int .u8)) (by rw [List.length_map, P3.out]; rfl) ?_ (by rw [List.length_map, P3.out, HCl.out]; decide) (ints_oneCell _ _) ?_
          · intro j v hj
            have hj4 : j < 2 := by have := (List.getElem?_eq_some_iff.1 hj).1; rwa [List.length_map, P3.out] at this
            have hjl : j < (putN n 2).length := by rw [P3.out]; exact hj4
            rw [Addr.add_mid, Nat.zero_add, Hcell.out j hj4, ← hj]
            simp [List.getD_eq_getElem?_getD, hjl]
          intro x3 hb3 hc3
          have HB4 : Hid (Beg w x3 (.cells #[.int .i64 b, .int .i64 l, .int .i64 n] 29 (0, 0)) (numC b l n 3)) := HB2.out.put hc3 hb3.out
          refine ⟨trivial, ?_⟩
          clear hb3 hc3 HB2 Hcell
          go_simp
          refine held_done (by kernel_rfl) (NoPanic.normal ?_)
          go_wp2
          go_roundw
          case rel => exact Or.inr (Or.inr (Or.inr (⟨rfl, HB4.out⟩)))
          case measure => simp [intOf]
        · have hl3 := numC_last HG.out
          rw [hl3] at hbeg
          have hN := fun W => sealed_calls W (fsA b l n) [0, 0, 0, 0] (fsA_len HG.out) rfl (fsA_byt b l n)
          have hbl : ((fsA b l n ++ [0, 0, 0, 0]).map (Value.int .u8)).length = 64 := by rw [List.length_map, List.length_append, fsA_len HG.out]; rfl
          have hcl : ((fsA b l n ++ putN (crcV (fsA b l n)) 4).map (Value.int .u8)).length = 64 := by rw [List.length_map]; exact fsL_len HG.out
          obtain ⟨bs, hbs⟩ : ∃ bs, bs = (fsA b l n ++ [0, 0, 0, 0]).map (Value.int .u8) := ⟨_, rfl⟩
          obtain ⟨cs, hcs⟩ : ∃ cs, cs = (fsA b l n ++ putN (crcV (fsA b l n)) 4).map (Value.int .u8) := ⟨_, rfl⟩
          have HV2 : Hid (∀ v ∈ cs, v.oneCell' = true) := by show ∀ v ∈ cs, v.oneCell' = true; rw [hcs]; exact ints_oneCell _ _
          have Hcs : Hid (cs = (fsL b l n).map (Value.int .u8)) := hcs
          rw [← hbs, ← hcs] at hN
          rw [← hbs] at hbeg hbl
          rw [← hcs] at hcl
          have HB : Hid (Beg w wr (.cells #[.int .i64 b, .int .i64 l, .int .i64 n] 29 (0, 0)) bs) := hbeg
          have hibs : (Tryd.prog.info? 58).map (·.size) = some bs.length := by rw [hbl]; kernel_rfl
          have hics : (Tryd.prog.info? 58).map (·.size) = some cs.length := by rw [hcl]; kernel_rfl
          have Hcl : Hid (cs.length = 64) := hcl
          have u44 := Tryd.underlying58
          have HR : Hid (wr.rangeAt (w.heap.size + 1 + 1) 0 bs) := row_rng HB.out.b2
          have hlt := HB.out.lt
          clear hl3 hbeg hbl hcl hbs hcs
          go_wp2_with (refine wpList_load_mid rfl 58 (.tmp 3) rfl (w.heap.size + 1 + 1) 0 rfl bs _ HR.out u44 rfl hibs ?_)
          refine (hN wr).mono ?_
          rintro e x2 ⟨rfl, c2⟩
          have HB2 : Hid (Beg w x2 (.cells #[.int .i64 b, .int .i64 l, .int .i64 n] 29 (0, 0)) bs) := HB.out.chg c2
          have hlt2 := HB2.out.lt
          clear hN c2 HB HR
          go_wp2_with (refine wpList_store_row rfl 58 (.tmp 2) (.tmp 38) rfl rfl (w.heap.size + 1) rfl cs Z64 58 rfl HB2.out.b1 (by rw [Z64_length]; exact Hcl.out) hics HV2.out ?_; intro wg hbg hcg)
          have HCg : Hid (Chg 0 0 w wg) := HB2.out.ch.step hcg (by omega)
          have hl1 : (loadVar 58 ⟨w.heap.size + 1, 0, none⟩).run Tryd.prog wg = .ok (.agg cs.toArray) wg := run_loadVar_mid _ _ _ _ cs _ (row_rng hbg) u44 rfl hics
          go_wp2
          exact bodyPost_ret (v := .agg cs.toArray) (results_one Tryd.results23 rfl hl1) rfl ⟨by rw [Hcs.out], HCg.out⟩

end Go.Proofs.YtaciallijnhieaaDoor

namespace Go.Proofs.YtaciallijnhieaaDoor
open Go.RowKit

set_option maxRecDepth 20000 in
set_option maxHeartbeats 400000 in
theorem roundedUp_512 (w : World) (a : Nat) (ha : a ≤ 2048) : Calls Tryd.prog 46 #[.int .i64 a, .int .i64 512] w fun e w' => e = .returned (.int .i64 (upN a 512)) ∧ w' = w := by
  have HU : Hid (((upN a 512 : Nat) : Int) = ((a : Int) + 511) / 512) := by show _ = _; unfold upN; omega
  go_enter Tryd.func46, Tryd.ntmps46
  go_wp2
  go_ret
  refine ⟨?_, rfl⟩
  rw [HU.out]
  go_num

set_option maxRecDepth 20000 in
set_option maxHeartbeats 400000 in
theorem roundedUp_2 (w : World) (n : Nat) (hn : n ≤ 256) : Calls Tryd.prog 46 #[.int .i64 n, .int .i64 2] w fun e w' => e = .returned (.int .i64 (upN (n * 32) 64)) ∧ w' = w := by
  have HU : Hid (((upN (n * 32) 64 : Nat) : Int) = ((n : Int) + 1) / 2) := by show _ = _; unfold upN; omega
  go_enter Tryd.func46, Tryd.ntmps46
  go_wp2
  go_ret
  refine ⟨?_, rfl⟩
  rw [HU.out]
  go_num

set_option maxRecDepth 20000 in
set_option maxHeartbeats 2000000 in
theorem placesOf_calls (w : World) (b l n : Nat) (hb : b ≤ 2048) (hl : l ≤ 512) (hn : n ≤ 256) : Calls Tryd.prog 22 #[geoV b l n] w fun e w' => e = .returned (placesV b l n) ∧ Chg 0 0 w w' := by
  have k1 := up512_le (a := b) (by omega)
  have k2 := up64_le (a := n * 32) (by omega)
  obtain ⟨mb, Hmb⟩ : ∃ m, Hid (upN b 512 = m) := ⟨_, rfl⟩
  obtain ⟨tb, Htb⟩ : ∃ m, Hid (upN (n * 32) 64 = m) := ⟨_, rfl⟩
  rw [Hmb.out] at k1
  rw [Htb.out] at k2
  go_enter Tryd.func22, Tryd.ntmps22
  go_wp2_with fail
  refine (roundedUp_512 _ b (by omega)).mono ?_
  rintro e w1 ⟨rfl, rfl⟩
  rw [Hmb.out]
  go_wp2_with fail
  refine (roundedUp_2 _ n (by omega)).mono ?_
  rintro e w1 ⟨rfl, rfl⟩
  rw [Htb.out]
  go_wp2
  refine bodyPost_ret (v := placesV b l n) (by simp [results, Tryd.results22, go_sem]; unfold placesV dataAt; rw [Hmb.out, Htb.out]; exact plV_ext (by omega) (by omega) rfl (by omega) rfl (by omega) (by omega)) rfl ⟨rfl, ?_⟩
  exact ((Chg.alloc (Chg.refl 0 0 w) _).alloc _).alloc _

set_option maxRecDepth 20000 in
set_option maxHeartbeats 1000000 in
theorem implValid_in (w : World) (b l n : Nat) (h1 : 16 ≤ l) (h2 : l ≤ 512) (h3 : 1 ≤ n) (h4 : n ≤ 256) (h5 : 1 ≤ b) (h6 : b ≤ 2048) :
    Calls Tryd.prog 21 #[geoV b l n] w fun e w' => e = .returned (.bool (decide (dataAt b l n < b))) ∧ Chg 0 0 w w' := by
  have q1 : ∀ W : World, Calls Tryd.prog 45 #[.int .i64 l, .int .i64 16, .int .i64 512] W fun e w' => e = .returned (.bool true) ∧ w' = W := by
    intro W; have := isWithin_calls W l 16 512; rw [decide_eq_true (show (16 : Int) ≤ l by omega), decide_eq_true (show (l : Int) ≤ 512 by omega)] at this; exact this
  have q2 : ∀ W : World, Calls Tryd.prog 45 #[.int .i64 n, .int .i64 1, .int .i64 256] W fun e w' => e = .returned (.bool true) ∧ w' = W := by
    intro W; have := isWithin_calls W n 1 256; rw [decide_eq_true (show (1 : Int) ≤ n by omega), decide_eq_true (show (n : Int) ≤ 256 by omega)] at this; exact this
  have q3 : ∀ W : World, Calls Tryd.prog 45 #[.int .i64 b, .int .i64 1, .int .i64 2048] W fun e w' => e = .returned (.bool true) ∧ w' = W := by
    intro W; have := isWithin_calls W b 1 2048; rw [decide_eq_true (show (1 : Int) ≤ b by omega), decide_eq_true (show (b : Int) ≤ 2048 by omega)] at this; exact this
  have HA : Hid (Chg 0 0 w (w.alloc (.cells #[.int .i64 b, .int .i64 l, .int .i64 n] 29))) := Chg.alloc (Chg.refl 0 0 w) _
  have hN := placesOf_calls (w.alloc (.cells #[.int .i64 b, .int .i64 l, .int .i64 n] 29)) b l n h6 h2 h4
  obtain ⟨c0, c1, c2, c3, c4, c5, HP⟩ : ∃ c0 c1 c2 c3 c4 c5, Hid (placesV b l n = .agg #[.int .i64 c0, .int .i64 c1, .int .i64 c2, .int .i64 c3, .int .i64 c4, .int .i64 c5, .int .i64 ((b : Int) - dataAt b l n)]) := ⟨_, _, _, _, _, _, rfl⟩
  rw [HP.out] at hN
  have hfd := fun W => field_pl W c0 c1 c2 c3 c4 c5 ((b : Int) - dataAt b l n)
  clear HP
  obtain ⟨D, HD⟩ : ∃ D, Hid (dataAt b l n = D) := ⟨_, rfl⟩
  rw [HD.out] at hN hfd
  go_enter Tryd.func21, Tryd.ntmps21
  go_wp2_with fail
  refine (q1 _).mono ?_
  rintro e w1 ⟨rfl, rfl⟩
  go_wp2_with fail
  refine (q2 _).mono ?_
  rintro e w1 ⟨rfl, rfl⟩
  go_wp2_with fail
  refine (q3 _).mono ?_
  rintro e w1 ⟨rfl, rfl⟩
  go_wp2_with fail
  refine hN.mono ?_
  rintro e w1 ⟨rfl, hc⟩
  clear hN q1 q2 q3
  have HC : Hid (Chg 0 0 w w1) := HA.out.trans hc
  clear hc
  by_cases hD : D < b
  · have hd : (1 : Int) ≤ (b : Int) - (D : Int) := by omega
    go_wp2
    go_ret
    exact ⟨by rw [HD.out, decide_eq_true hD]; rfl, HC.out⟩
  · have hd : ¬ (1 : Int) ≤ (b : Int) - (D : Int) := by omega
    go_wp2
    go_ret
    exact ⟨by rw [HD.out, decide_eq_false hD, ← decide_eq_false (show ¬ (1 : Int) ≤ (b : Int) - (D : Int) by omega)]; rfl, HC.out⟩

set_option maxRecDepth 20000 in
set_option maxHeartbeats 1000000 in
theorem implValid_out (w : World) (b l n : Int) (hx : ¬ (16 ≤ l ∧ l ≤ 512 ∧ 1 ≤ n ∧ n ≤ 256 ∧ 1 ≤ b ∧ b ≤ 2048)) :
    Calls Tryd.prog 21 #[geoV b l n] w fun e w' => e = .returned (.bool false) ∧ Chg 0 0 w w' := by
  have HA : Hid (Chg 0 0 w (w.alloc (.cells #[.int .i64 b, .int .i64 l, .int .i64 n] 29))) := Chg.alloc (Chg.refl 0 0 w) _
  have q1 := fun W => isWithin_calls W l 16 512
  have q2 := fun W => isWithin_calls W n 1 256
  have q3 := fun W => isWithin_calls W b 1 2048
  rw [← Bool.decide_and] at q1 q2 q3
  by_cases e1 : (16 : Int) ≤ l ∧ l ≤ 512
  · rw [decide_eq_true e1] at q1
    by_cases e2 : (1 : Int) ≤ n ∧ n ≤ 256
    · rw [decide_eq_true e2] at q2
      have e3 : ¬ ((1 : Int) ≤ b ∧ b ≤ 2048) := by omega
      rw [decide_eq_false e3] at q3
      clear hx e1 e2 e3
      go_enter Tryd.func21, Tryd.ntmps21
      go_wp2_with fail
      refine (q1 _).mono ?_
      rintro e w1 ⟨rfl, rfl⟩
      go_wp2_with fail
      refine (q2 _).mono ?_
      rintro e w1 ⟨rfl, rfl⟩
      go_wp2_with fail
      refine (q3 _).mono ?_
      rintro e w1 ⟨rfl, rfl⟩
      clear q1 q2 q3
      go_wp2
      go_ret
      exact ⟨rfl, HA.out⟩
    · rw [decide_eq_false e2] at q2
      clear hx e1 e2
      go_enter Tryd.func21, Tryd.ntmps21
      go_wp2_with fail
      refine (q1 _).mono ?_
      rintro e w1 ⟨rfl, rfl⟩
      go_wp2_with fail
      refine (q2 _).mono ?_
      rintro e w1 ⟨rfl, rfl⟩
      clear q1 q2 q3
      go_wp2
      go_ret
      exact ⟨rfl, HA.out⟩
  · rw [decide_eq_false e1] at q1
    clear hx e1
    go_enter Tryd.func21, Tryd.ntmps21
    go_wp2_with fail
    refine (q1 _).mono ?_
    rintro e w1 ⟨rfl, rfl⟩
    clear q1 q2 q3
    go_wp2
    go_ret
    exact ⟨rfl, HA.out⟩

theorem implValidGeometry_calls (w : World) (b l n : Int) :
    Calls Tryd.prog 21 #[geoV b l n] w fun e w' => e = .returned (.bool (geoB b l n)) ∧ Chg 0 0 w w' := by
  by_cases h : GeoIn b l n
  · obtain ⟨h1, h2, h3, h4, h5, h6⟩ := id h
    obtain ⟨p, rfl⟩ : ∃ p : Nat, b = p := ⟨b.toNat, by omega⟩
    obtain ⟨q, rfl⟩ : ∃ q : Nat, l = q := ⟨l.toNat, by omega⟩
    obtain ⟨r, rfl⟩ : ∃ r : Nat, n = r := ⟨n.toNat, by omega⟩
    rw [geoB_in h]
    exact implValid_in w p q r (by omega) (by omega) (by omega) (by omega) (by omega) (by omega)
  · rw [geoB_out h]
    exact implValid_out w b l n h

end Go.Proofs.YtaciallijnhieaaDoor

namespace Go.Proofs.YtaciallijnhieaaDoor
open Go.RowKit

set_option maxRecDepth 20000 in
set_option maxHeartbeats 2000000 in
theorem joined_calls (w : World) (gD n : Nat) (xs : List Int) (hrow : w.heap[gD]? = some (.cells (xs.map (Value.int .u8)).toArray 58 (0, 0))) (hl : xs.length = n * 64) (hn1 : 1 ≤ n) (hn : n ≤ 2048) :
    Calls Tryd.prog 56 #[.slice (some ⟨gD, 0, none⟩) n n] w fun e w' => ∃ g, e = .returned (.slice (some ⟨g, 0, none⟩) (n * 64) (n * 64)) ∧ OwnB w' w.heap.size 5 (.slice (some ⟨g, 0, none⟩) (n * 64) (n * 64)) xs ∧ Chg 0 0 w w' := by
  obtain ⟨i, hi, hz0, hz1, hz2⟩ := info_parts Tryd.infoU
  have hgz : gD < w.heap.size := (Array.getElem?_eq_some_iff.1 hrow).1
  have Hrow : Hid (w.heap[gD]? = some (.cells (xs.map (Value.int .u8)).toArray 58 (0, 0))) := hrow
  have Hl : Hid (xs.length = n * 64) := hl
  clear hrow hl
  go_enter Tryd.func56, Tryd.ntmps56
  go_wp2_with (at_make; refine wpList_make_full _ rfl _ _ 24 rfl w.heap.size 5 i (.int .u8 0) 1 Tryd.underlying24 hi hz0 hz1 _ _ _ _ (n * 64) rfl rfl (by omega) (by omega) (by rw [hz2]; omega) (by unfold maxLen; omega) (Nat.le_refl _) ?_)
  intro w1 hown hgrow
  have C1 : Chg 0 0 w w1 := Chg.ofGrown hgrow (by simp)
  have G1 : Hid (w1.heap[w.heap.size]? = some (.cells (drow xs n 0).toArray 5 (0, 0))) := by
    rcases hown.2 with ⟨h', _⟩ | ⟨g', cap', cur, h', hb, hg, _, _, hs, ht⟩
    · cases h'
    · simp only [Value.slice.injEq, Option.some.injEq, Addr.mk.injEq, and_true, true_and] at h'
      obtain ⟨rfl, rfl⟩ := h'
      show _ = _
      have hc : cur.toList = (drow xs n 0) := by
        rw [List.take_of_length_le (by rw [Array.length_toList, hs]; exact Nat.le_refl _)] at ht
        rw [ht]
        unfold drow
        simp [toList_madeCells_one]
      rw [hg, ← hc]
  have s1 : w.heap.size < w1.heap.size := by have := (Array.getElem?_eq_some_iff.1 G1.out).1; omega
  clear hown hgrow
  go_wp2
  go_loopw [12] (fun i wr => ∃ k : Nat, k ≤ n ∧ i = .int .i64 k ∧ Chg 0 0 w wr ∧ w1.heap.size ≤ wr.heap.size ∧ wr.heap[w.heap.size]? = some (.cells (drow xs n k).toArray 5 (0, 0))) (fun i _ => n - (intOf i).toNat)
  case atStart => exact ⟨0, Nat.zero_le _, rfl, C1, Nat.le_refl _, G1.out⟩
  case round =>
    obtain ⟨k, hk, rfl, hcw, hsz, hrow⟩ := hrel
    have HR : Hid (wr.heap[w.heap.size]? = some (.cells (drow xs n k).toArray 5 (0, 0))) := hrow
    clear hrow
    by_cases hlt : k < n
    · obtain ⟨cs, hcs⟩ : ∃ cs, cs = ((xs.drop (k * 64)).take 64).map (Value.int .u8) := ⟨_, rfl⟩
      have hle : (k + 1) * 64 ≤ n * 64 := Nat.mul_le_mul_right _ hlt
      have hll := Hl.out
      have L1 : cs.length = 64 := by rw [hcs]; simp; omega
      have L2 : ∀ v ∈ cs, v.oneCell' = true := by rw [hcs]; exact ints_oneCell _ _
      have hgw : wr.heap[gD]? = some (.cells (xs.map (Value.int .u8)).toArray 58 (0, 0)) := (hcw.block gD hgz (by omega)).trans Hrow.out
      have R0 : wr.rangeAt gD (k * 64) cs := by
        intro j v hj
        have hj64 : j < 64 := by have := (List.getElem?_eq_some_iff.1 hj).1; omega
        rw [cell_of_row wr gD (k * 64 + j) _ _ _ hgw, ← hj, hcs, List.getElem?_map, List.getElem?_take, if_pos hj64, List.getElem?_drop]
        simp
      have L4 := drow_length xs n k hll hk
      have L5 := drow_splice xs n k hll hlt
      rw [← hcs] at L5
      have HR0 : Hid (wr.rangeAt gD (k * 64) cs) := R0
      have HL1 : Hid (cs.length = 64) := L1
      have HL2 : Hid (∀ v ∈ cs, v.oneCell' = true) := L2
      have HL4 : Hid ((drow xs n k).length = n * 64) := L4
      have HL5 : Hid (splice (drow xs n k) (k * 64) cs = drow xs n (k + 1)) := L5
      have Hsz : Hid (cs.toArray.size = 64) := by show _ = _; simpa using L1
      have u85 := Tryd.underlying58
      have i85 : Hid ((Tryd.prog.info? 58).map (·.size) = some cs.toArray.size) := by show _ = _; rw [Hsz.out]; kernel_rfl
      have i85l : Hid ((Tryd.prog.info? 58).map (·.size) = some cs.length) := by show _ = _; rw [L1]; kernel_rfl
      clear R0 L1 L2 L4 L5 hcs hgw hll
      have hik : (k : Int) < (n : Int) := by omega
      go_wp2_with (first
        | (refine wpList_load_mid rfl 58 (.tmp 15) rfl gD (k * 64) rfl cs _ HR0.out u85 rfl i85l.out ?_)
        | (refine wpList_store_mid rfl 58 (.tmp 5) (.tmp 16) rfl wr.heap.size 0 cs.toArray rfl rfl (by rw [Hsz.out]; exact there_new wr _ _ 64 rfl) i85.out (all_oneCell_toArray HL2.out) ?_))
      generalize hW : World.setCells (World.alloc wr _) _ _ _ = W7
      have F1 : W7.heap[wr.heap.size]? = some (.cells cs.toArray 58 (0, 0)) := by rw [← hW]; exact (filled (by rw [HL1.out]; rfl)).1
      have F2 : Chg 0 0 wr W7 := by rw [← hW]; exact (filled (by rw [HL1.out]; rfl)).2
      clear hW
      have hrow7 : W7.heap[w.heap.size]? = some (.cells (drow xs n k).toArray 5 (0, 0)) := (F2.block w.heap.size (by omega) (by omega)).trans HR.out
      have Hrow7 : Hid (W7.heap[w.heap.size]? = some (.cells (drow xs n k).toArray 5 (0, 0))) := hrow7
      have hsrc : ∀ j v, cs[j]? = some v → W7.cell? ((⟨wr.heap.size, 0, none⟩ : Addr).add j) = some v := by
        intro j v hj
        rw [Addr.add_mid, Nat.zero_add, cell_of_row W7 wr.heap.size j _ _ _ F1]
        simpa using hj
      have Hsrc : Hid (∀ j v, cs[j]? = some v → W7.cell? ((⟨wr.heap.size, 0, none⟩ : Addr).add j) = some v) := hsrc
      have C7 := hcw.trans F2
      have s7 := F2.size
      have e2 : (0 : Int) ≤ (k : Int) * 64 := by omega
      have e3 : (k : Int) * 64 ≤ (n : Int) * 64 := by omega
      have e3' : (k : Int) * 64 ≤ ((n * 64 : Nat) : Int) := by omega
      have e5 : ¬ n * 64 = k * 64 := by omega
      have e5' : ¬ n = k := by omega
      have e6 : IntKind.i64.wrap ((k : Int) * 64) = (k : Int) * 64 := by rw [IntKind.wrap_i64]; omega
      have e7 : ((k : Int) * 64).toNat = k * 64 := by omega
      clear F1 F2 hrow7 hsrc HR hcw HR0 u85 i85 i85l Hsz
      go_region_held3 (fun _ => True) (trivial)
        ((refine step_copy_mid rfl (.tmp 20) (.tmp 21) 24 24 rfl 5 Tryd.underlying24 (by kernel_rfl) w.heap.size (k * 64) (n * 64 - k * 64) (n * 64 - k * 64) ⟨wr.heap.size, 0, none⟩ 64 64 rfl rfl _ _ Hrow7.out cs (by rw [HL1.out]; show 64 = min 64 _; omega) Hsrc.out (by rw [HL1.out, HL4.out]; omega) HL2.out ?_; intro w2 H2 C2))
      have R1 : Chg 0 0 w w2 := (C7.drew).step C2 (Or.inr (Or.inl (Nat.le_refl _)))
      have R2 : Hid (w2.heap[w.heap.size]? = some (.cells (drow xs n (k + 1)).toArray 5 (0, 0))) := by
        have := H2.out; rw [HL5.out] at this; exact this
      have R3 : w1.heap.size ≤ w2.heap.size := by have h1 : W7.drew.heap.size ≤ w2.heap.size := C2.size; have h2 : W7.drew.heap.size = W7.heap.size := rfl; omega
      clear C2 H2 C7 Hrow7 Hsrc HL1 HL2 HL4 HL5
      go_wp2
      go_roundw
      case rel => exact ⟨k + 1, by omega, by go_num, R1, R3, R2.out⟩
      case measure => simp [intOf]; omega
    · obtain rfl : k = n := by omega
      have HO : Hid (OwnB wr w.heap.size 5 (.slice (some ⟨w.heap.size, 0, none⟩) (k * 64) (k * 64)) xs) := by
        have h1 := HR.out
        rw [drow_end xs k Hl.out] at h1
        show OwnB _ _ _ _ _
        unfold OwnB
        rw [Hl.out]
        refine ⟨by simp [Hl.out], Or.inr ⟨w.heap.size, _, _, rfl, Nat.le_refl _, h1, Nat.le_refl _, by unfold maxLen; omega, by simp [Hl.out], ?_⟩⟩
        exact List.take_of_length_le (by simp [Hl.out])
      clear HR Hrow Hl G1
      go_wp2
      go_ret
      exact ⟨_, rfl, HO.out, hcw⟩
end Go.Proofs.YtaciallijnhieaaDoor

namespace Go.Proofs.YtaciallijnhieaaDoor
open Go.RowKit

set_option maxRecDepth 20000 in
set_option maxHeartbeats 1000000 in
theorem disk_empty (w : World) {base p : Nat} {d : Dsk} (h : Dev w base p d) (hp0 : d.pend = []) :
    Calls Tryd.prog 30 #[.pointer (some ⟨p, 0, none⟩)] w fun e w' => ∃ v, e = .returned v ∧ OwnD w' w.heap.size w'.heap.size 105 5 v d ∧ Chg 0 0 w w' := by
  obtain ⟨gD, po, cap, hv, hp, hgD, hbox, hdur, _⟩ := h.pend_ne
  rw [hp0] at hbox
  have hbox : w.heap[p]? = some (.cells #[.slice (some ⟨gD, 0, none⟩) (d.dur.length / 64) (d.dur.length / 64), .slice po 0 cap] 56 (0, 0)) := hbox
  have hpz : p < w.heap.size := (Array.getElem?_eq_some_iff.1 hbox).1
  have hgz : gD < w.heap.size := (Array.getElem?_eq_some_iff.1 hdur).1
  have h64 := hv.1
  have hn1 := hv.2.1
  have hn := hv.2.2.1
  have C0 : Chg 0 0 w (w.alloc (.cells #[.slice none 0 0, .slice none 0 0] 27)) := Chg.alloc (Chg.refl 0 0 w) _
  have B0 := heap_new w (.cells #[.slice none 0 0, .slice none 0 0] 27)
  have s0 : (w.alloc (.cells #[.slice none 0 0, .slice none 0 0] 27)).heap.size = w.heap.size + 1 := by simp
  have hdur0 := (C0.block gD hgz (by omega)).trans hdur
  have hbox0 := (C0.block p hpz (by omega)).trans hbox
  obtain ⟨b0, b1, _, _⟩ := two_cells hbox0
  have HP0 : Hid (d.pend = []) := hp0
  clear hdur hbox h hv hp0
  go_enter Tryd.func30, Tryd.ntmps30
  go_wp2_with fail
  generalize w.alloc (.cells #[.slice none 0 0, .slice none 0 0] 27) = wa at *
  refine (joined_calls _ gD _ d.dur hdur0 (by omega) hn1 hn).mono ?_
  rintro e wb ⟨g, rfl, ho, hb⟩
  rw [show d.dur.length / 64 * 64 = d.dur.length from by omega] at *
  have sb := hb.size
  have gb := ho.lt g rfl
  have B0 := (hb.block w.heap.size (by omega) (by omega)).trans B0
  have hbox1 := (hb.block p (by omega) (by omega)).trans hbox0
  have hB := C0.trans hb
  clear hb C0 hdur0 hbox0 b0 b1
  have C1 : Chg 0 0 wb (wb.alloc (.cells #[.slice (some ⟨g, 0, none⟩) d.dur.length d.dur.length, .slice none 0 0] 27)) := Chg.alloc (Chg.refl 0 0 wb) _
  have B2 := heap_new wb (.cells #[.slice (some ⟨g, 0, none⟩) d.dur.length d.dur.length, .slice none 0 0] 27)
  have B0 := (C1.block w.heap.size (by omega) (by omega)).trans B0
  have hbox2 := (C1.block p (by omega) (by omega)).trans hbox1
  have s2 : (wb.alloc (.cells #[.slice (some ⟨g, 0, none⟩) d.dur.length d.dur.length, .slice none 0 0] 27)).heap.size = wb.heap.size + 1 := by simp
  obtain ⟨b0, b1, _, _⟩ := two_cells hbox2
  obtain ⟨y0, y1, yf0, yf1⟩ := two_cells B0
  obtain ⟨u0, u1, _, _⟩ := two_cells B2
  have ho2 := (ho.chg C1 (by intro g' _; omega)).base (base' := w.heap.size) (fun g' hg' => by cases hg'; show w.heap.size ≤ g; omega)
  have hC := hB.trans C1
  clear hB C1 ho hbox1 hbox2 B2
  go_wp2
  generalize wb.alloc (.cells #[.slice (some ⟨g, 0, none⟩) d.dur.length d.dur.length, .slice none 0 0] 27) = wd at *
  have hgs : g < wd.heap.size := by omega
  have HO : Hid (OwnD ((wd.setCell ⟨w.heap.size, 0, none⟩ (.slice (some ⟨g, 0, none⟩) d.dur.length d.dur.length)).setCell ⟨w.heap.size, 1, none⟩ (.slice none 0 0)) w.heap.size wd.heap.size 105 5 (.agg #[.slice (some ⟨g, 0, none⟩) d.dur.length d.dur.length, .slice none 0 0]) d) := by
    have n1 : (Value.slice (some ⟨g, 0, none⟩) d.dur.length d.dur.length).ownBlock ≠ some w.heap.size := by simp [Value.ownBlock]; omega
    refine ⟨_, _, [], fun _ => .slice none 0 0, rfl, (ho2.set (p := ⟨w.heap.size, 0, none⟩) n1 _).set (p := ⟨w.heap.size, 1, none⟩) n1 _, by rw [HP0.out]; exact OwnPx.nil _ _ _ _, by rw [HP0.out]; simp, ?_, by simp [Value.ownBlock], by rw [HP0.out]; simp⟩
    intro g' hg'
    cases hg'
    exact hgs
  have HC : Hid (Chg 0 0 w ((wd.setCell ⟨w.heap.size, 0, none⟩ (.slice (some ⟨g, 0, none⟩) d.dur.length d.dur.length)).setCell ⟨w.heap.size, 1, none⟩ (.slice none 0 0))) := hC.step (Chg.set2 _ _ _ _) (by omega)
  have HS : Hid (((wd.setCell ⟨w.heap.size, 0, none⟩ (.slice (some ⟨g, 0, none⟩) d.dur.length d.dur.length)).setCell ⟨w.heap.size, 1, none⟩ (.slice none 0 0)).heap.size = wd.heap.size) := by show _ = _; simp [World.setCell]
  clear ho2 hC B0 HP0
  refine wp_loop_rounds 1 ?_; rw [rounds_succ]
  go_wp2
  refine bodyPost_ret (v := .agg #[.slice (some ⟨g, 0, none⟩) d.dur.length d.dur.length, .slice none 0 0]) (by simp [results, Tryd.results30, go_sem, y0, y1]) rfl ⟨_, rfl, ?_, HC.out⟩
  rw [HS.out]; exact HO.out

end Go.Proofs.YtaciallijnhieaaDoor

namespace Go.Proofs.YtaciallijnhieaaDoor
open Go.RowKit

/-- What lies in memory while a disk is made. -/
structure Mk (w x : World) (PB gD p b l n im bm mb tb tn D : Nat) (dn : Int) (cur : List Value) : Prop where
  g0 : x.heap[w.heap.size]? = some (.cells #[.int .i64 (b : Int), .int .i64 (l : Int), .int .i64 (n : Int)] 29 (0, 0))
  r0 : x.heap[w.heap.size + 1]? = some (.cells #[.slice none 0 0, .slice none 0 0] 27 (0, 0))
  pb : x.heap[PB]? = some (.cells #[.int .i64 (im : Int), .int .i64 (bm : Int), .int .i64 (mb : Int), .int .i64 (tb : Int), .int .i64 (tn : Int), .int .i64 (D : Int), .int .i64 dn] 36 (0, 0))
  dv : x.heap[p]? = some (.cells #[.slice (some ⟨gD, 0, none⟩) b b, .slice none 0 0] 56 (0, 0))
  dr : x.heap[gD]? = some (.cells cur.toArray 58 (0, 0))
  lo : w.heap.size + 1 < PB ∧ PB < gD ∧ gD < p
  ch : Chg 0 0 w x
theorem Mk.lt {w x : World} {PB gD p b l n im bm mb tb tn D : Nat} {dn : Int} {cur : List Value} (h : Mk w x PB gD p b l n im bm mb tb tn D dn cur) : p < x.heap.size := (Array.getElem?_eq_some_iff.1 h.dv).1
theorem Mk.chg {w x y : World} {PB gD p b l n im bm mb tb tn D : Nat} {dn : Int} {cur : List Value} (h : Mk w x PB gD p b l n im bm mb tb tn D dn cur) (c : Chg 0 0 x y) : Mk w y PB gD p b l n im bm mb tb tn D dn cur :=
  have h1 := h.lt
  have h2 := h.lo
  ⟨(c.block _ (by omega) (by omega)).trans h.g0, (c.block _ (by omega) (by omega)).trans h.r0, (c.block _ (by omega) (by omega)).trans h.pb, (c.block _ (by omega) (by omega)).trans h.dv, (c.block _ (by omega) (by omega)).trans h.dr, h.lo, h.ch.trans c⟩
theorem Mk.put {w x y : World} {PB gD p b l n im bm mb tb tn D : Nat} {dn : Int} {cur cur' : List Value} (h : Mk w x PB gD p b l n im bm mb tb tn D dn cur) (c : Chg gD (gD + 1) x y) (hb : y.heap[gD]? = some (.cells cur'.toArray 58 (0, 0))) : Mk w y PB gD p b l n im bm mb tb tn D dn cur' :=
  have h1 := h.lt
  have h2 := h.lo
  ⟨(c.block _ (by omega) (by omega)).trans h.g0, (c.block _ (by omega) (by omega)).trans h.r0, (c.block _ (by omega) (by omega)).trans h.pb, (c.block _ (by omega) (by omega)).trans h.dv, hb, h.lo, h.ch.step c (by omega)⟩

end Go.Proofs.YtaciallijnhieaaDoor

namespace Go.Proofs.YtaciallijnhieaaDoor
open Go.RowKit
attribute [local go_sem] Oper.semAt_some

theorem splice_mapI (xs ys : List Int) (o : Nat) : splice (xs.map (Value.int .u8)) o (ys.map (Value.int .u8)) = (splice xs o ys).map (Value.int .u8) := by
  unfold splice
  simp [List.map_take, List.map_drop]
theorem splice_lenI {xs ys : List Int} {o k : Nat} (h : o + ys.length ≤ xs.length) (hk : xs.length = k) : (splice xs o ys).length = k := by
  unfold splice; simp only [List.length_append, List.length_take, List.length_drop]; omega
theorem two_first {w : World} {s : Nat} {a b : Value} {t : TypeId} (h : w.heap[s]? = some (.cells #[a, b] t (0, 0))) : w.cell? ⟨s, 0, none⟩ = some a ∧ w.cell? ⟨s, 1, none⟩ = some b := by simp [World.cell?, h]
theorem seven {w : World} {s : Nat} {a b c d e f g : Value} {t : TypeId} (h : w.heap[s]? = some (.cells #[a, b, c, d, e, f, g] t (0, 0))) :
    w.cell? ⟨s, 0, none⟩ = some a ∧ w.cell? ⟨s, 1, none⟩ = some b ∧ w.cell? ⟨s, 2, none⟩ = some c ∧ w.cell? ⟨s, 3, none⟩ = some d ∧ w.cell? ⟨s, 4, none⟩ = some e ∧ w.cell? ⟨s, 5, none⟩ = some f ∧ w.cell? ⟨s, 6, none⟩ = some g := by simp [World.cell?, h]
theorem supJ_byt (it sq st : Int) : Byt (supA 106 108 111 103 1 it sq st) := by
  intro x hx
  unfold supA at hx
  simp only [List.mem_append] at hx
  rcases hx with (((hx | hx) | hx) | hx) | hx
  · simp at hx; omega
  · exact putN_byt _ _ x hx
  · exact putN_byt _ _ x hx
  · exact putN_byt _ _ x hx
  · rw [List.mem_replicate] at hx; omega
theorem zrow_zeros (b : Nat) : zrow b = ((List.replicate (b * 64) (0 : Int)).map (Value.int .u8)).toArray := by
  apply Array.ext'
  unfold zrow
  rw [made_replicate _ _ _ (by decide), List.map_replicate]
theorem rootL_len : rootL.length = 64 := rfl
theorem rootL_calls (w : World) : Calls Tryd.prog 29 #[] w fun e w' => e = .returned (.agg (rootL.map (Value.int .u8)).toArray) ∧ Chg 0 0 w w' := by
  have h := rootBlock_calls w
  unfold rootV at h
  exact h
theorem inoMap_len {n : Nat} (hn : n ≤ 256) : (inoMap n).length = 64 := by
  unfold inoMap
  have hbp : bitP (List.replicate 64 0) 0 true = (List.replicate 64 (0 : Int)).set (0 / 8) (putBit ((List.replicate 64 0).getD (0 / 8) 0) (0 % 8) true) := bitP_in (m := 0) ⟨by simp, by omega, by simp⟩
  have hl1 : (bitP (List.replicate 64 0) 0 true).length = 64 := by rw [hbp, List.length_set, List.length_replicate]
  have hby := bitP_byt (xs := List.replicate 64 0) 0 true (zeros_byt 64)
  obtain ⟨h3, _⟩ := onTo_facts (A := n) hby (by omega) (512 - n) (by omega)
  rw [h3, hl1]
theorem blkMap_len {mb D b : Nat} (hmb : mb ≤ 4) (hD : D ≤ 512 * mb) (hb : b ≤ 512 * mb) : (blkMap mb D b).length = 64 * mb := by
  unfold blkMap
  obtain ⟨h1, h2⟩ := onTo_facts (ys := List.replicate (64 * mb) 0) (A := 0) (zeros_byt _) (by rw [List.length_replicate]; omega) D (by rw [List.length_replicate]; omega)
  obtain ⟨h3, _⟩ := onTo_facts (A := b) h2 (by rw [h1, List.length_replicate]; omega) (512 * mb - b) (by rw [h1, List.length_replicate]; omega)
  rw [h3, h1, List.length_replicate]

/-- What superblocks, maps and table give. -/
def mkJ (l : Int) : List Int := supL 106 108 111 103 1 l 1 0
def mkDur (b l n im bm mb tb D : Nat) : List Int :=
  splice (splice (splice (splice (splice (List.replicate (b * 64) 0) (0 * 64) (fsL b l n)) (1 * 64) (mkJ l)) (im * 64) (inoMap n)) (bm * 64) (blkMap mb D b)) (tb * 64) rootL
theorem mkJ_len {l : Int} (h0 : 0 ≤ l) (h1 : l ≤ 512) : (mkJ l).length = 64 := by
  have hi2 := pn2 (v := l) (by omega) (by omega)
  have hq4 := pn4 (v := 1) (by omega) (by omega)
  have ht2 := pn2 (v := 0) (by omega) (by omega)
  obtain ⟨hc0, hc1⟩ := crcV_range (supA 106 108 111 103 1 l 1 0)
  unfold mkJ supL; rw [List.length_append, supA_length hi2 hq4 ht2, pn4 hc0 hc1]
theorem mkJ_calls (w : World) (l : Int) (h0 : 0 ≤ l) (h1 : l ≤ 512) :
    Calls Tryd.prog 25 #[.agg #[.int .u8 106, .int .u8 108, .int .u8 111, .int .u8 103, .int .i64 1, .int .i64 l, .int .i64 1, .int .i64 0]] w fun e w' => e = .returned (.agg ((mkJ l).map (Value.int .u8)).toArray) ∧ Chg 0 0 w w' := by
  have hi2 := pn2 (v := l) (by omega) (by omega)
  have hq4 := pn4 (v := 1) (by omega) (by omega)
  have ht2 := pn2 (v := 0) (by omega) (by omega)
  obtain ⟨hc0, hc1⟩ := crcV_range (supA 106 108 111 103 1 l 1 0)
  exact encodedS_calls w 106 108 111 103 1 l 1 0 (by omega) (by omega) (by omega) (by omega) (by omega) hi2 hq4 ht2 (pn4 hc0 hc1) (supJ_byt _ _ _) (by omega)

set_option maxRecDepth 20000 in
set_option maxHeartbeats 8000000 in
theorem mkfs_good (w : World) (b l n im bm mb tb tn D : Nat) (dn : Int) (hg : GeoIn b l n) (hv : geoB b l n = true) (hpl : placesV b l n = plV im bm mb tb tn D dn)
    (q1 : im = 2 + l) (q2 : bm = im + 1) (q3 : tb = bm + mb) (q4 : tb < D) (q5 : D < b) (q6 : 0 < mb) (q7 : mb ≤ 4) (q8 : b ≤ 512 * mb) (hs : SysM w)
    (m0 : w.cell? ⟨1, 0, none⟩ = some (.int .u8 106)) (m1 : w.cell? ⟨1, 1, none⟩ = some (.int .u8 108)) (m2 : w.cell? ⟨1, 2, none⟩ = some (.int .u8 111)) (m3 : w.cell? ⟨1, 3, none⟩ = some (.int .u8 103)) :
    Calls Tryd.prog 6 #[geoV b l n] w fun e w' => ∃ v, e = .returned v ∧ OwnD w' w.heap.size w'.heap.size 105 5 v ⟨mkDur b l n im bm mb tb D, []⟩ ∧ Chg 0 0 w w' := by
  obtain ⟨g1, g2, g3, g4, g5, g6⟩ := id hg
  have HG : Hid (GeoIn b l n) := hg
  have HQ : Hid (im = 2 + l ∧ bm = im + 1 ∧ tb = bm + mb ∧ tb < D ∧ D < b ∧ 0 < mb ∧ mb ≤ 4 ∧ b ≤ 512 * mb) := ⟨q1, q2, q3, q4, q5, q6, q7, q8⟩
  have HM : Hid (SysM w ∧ w.cell? ⟨1, 0, none⟩ = some (.int .u8 106) ∧ w.cell? ⟨1, 1, none⟩ = some (.int .u8 108) ∧ w.cell? ⟨1, 2, none⟩ = some (.int .u8 111) ∧ w.cell? ⟨1, 3, none⟩ = some (.int .u8 103)) := ⟨hs, m0, m1, m2, m3⟩
  have hbn : b ≤ 2048 := by omega
  have hln : l ≤ 512 := by omega
  have hnn : n ≤ 256 := by omega
  have hmx : Tryd.prog.follows .mixedOrders = true := by kernel_rfl
  have hb0 : (0 : Int) < (b : Int) := by omega
  have hbz : ¬ b = 0 := by omega
  have hbo : 1 < b := by omega
  have htn : tb < b := by omega
  have hb1 : (1 : Int) < (b : Int) := by omega
  have htb : (tb : Int) < (b : Int) := by omega
  have hA : Chg 0 0 w ((w.alloc (.cells #[.int .i64 (b : Int), .int .i64 (l : Int), .int .i64 (n : Int)] 29)).alloc (.cells #[.slice none 0 0, .slice none 0 0] 27)) := (Chg.alloc (Chg.refl 0 0 w) _).alloc _
  obtain ⟨z, b0, b1⟩ := alloc2 w (.cells #[.int .i64 (b : Int), .int .i64 (l : Int), .int .i64 (n : Int)] 29) (.cells #[.slice none 0 0, .slice none 0 0] 27)
  have hN := implValidGeometry_calls ((w.alloc (.cells #[.int .i64 (b : Int), .int .i64 (l : Int), .int .i64 (n : Int)] 29)).alloc (.cells #[.slice none 0 0, .slice none 0 0] 27)) b l n
  rw [hv] at hN
  have hP := fun W => placesOf_calls W b l n hbn hln hnn
  rw [hpl] at hP
  clear hg hs m0 m1 m2 m3 hv hpl q1 q2 q3 q4 q5 q6 q7 q8
  go_enter Tryd.func6, Tryd.ntmps6
  go_wp2_with fail
  generalize (w.alloc (.cells #[.int .i64 (b : Int), .int .i64 (l : Int), .int .i64 (n : Int)] 29)).alloc (.cells #[.slice none 0 0, .slice none 0 0] 27) = w0 at *
  refine hN.mono ?_
  rintro e w1 ⟨rfl, h1⟩
  have B0 := (h1.block w.heap.size (by omega) (by omega)).trans b0
  have B1 := (h1.block (w.heap.size + 1) (by omega) (by omega)).trans b1
  have HA1 : Hid (Chg 0 0 w w1) := hA.trans h1
  have s1 := h1.size
  clear h1 b0 b1 hA hN
  obtain ⟨k0, k1, k2⟩ := trio B0
  go_wp2_with fail
  refine (hP w1).mono ?_
  rintro e w2 ⟨rfl, h2⟩
  have B0' := (h2.block w.heap.size (by omega) (by omega)).trans B0
  have B1' := (h2.block (w.heap.size + 1) (by omega) (by omega)).trans B1
  have HA2 : Hid (Chg 0 0 w w2) := HA1.out.trans h2
  have s2 := h2.size
  clear h2 B0 B1 HA1 k0 k1 k2 hP
  have mk := fun W => mk_dur W (b : Int) (by omega) (by omega)
  rw [Int.toNat_natCast] at mk
  have hB2 : (w2.alloc (.cells #[.int .i64 (im : Int), .int .i64 (bm : Int), .int .i64 (mb : Int), .int .i64 (tb : Int), .int .i64 (tn : Int), .int .i64 (D : Int), .int .i64 dn] 36)).heap[w2.heap.size]? = some (.cells #[.int .i64 (im : Int), .int .i64 (bm : Int), .int .i64 (mb : Int), .int .i64 (tb : Int), .int .i64 (tn : Int), .int .i64 (D : Int), .int .i64 dn] 36 (0, 0)) := heap_new w2 _
  have B0'' := ((Chg.alloc (Chg.refl 0 0 w2) (.cells #[.int .i64 (im : Int), .int .i64 (bm : Int), .int .i64 (mb : Int), .int .i64 (tb : Int), .int .i64 (tn : Int), .int .i64 (D : Int), .int .i64 dn] 36)).block w.heap.size (by omega) (by omega)).trans B0'
  have B1'' := ((Chg.alloc (Chg.refl 0 0 w2) (.cells #[.int .i64 (im : Int), .int .i64 (bm : Int), .int .i64 (mb : Int), .int .i64 (tb : Int), .int .i64 (tn : Int), .int .i64 (D : Int), .int .i64 dn] 36)).block (w.heap.size + 1) (by omega) (by omega)).trans B1'
  obtain ⟨k0, k1, k2⟩ := trio B0''
  have s3 : (w2.alloc (.cells #[.int .i64 (im : Int), .int .i64 (bm : Int), .int .i64 (mb : Int), .int .i64 (tb : Int), .int .i64 (tn : Int), .int .i64 (D : Int), .int .i64 dn] 36)).heap.size = w2.heap.size + 1 := by simp
  have HA3 : Hid (Chg 0 0 w (w2.alloc (.cells #[.int .i64 (im : Int), .int .i64 (bm : Int), .int .i64 (mb : Int), .int .i64 (tb : Int), .int .i64 (tn : Int), .int .i64 (D : Int), .int .i64 dn] 36))) := HA2.out.alloc _
  clear B0' B1' HA2
  go_upto_region 4 with fail
  generalize w2.alloc (.cells #[.int .i64 (im : Int), .int .i64 (bm : Int), .int .i64 (mb : Int), .int .i64 (tb : Int), .int .i64 (tn : Int), .int .i64 (D : Int), .int .i64 dn] 36) = w3 at *
  go_upto_region 5 with fail
  have HK5 : Hid (Mk w ((w3.alloc (.cells (zrow b) 58)).alloc (.cells #[.slice (some ⟨w2.heap.size + 1, 0, none⟩) b b, .slice none 0 0] 56)) w2.heap.size (w2.heap.size + 1) (w2.heap.size + 1 + 1) b l n im bm mb tb tn D dn ((List.replicate (b * 64) (0 : Int)).map (Value.int .u8))) := by
    obtain ⟨y1, y2, y3⟩ := alloc2 w3 (.cells (zrow b) 58) (.cells #[.slice (some ⟨w2.heap.size + 1, 0, none⟩) b b, .slice none 0 0] 56)
    have c3 : Chg 0 0 w3 ((w3.alloc (.cells (zrow b) 58)).alloc (.cells #[.slice (some ⟨w2.heap.size + 1, 0, none⟩) b b, .slice none 0 0] 56)) := (Chg.alloc (Chg.refl 0 0 w3) _).alloc _
    rw [s3] at y2 y3
    rw [zrow_zeros] at y2 ⊢
    rw [zrow_zeros] at y3 c3
    exact ⟨(c3.block _ (by omega) (by omega)).trans B0'', (c3.block _ (by omega) (by omega)).trans B1'', (c3.block _ (by omega) (by omega)).trans hB2, y3, y2, ⟨by omega, by omega, by omega⟩, HA3.out.trans c3⟩
  clear HA3 B0'' B1'' hB2 k0 k1 k2
  generalize (w3.alloc (.cells (zrow b) 58)).alloc (.cells #[.slice (some ⟨w2.heap.size + 1, 0, none⟩) b b, .slice none 0 0] 56) = W5 at *
  clear mk s3 s2 s1 z
  clear w3
  generalize w2.heap.size + 1 + 1 = p at *
  generalize w2.heap.size + 1 = gD at *
  generalize w2.heap.size = PB at *
  clear w2 w1 w0
  have HL5 : Hid ((List.replicate (b * 64) (0 : Int)).length = b * 64) := List.length_replicate
  obtain ⟨D5, hD5⟩ : ∃ d, d = List.replicate (b * 64) (0 : Int) := ⟨_, rfl⟩
  rw [← hD5] at HK5 HL5
  have HD5 : Hid (D5 = List.replicate (b * 64) (0 : Int)) := hD5
  clear hD5
  -- region 5
  have HK5d : Hid (Mk w W5.drew PB gD p b l n im bm mb tb tn D dn (D5.map (Value.int .u8))) := HK5.out.chg (Chg.drew (Chg.refl 0 0 W5))
  clear HK5
  refine held_region (fun w' : World => w'.heap[p]? = some (.cells #[.slice (some ⟨gD, 0, none⟩) b b, .slice none 0 0] 56 (0, 0)) ∧ w'.heap[w.heap.size]? = some (.cells #[.int .i64 (b : Int), .int .i64 (l : Int), .int .i64 (n : Int)] 29 (0, 0)) ∧ w'.heap[PB]? = some (.cells #[.int .i64 (im : Int), .int .i64 (bm : Int), .int .i64 (mb : Int), .int .i64 (tb : Int), .int .i64 (tn : Int), .int .i64 (D : Int), .int .i64 dn] 36 (0, 0))) hmx ?_
  generalize W5.drew = X5 at *
  have HS : Hid ((fun w' : World => w'.heap[p]? = some (.cells #[.slice (some ⟨gD, 0, none⟩) b b, .slice none 0 0] 56 (0, 0)) ∧ w'.heap[w.heap.size]? = some (.cells #[.int .i64 (b : Int), .int .i64 (l : Int), .int .i64 (n : Int)] 29 (0, 0)) ∧ w'.heap[PB]? = some (.cells #[.int .i64 (im : Int), .int .i64 (bm : Int), .int .i64 (mb : Int), .int .i64 (tb : Int), .int .i64 (tn : Int), .int .i64 (D : Int), .int .i64 dn] 36 (0, 0))) X5) := ⟨HK5d.out.dv, HK5d.out.g0, HK5d.out.pb⟩
  refine held_take 0 (.pointer (some ⟨p, 0, none⟩)) rfl (by kernel_rfl) (by kernel_rfl) (by kernel_rfl) (fun _ _ _ h => h) (.inl ⟨by kernel_rfl, fun w' hw' => by go_simp⟩) HS.out ?_
  go_simp
  refine held_take 1 (.pointer (some ⟨p, 0, none⟩)) rfl (by kernel_rfl) (by kernel_rfl) (by kernel_rfl) (fun _ _ _ h => h) (.inl ⟨by kernel_rfl, fun w' hw' => by go_simp⟩) HS.out ?_
  go_simp
  refine held_take 2 (.pointer (some ⟨p, 0, none⟩)) rfl (by kernel_rfl) (by kernel_rfl) (by kernel_rfl) (fun _ _ _ h => h) (.inl ⟨by kernel_rfl, fun w' hw' => by go_simp⟩) HS.out ?_
  go_simp
  refine held_take 3 (.slice (some ⟨gD, 0, none⟩) b b) rfl (by kernel_rfl) (by kernel_rfl) (by kernel_rfl) (fun _ _ _ h => h) (.inl ⟨by kernel_rfl, fun w' hw' => by obtain ⟨h4, h5⟩ := two_first hw'.1; go_simp⟩) HS.out ?_
  go_simp
  refine held_take 4 (.agg #[.int .i64 (b : Int), .int .i64 (l : Int), .int .i64 (n : Int)]) rfl (by kernel_rfl) (by kernel_rfl) (by kernel_rfl) (fun _ _ _ h => h) (.inl ⟨by kernel_rfl, fun w' hw' => by obtain ⟨h4, h5, h6⟩ := trio hw'.2.1; go_simp⟩) HS.out ?_
  go_simp
  refine held_one 5 rfl rfl (by kernel_rfl) ?_
  refine wp_enter 23 #[geoV b l n] (by first | kernel_rfl | go_simp) (systemBlock_calls X5 b l n HG.out (HM.out.1.chg HK5d.out.ch)) ?_
  rintro e Y5 ⟨rfl, hc⟩
  have HK5Y5 : Hid (Mk w Y5 PB gD p b l n im bm mb tb tn D dn (D5.map (Value.int .u8))) := HK5d.out.chg hc
  have HS : Hid ((fun w' : World => w'.heap[p]? = some (.cells #[.slice (some ⟨gD, 0, none⟩) b b, .slice none 0 0] 56 (0, 0)) ∧ w'.heap[w.heap.size]? = some (.cells #[.int .i64 (b : Int), .int .i64 (l : Int), .int .i64 (n : Int)] 29 (0, 0)) ∧ w'.heap[PB]? = some (.cells #[.int .i64 (im : Int), .int .i64 (bm : Int), .int .i64 (mb : Int), .int .i64 (tb : Int), .int .i64 (tn : Int), .int .i64 (D : Int), .int .i64 dn] 36 (0, 0))) Y5) := ⟨HK5Y5.out.dv, HK5Y5.out.g0, HK5Y5.out.pb⟩
  clear HK5d hc
  have HK5d := HK5Y5
  clear HK5Y5
  refine ⟨_, rfl, HS.out, ?_⟩
  go_simp
  refine held_take 6 (.pointer (some ⟨gD, 0 * 64, none⟩)) rfl (by kernel_rfl) (by kernel_rfl) (by kernel_rfl) (fun _ _ _ h => h) (.inl ⟨by kernel_rfl, fun w' hw' => by go_simp⟩) HS.out ?_
  go_simp
  refine held_one 7 rfl rfl (by kernel_rfl) ?_
  have hfit5 : 0 * 64 + ((fsL b l n).map (Value.int .u8)).length ≤ (D5.map (Value.int .u8)).length := by rw [List.length_map, List.length_map, fsL_len HG.out, HL5.out]; have := HQ.out; omega
  refine wp_store_mid 58 (.tmp 22) (.tmp 21) rfl gD (0 * 64) ((fsL b l n).map (Value.int .u8)).toArray (by first | rfl | go_simp) rfl (there_sub (row_there HK5d.out.dr) (by simpa using hfit5)) (by rw [List.size_toArray, List.length_map, fsL_len HG.out]; kernel_rfl) (all_oneCell_toArray (ints_oneCell _ _)) ?_
  have hh := heap_setCells gD 58 ((fsL b l n).map (Value.int .u8)) (0 * 64) Y5 _ HK5d.out.dr hfit5
  rw [splice_mapI] at hh
  have HK6 : Hid (Mk w (Y5.setCells gD (0 * 64) ((fsL b l n).map (Value.int .u8))) PB gD p b l n im bm mb tb tn D dn ((splice D5 (0 * 64) (fsL b l n)).map (Value.int .u8))) := HK5d.out.put (Chg.setCells gD _ _ Y5) hh
  have HL6 : Hid ((splice D5 (0 * 64) (fsL b l n)).length = b * 64) := splice_lenI (by simpa using hfit5) HL5.out
  clear hh HS HK5d HL5 hfit5
  refine ⟨⟨HK6.out.dv, HK6.out.g0, HK6.out.pb⟩, ?_⟩
  show wpAnyH _ _ _ _ _ 0 _ _ (Y5.setCells gD (0 * 64) ((fsL b l n).map (Value.int .u8)))
  generalize Y5.setCells gD (0 * 64) ((fsL b l n).map (Value.int .u8)) = W6 at *
  obtain ⟨D6, hD6⟩ : ∃ d, d = splice D5 (0 * 64) (fsL b l n) := ⟨_, rfl⟩
  rw [← hD6] at HK6 HL6
  have HD6 : Hid (D6 = splice D5 (0 * 64) (fsL b l n)) := hD6
  clear hD6
  refine held_done (by kernel_rfl) (NoPanic.normal ?_)
  go_upto_region 6 with fail
  -- region 6
  have HK6d : Hid (Mk w W6.drew PB gD p b l n im bm mb tb tn D dn (D6.map (Value.int .u8))) := HK6.out.chg (Chg.drew (Chg.refl 0 0 W6))
  clear HK6
  refine held_region (fun w' : World => w'.heap[p]? = some (.cells #[.slice (some ⟨gD, 0, none⟩) b b, .slice none 0 0] 56 (0, 0)) ∧ w'.heap[w.heap.size]? = some (.cells #[.int .i64 (b : Int), .int .i64 (l : Int), .int .i64 (n : Int)] 29 (0, 0)) ∧ w'.heap[PB]? = some (.cells #[.int .i64 (im : Int), .int .i64 (bm : Int), .int .i64 (mb : Int), .int .i64 (tb : Int), .int .i64 (tn : Int), .int .i64 (D : Int), .int .i64 dn] 36 (0, 0))) hmx ?_
  generalize W6.drew = X6 at *
  have HS : Hid ((fun w' : World => w'.heap[p]? = some (.cells #[.slice (some ⟨gD, 0, none⟩) b b, .slice none 0 0] 56 (0, 0)) ∧ w'.heap[w.heap.size]? = some (.cells #[.int .i64 (b : Int), .int .i64 (l : Int), .int .i64 (n : Int)] 29 (0, 0)) ∧ w'.heap[PB]? = some (.cells #[.int .i64 (im : Int), .int .i64 (bm : Int), .int .i64 (mb : Int), .int .i64 (tb : Int), .int .i64 (tn : Int), .int .i64 (D : Int), .int .i64 dn] 36 (0, 0))) X6) := ⟨HK6d.out.dv, HK6d.out.g0, HK6d.out.pb⟩
  refine held_take 0 (.pointer (some ⟨p, 0, none⟩)) rfl (by kernel_rfl) (by kernel_rfl) (by kernel_rfl) (fun _ _ _ h => h) (.inl ⟨by kernel_rfl, fun w' hw' => by go_simp⟩) HS.out ?_
  go_simp
  refine held_take 1 (.pointer (some ⟨p, 0, none⟩)) rfl (by kernel_rfl) (by kernel_rfl) (by kernel_rfl) (fun _ _ _ h => h) (.inl ⟨by kernel_rfl, fun w' hw' => by go_simp⟩) HS.out ?_
  go_simp
  refine held_take 2 (.pointer (some ⟨p, 0, none⟩)) rfl (by kernel_rfl) (by kernel_rfl) (by kernel_rfl) (fun _ _ _ h => h) (.inl ⟨by kernel_rfl, fun w' hw' => by go_simp⟩) HS.out ?_
  go_simp
  refine held_take 3 (.slice (some ⟨gD, 0, none⟩) b b) rfl (by kernel_rfl) (by kernel_rfl) (by kernel_rfl) (fun _ _ _ h => h) (.inl ⟨by kernel_rfl, fun w' hw' => by obtain ⟨h4, h5⟩ := two_first hw'.1; go_simp⟩) HS.out ?_
  go_simp
  refine held_take 4 (.pointer (some ⟨w.heap.size, 1, none⟩)) rfl (by kernel_rfl) (by kernel_rfl) (by kernel_rfl) (fun _ _ _ h => h) (.inl ⟨by kernel_rfl, fun w' hw' => by go_simp⟩) HS.out ?_
  go_simp
  refine held_take 5 (.int .i64 (l : Int)) rfl (by kernel_rfl) (by kernel_rfl) (by kernel_rfl) (fun _ _ _ h => h) (.inl ⟨by kernel_rfl, fun w' hw' => by obtain ⟨h4, h5, h6⟩ := trio hw'.2.1; go_simp⟩) HS.out ?_
  go_simp
  refine held_take 6 (.agg #[.int .i64 (l : Int), .int .i64 0, .int .i64 1]) rfl (by kernel_rfl) (by kernel_rfl) (by kernel_rfl) (fun _ _ _ h => h) (.inl ⟨by kernel_rfl, fun w' hw' => by go_simp⟩) HS.out ?_
  go_simp
  refine held_one 7 rfl rfl (by kernel_rfl) ?_
  refine wp_enter 24 #[.agg #[.int .i64 (l : Int), .int .i64 0, .int .i64 1]] (by first | kernel_rfl | go_simp) (superOf_calls X6 l 0 1 (HK6d.out.ch.cell HM.out.2.1 (by omega)) (HK6d.out.ch.cell HM.out.2.2.1 (by omega)) (HK6d.out.ch.cell HM.out.2.2.2.1 (by omega)) (HK6d.out.ch.cell HM.out.2.2.2.2 (by omega))) ?_
  rintro e Y6 ⟨rfl, hc⟩
  have HK6Y6 : Hid (Mk w Y6 PB gD p b l n im bm mb tb tn D dn (D6.map (Value.int .u8))) := HK6d.out.chg hc
  have HS : Hid ((fun w' : World => w'.heap[p]? = some (.cells #[.slice (some ⟨gD, 0, none⟩) b b, .slice none 0 0] 56 (0, 0)) ∧ w'.heap[w.heap.size]? = some (.cells #[.int .i64 (b : Int), .int .i64 (l : Int), .int .i64 (n : Int)] 29 (0, 0)) ∧ w'.heap[PB]? = some (.cells #[.int .i64 (im : Int), .int .i64 (bm : Int), .int .i64 (mb : Int), .int .i64 (tb : Int), .int .i64 (tn : Int), .int .i64 (D : Int), .int .i64 dn] 36 (0, 0))) Y6) := ⟨HK6Y6.out.dv, HK6Y6.out.g0, HK6Y6.out.pb⟩
  clear HK6d hc
  have HK6d := HK6Y6
  clear HK6Y6
  refine ⟨_, rfl, HS.out, ?_⟩
  go_simp
  refine held_one 8 rfl rfl (by kernel_rfl) ?_
  refine wp_enter 25 #[.agg #[.int .u8 106, .int .u8 108, .int .u8 111, .int .u8 103, .int .i64 1, .int .i64 (l : Int), .int .i64 1, .int .i64 0]] (by first | kernel_rfl | go_simp) (mkJ_calls Y6 l (by omega) (by omega)) ?_
  rintro e Z6 ⟨rfl, hc⟩
  have HK6Z6 : Hid (Mk w Z6 PB gD p b l n im bm mb tb tn D dn (D6.map (Value.int .u8))) := HK6d.out.chg hc
  have HS : Hid ((fun w' : World => w'.heap[p]? = some (.cells #[.slice (some ⟨gD, 0, none⟩) b b, .slice none 0 0] 56 (0, 0)) ∧ w'.heap[w.heap.size]? = some (.cells #[.int .i64 (b : Int), .int .i64 (l : Int), .int .i64 (n : Int)] 29 (0, 0)) ∧ w'.heap[PB]? = some (.cells #[.int .i64 (im : Int), .int .i64 (bm : Int), .int .i64 (mb : Int), .int .i64 (tb : Int), .int .i64 (tn : Int), .int .i64 (D : Int), .int .i64 dn] 36 (0, 0))) Z6) := ⟨HK6Z6.out.dv, HK6Z6.out.g0, HK6Z6.out.pb⟩
  clear HK6d hc
  have HK6d := HK6Z6
  clear HK6Z6
  refine ⟨_, rfl, HS.out, ?_⟩
  go_simp
  refine held_take 9 (.pointer (some ⟨gD, 1 * 64, none⟩)) rfl (by kernel_rfl) (by kernel_rfl) (by kernel_rfl) (fun _ _ _ h => h) (.inl ⟨by kernel_rfl, fun w' hw' => by go_simp⟩) HS.out ?_
  go_simp
  refine held_one 10 rfl rfl (by kernel_rfl) ?_
  have hfit6 : 1 * 64 + ((mkJ l).map (Value.int .u8)).length ≤ (D6.map (Value.int .u8)).length := by rw [List.length_map, List.length_map, mkJ_len (by omega) (by omega), HL6.out]; have := HQ.out; omega
  refine wp_store_mid 58 (.tmp 32) (.tmp 31) rfl gD (1 * 64) ((mkJ l).map (Value.int .u8)).toArray (by first | rfl | go_simp) rfl (there_sub (row_there HK6d.out.dr) (by simpa using hfit6)) (by rw [List.size_toArray, List.length_map, mkJ_len (by omega) (by omega)]; kernel_rfl) (all_oneCell_toArray (ints_oneCell _ _)) ?_
  have hh := heap_setCells gD 58 ((mkJ l).map (Value.int .u8)) (1 * 64) Z6 _ HK6d.out.dr hfit6
  rw [splice_mapI] at hh
  have HK7 : Hid (Mk w (Z6.setCells gD (1 * 64) ((mkJ l).map (Value.int .u8))) PB gD p b l n im bm mb tb tn D dn ((splice D6 (1 * 64) (mkJ l)).map (Value.int .u8))) := HK6d.out.put (Chg.setCells gD _ _ Z6) hh
  have HL7 : Hid ((splice D6 (1 * 64) (mkJ l)).length = b * 64) := splice_lenI (by simpa using hfit6) HL6.out
  clear hh HS HK6d HL6 hfit6
  refine ⟨⟨HK7.out.dv, HK7.out.g0, HK7.out.pb⟩, ?_⟩
  show wpAnyH _ _ _ _ _ 0 _ _ (Z6.setCells gD (1 * 64) ((mkJ l).map (Value.int .u8)))
  generalize Z6.setCells gD (1 * 64) ((mkJ l).map (Value.int .u8)) = W7 at *
  obtain ⟨D7, hD7⟩ : ∃ d, d = splice D6 (1 * 64) (mkJ l) := ⟨_, rfl⟩
  rw [← hD7] at HK7 HL7
  have HD7 : Hid (D7 = splice D6 (1 * 64) (mkJ l)) := hD7
  clear hD7
  refine held_done (by kernel_rfl) (NoPanic.normal ?_)
  go_upto_region 7 with fail
  -- region 7
  have HK7d : Hid (Mk w W7.drew PB gD p b l n im bm mb tb tn D dn (D7.map (Value.int .u8))) := HK7.out.chg (Chg.drew (Chg.refl 0 0 W7))
  clear HK7
  refine held_region (fun w' : World => w'.heap[p]? = some (.cells #[.slice (some ⟨gD, 0, none⟩) b b, .slice none 0 0] 56 (0, 0)) ∧ w'.heap[w.heap.size]? = some (.cells #[.int .i64 (b : Int), .int .i64 (l : Int), .int .i64 (n : Int)] 29 (0, 0)) ∧ w'.heap[PB]? = some (.cells #[.int .i64 (im : Int), .int .i64 (bm : Int), .int .i64 (mb : Int), .int .i64 (tb : Int), .int .i64 (tn : Int), .int .i64 (D : Int), .int .i64 dn] 36 (0, 0))) hmx ?_
  generalize W7.drew = X7 at *
  have HS : Hid ((fun w' : World => w'.heap[p]? = some (.cells #[.slice (some ⟨gD, 0, none⟩) b b, .slice none 0 0] 56 (0, 0)) ∧ w'.heap[w.heap.size]? = some (.cells #[.int .i64 (b : Int), .int .i64 (l : Int), .int .i64 (n : Int)] 29 (0, 0)) ∧ w'.heap[PB]? = some (.cells #[.int .i64 (im : Int), .int .i64 (bm : Int), .int .i64 (mb : Int), .int .i64 (tb : Int), .int .i64 (tn : Int), .int .i64 (D : Int), .int .i64 dn] 36 (0, 0))) X7) := ⟨HK7d.out.dv, HK7d.out.g0, HK7d.out.pb⟩
  refine held_take 0 (.pointer (some ⟨p, 0, none⟩)) rfl (by kernel_rfl) (by kernel_rfl) (by kernel_rfl) (fun _ _ _ h => h) (.inl ⟨by kernel_rfl, fun w' hw' => by go_simp⟩) HS.out ?_
  go_simp
  refine held_take 1 (.pointer (some ⟨PB, 0, none⟩)) rfl (by kernel_rfl) (by kernel_rfl) (by kernel_rfl) (fun _ _ _ h => h) (.inl ⟨by kernel_rfl, fun w' hw' => by go_simp⟩) HS.out ?_
  go_simp
  refine held_take 2 (.int .i64 (im : Int)) rfl (by kernel_rfl) (by kernel_rfl) (by kernel_rfl) (fun _ _ _ h => h) (.inl ⟨by kernel_rfl, fun w' hw' => by obtain ⟨h4, h5, h6, h7, h8, h9, h10⟩ := seven hw'.2.2; go_simp⟩) HS.out ?_
  go_simp
  refine held_take 3 (.agg #[.int .i64 (b : Int), .int .i64 (l : Int), .int .i64 (n : Int)]) rfl (by kernel_rfl) (by kernel_rfl) (by kernel_rfl) (fun _ _ _ h => h) (.inl ⟨by kernel_rfl, fun w' hw' => by obtain ⟨h4, h5, h6⟩ := trio hw'.2.1; go_simp⟩) HS.out ?_
  go_simp
  refine held_one 4 rfl rfl (by kernel_rfl) ?_
  refine wp_enter 27 #[geoV b l n] (by first | kernel_rfl | go_simp) (newInodeMap_calls X7 b l n hnn) ?_
  rintro e Y7 ⟨gM, rfl, hO, hc⟩
  have HK7y : Hid (Mk w Y7 PB gD p b l n im bm mb tb tn D dn (D7.map (Value.int .u8))) := HK7d.out.chg hc
  have HS : Hid ((fun w' : World => w'.heap[p]? = some (.cells #[.slice (some ⟨gD, 0, none⟩) b b, .slice none 0 0] 56 (0, 0)) ∧ w'.heap[w.heap.size]? = some (.cells #[.int .i64 (b : Int), .int .i64 (l : Int), .int .i64 (n : Int)] 29 (0, 0)) ∧ w'.heap[PB]? = some (.cells #[.int .i64 (im : Int), .int .i64 (bm : Int), .int .i64 (mb : Int), .int .i64 (tb : Int), .int .i64 (tn : Int), .int .i64 (D : Int), .int .i64 dn] 36 (0, 0))) Y7) := ⟨HK7y.out.dv, HK7y.out.g0, HK7y.out.pb⟩
  have hgM := (hO.lt gM rfl).1
  have HgM : Hid (gM ≠ gD) := by show gM ≠ gD; have := HK7d.out.lt; have := HK7d.out.lo; omega
  have hys7 : (inoMap n).length = 64 * 1 := inoMap_len hnn
  have HV : Hid (∀ i, i < (inoMap n).length → Y7.cell? ⟨gM, 0 + i, none⟩ = some (.int .u8 ((inoMap n).getD i 0))) := fun i hi => by rw [Nat.zero_add]; exact View.cellAt' (hO.view (by have := HQ.out; omega) (hi := Y7.heap.size) (fun g hg => (hO.lt g hg).2)) i hi
  clear HK7d hc hO hgM hys7
  refine ⟨_, rfl, HS.out, ?_⟩
  go_simp
  refine held_one 5 rfl rfl (by kernel_rfl) ?_
  refine wp_enter 26 #[.pointer (some ⟨p, 0, none⟩), .int .i64 (im : Int), .slice (some ⟨gM, 0, none⟩) (64 * 1) (64 * 1)] (by first | kernel_rfl | go_simp) (lay_calls Y7 p gD b im gM 0 (64 * 1) 1 (.slice none 0 0) (D7.map (Value.int .u8)) (inoMap n) (by have := HQ.out; omega) (by have := HQ.out; omega) hbn (by have := HQ.out; omega) (by rw [List.length_map]; exact HL7.out) (Nat.le_refl _) (by have := HQ.out; omega) (inoMap_len hnn) HK7y.out.dv HK7y.out.dr (by have := HK7y.out.lo; omega) HgM.out HV.out) ?_
  rintro e W8 ⟨rfl, hh, hc⟩
  rw [splice_mapI] at hh
  have HK8 : Hid (Mk w W8 PB gD p b l n im bm mb tb tn D dn ((splice D7 (im * 64) (inoMap n)).map (Value.int .u8))) := HK7y.out.put hc hh
  have HL8 : Hid ((splice D7 (im * 64) (inoMap n)).length = b * 64) := splice_lenI (by rw [inoMap_len hnn, HL7.out]; have := HQ.out; omega) HL7.out
  have HS' : Hid ((fun w' : World => w'.heap[p]? = some (.cells #[.slice (some ⟨gD, 0, none⟩) b b, .slice none 0 0] 56 (0, 0)) ∧ w'.heap[w.heap.size]? = some (.cells #[.int .i64 (b : Int), .int .i64 (l : Int), .int .i64 (n : Int)] 29 (0, 0)) ∧ w'.heap[PB]? = some (.cells #[.int .i64 (im : Int), .int .i64 (bm : Int), .int .i64 (mb : Int), .int .i64 (tb : Int), .int .i64 (tn : Int), .int .i64 (D : Int), .int .i64 dn] 36 (0, 0))) W8) := ⟨HK8.out.dv, HK8.out.g0, HK8.out.pb⟩
  clear hh hc HS HK7y HL7 HV HgM
  refine ⟨_, rfl, HS'.out, ?_⟩
  clear HS'
  obtain ⟨D8, hD8⟩ : ∃ d, d = splice D7 (im * 64) (inoMap n) := ⟨_, rfl⟩
  rw [← hD8] at HK8 HL8
  have HD8 : Hid (D8 = splice D7 (im * 64) (inoMap n)) := hD8
  clear hD8
  refine held_done (by kernel_rfl) (NoPanic.normal ?_)
  go_upto_region 8 with fail
  -- region 8
  have HK8d : Hid (Mk w W8.drew PB gD p b l n im bm mb tb tn D dn (D8.map (Value.int .u8))) := HK8.out.chg (Chg.drew (Chg.refl 0 0 W8))
  clear HK8
  refine held_region (fun w' : World => w'.heap[p]? = some (.cells #[.slice (some ⟨gD, 0, none⟩) b b, .slice none 0 0] 56 (0, 0)) ∧ w'.heap[w.heap.size]? = some (.cells #[.int .i64 (b : Int), .int .i64 (l : Int), .int .i64 (n : Int)] 29 (0, 0)) ∧ w'.heap[PB]? = some (.cells #[.int .i64 (im : Int), .int .i64 (bm : Int), .int .i64 (mb : Int), .int .i64 (tb : Int), .int .i64 (tn : Int), .int .i64 (D : Int), .int .i64 dn] 36 (0, 0))) hmx ?_
  generalize W8.drew = X8 at *
  have HS : Hid ((fun w' : World => w'.heap[p]? = some (.cells #[.slice (some ⟨gD, 0, none⟩) b b, .slice none 0 0] 56 (0, 0)) ∧ w'.heap[w.heap.size]? = some (.cells #[.int .i64 (b : Int), .int .i64 (l : Int), .int .i64 (n : Int)] 29 (0, 0)) ∧ w'.heap[PB]? = some (.cells #[.int .i64 (im : Int), .int .i64 (bm : Int), .int .i64 (mb : Int), .int .i64 (tb : Int), .int .i64 (tn : Int), .int .i64 (D : Int), .int .i64 dn] 36 (0, 0))) X8) := ⟨HK8d.out.dv, HK8d.out.g0, HK8d.out.pb⟩
  refine held_take 0 (.pointer (some ⟨p, 0, none⟩)) rfl (by kernel_rfl) (by kernel_rfl) (by kernel_rfl) (fun _ _ _ h => h) (.inl ⟨by kernel_rfl, fun w' hw' => by go_simp⟩) HS.out ?_
  go_simp
  refine held_take 1 (.pointer (some ⟨PB, 1, none⟩)) rfl (by kernel_rfl) (by kernel_rfl) (by kernel_rfl) (fun _ _ _ h => h) (.inl ⟨by kernel_rfl, fun w' hw' => by go_simp⟩) HS.out ?_
  go_simp
  refine held_take 2 (.int .i64 (bm : Int)) rfl (by kernel_rfl) (by kernel_rfl) (by kernel_rfl) (fun _ _ _ h => h) (.inl ⟨by kernel_rfl, fun w' hw' => by obtain ⟨h4, h5, h6, h7, h8, h9, h10⟩ := seven hw'.2.2; go_simp⟩) HS.out ?_
  go_simp
  refine held_take 3 (.agg #[.int .i64 (b : Int), .int .i64 (l : Int), .int .i64 (n : Int)]) rfl (by kernel_rfl) (by kernel_rfl) (by kernel_rfl) (fun _ _ _ h => h) (.inl ⟨by kernel_rfl, fun w' hw' => by obtain ⟨h4, h5, h6⟩ := trio hw'.2.1; go_simp⟩) HS.out ?_
  go_simp
  refine held_take 4 (.agg #[.int .i64 (im : Int), .int .i64 (bm : Int), .int .i64 (mb : Int), .int .i64 (tb : Int), .int .i64 (tn : Int), .int .i64 (D : Int), .int .i64 dn]) rfl (by kernel_rfl) (by kernel_rfl) (by kernel_rfl) (fun _ _ _ h => h) (.inl ⟨by kernel_rfl, fun w' hw' => by obtain ⟨h4, h5, h6, h7, h8, h9, h10⟩ := seven hw'.2.2; go_simp⟩) HS.out ?_
  go_simp
  refine held_one 5 rfl rfl (by kernel_rfl) ?_
  refine wp_enter 28 #[geoV b l n, plV im bm mb tb tn D dn] (by first | kernel_rfl | go_simp) (newBlockMap_calls X8 b mb D l n im bm tb tn dn HQ.out.2.2.2.2.2.2.1 HQ.out.2.2.2.2.2.1 (by have := HQ.out; omega) HQ.out.2.2.2.2.2.2.2) ?_
  rintro e Y8 ⟨gM, rfl, hO, hc⟩
  have HK8y : Hid (Mk w Y8 PB gD p b l n im bm mb tb tn D dn (D8.map (Value.int .u8))) := HK8d.out.chg hc
  have HS : Hid ((fun w' : World => w'.heap[p]? = some (.cells #[.slice (some ⟨gD, 0, none⟩) b b, .slice none 0 0] 56 (0, 0)) ∧ w'.heap[w.heap.size]? = some (.cells #[.int .i64 (b : Int), .int .i64 (l : Int), .int .i64 (n : Int)] 29 (0, 0)) ∧ w'.heap[PB]? = some (.cells #[.int .i64 (im : Int), .int .i64 (bm : Int), .int .i64 (mb : Int), .int .i64 (tb : Int), .int .i64 (tn : Int), .int .i64 (D : Int), .int .i64 dn] 36 (0, 0))) Y8) := ⟨HK8y.out.dv, HK8y.out.g0, HK8y.out.pb⟩
  have hgM := (hO.lt gM rfl).1
  have HgM : Hid (gM ≠ gD) := by show gM ≠ gD; have := HK8d.out.lt; have := HK8d.out.lo; omega
  have hys8 : (blkMap mb D b).length = 64 * mb := blkMap_len HQ.out.2.2.2.2.2.2.1 (by have := HQ.out; omega) HQ.out.2.2.2.2.2.2.2
  have HV : Hid (∀ i, i < (blkMap mb D b).length → Y8.cell? ⟨gM, 0 + i, none⟩ = some (.int .u8 ((blkMap mb D b).getD i 0))) := fun i hi => by rw [Nat.zero_add]; exact View.cellAt' (hO.view (by have := HQ.out; omega) (hi := Y8.heap.size) (fun g hg => (hO.lt g hg).2)) i hi
  clear HK8d hc hO hgM hys8
  refine ⟨_, rfl, HS.out, ?_⟩
  go_simp
  refine held_one 6 rfl rfl (by kernel_rfl) ?_
  refine wp_enter 26 #[.pointer (some ⟨p, 0, none⟩), .int .i64 (bm : Int), .slice (some ⟨gM, 0, none⟩) (64 * mb) (64 * mb)] (by first | kernel_rfl | go_simp) (lay_calls Y8 p gD b bm gM 0 (64 * mb) mb (.slice none 0 0) (D8.map (Value.int .u8)) (blkMap mb D b) (by have := HQ.out; omega) (by have := HQ.out; omega) hbn (by have := HQ.out; omega) (by rw [List.length_map]; exact HL8.out) (Nat.le_refl _) (by have := HQ.out; omega) (blkMap_len HQ.out.2.2.2.2.2.2.1 (by have := HQ.out; omega) HQ.out.2.2.2.2.2.2.2) HK8y.out.dv HK8y.out.dr (by have := HK8y.out.lo; omega) HgM.out HV.out) ?_
  rintro e W9 ⟨rfl, hh, hc⟩
  rw [splice_mapI] at hh
  have HK9 : Hid (Mk w W9 PB gD p b l n im bm mb tb tn D dn ((splice D8 (bm * 64) (blkMap mb D b)).map (Value.int .u8))) := HK8y.out.put hc hh
  have HL9 : Hid ((splice D8 (bm * 64) (blkMap mb D b)).length = b * 64) := splice_lenI (by rw [blkMap_len HQ.out.2.2.2.2.2.2.1 (by have := HQ.out; omega) HQ.out.2.2.2.2.2.2.2, HL8.out]; have := HQ.out; omega) HL8.out
  have HS' : Hid ((fun w' : World => w'.heap[p]? = some (.cells #[.slice (some ⟨gD, 0, none⟩) b b, .slice none 0 0] 56 (0, 0)) ∧ w'.heap[w.heap.size]? = some (.cells #[.int .i64 (b : Int), .int .i64 (l : Int), .int .i64 (n : Int)] 29 (0, 0)) ∧ w'.heap[PB]? = some (.cells #[.int .i64 (im : Int), .int .i64 (bm : Int), .int .i64 (mb : Int), .int .i64 (tb : Int), .int .i64 (tn : Int), .int .i64 (D : Int), .int .i64 dn] 36 (0, 0))) W9) := ⟨HK9.out.dv, HK9.out.g0, HK9.out.pb⟩
  clear hh hc HS HK8y HL8 HV HgM
  refine ⟨_, rfl, HS'.out, ?_⟩
  clear HS'
  obtain ⟨D9, hD9⟩ : ∃ d, d = splice D8 (bm * 64) (blkMap mb D b) := ⟨_, rfl⟩
  rw [← hD9] at HK9 HL9
  have HD9 : Hid (D9 = splice D8 (bm * 64) (blkMap mb D b)) := hD9
  clear hD9
  refine held_done (by kernel_rfl) (NoPanic.normal ?_)
  go_upto_region 9 with fail
  -- region 9
  have HK9d : Hid (Mk w W9.drew PB gD p b l n im bm mb tb tn D dn (D9.map (Value.int .u8))) := HK9.out.chg (Chg.drew (Chg.refl 0 0 W9))
  clear HK9
  refine held_region (fun w' : World => w'.heap[p]? = some (.cells #[.slice (some ⟨gD, 0, none⟩) b b, .slice none 0 0] 56 (0, 0)) ∧ w'.heap[w.heap.size]? = some (.cells #[.int .i64 (b : Int), .int .i64 (l : Int), .int .i64 (n : Int)] 29 (0, 0)) ∧ w'.heap[PB]? = some (.cells #[.int .i64 (im : Int), .int .i64 (bm : Int), .int .i64 (mb : Int), .int .i64 (tb : Int), .int .i64 (tn : Int), .int .i64 (D : Int), .int .i64 dn] 36 (0, 0))) hmx ?_
  generalize W9.drew = X9 at *
  have HS : Hid ((fun w' : World => w'.heap[p]? = some (.cells #[.slice (some ⟨gD, 0, none⟩) b b, .slice none 0 0] 56 (0, 0)) ∧ w'.heap[w.heap.size]? = some (.cells #[.int .i64 (b : Int), .int .i64 (l : Int), .int .i64 (n : Int)] 29 (0, 0)) ∧ w'.heap[PB]? = some (.cells #[.int .i64 (im : Int), .int .i64 (bm : Int), .int .i64 (mb : Int), .int .i64 (tb : Int), .int .i64 (tn : Int), .int .i64 (D : Int), .int .i64 dn] 36 (0, 0))) X9) := ⟨HK9d.out.dv, HK9d.out.g0, HK9d.out.pb⟩
  refine held_take 0 (.pointer (some ⟨p, 0, none⟩)) rfl (by kernel_rfl) (by kernel_rfl) (by kernel_rfl) (fun _ _ _ h => h) (.inl ⟨by kernel_rfl, fun w' hw' => by go_simp⟩) HS.out ?_
  go_simp
  refine held_take 1 (.pointer (some ⟨p, 0, none⟩)) rfl (by kernel_rfl) (by kernel_rfl) (by kernel_rfl) (fun _ _ _ h => h) (.inl ⟨by kernel_rfl, fun w' hw' => by go_simp⟩) HS.out ?_
  go_simp
  refine held_take 2 (.pointer (some ⟨p, 0, none⟩)) rfl (by kernel_rfl) (by kernel_rfl) (by kernel_rfl) (fun _ _ _ h => h) (.inl ⟨by kernel_rfl, fun w' hw' => by go_simp⟩) HS.out ?_
  go_simp
  refine held_take 3 (.slice (some ⟨gD, 0, none⟩) b b) rfl (by kernel_rfl) (by kernel_rfl) (by kernel_rfl) (fun _ _ _ h => h) (.inl ⟨by kernel_rfl, fun w' hw' => by obtain ⟨h4, h5⟩ := two_first hw'.1; go_simp⟩) HS.out ?_
  go_simp
  refine held_take 4 (.pointer (some ⟨PB, 3, none⟩)) rfl (by kernel_rfl) (by kernel_rfl) (by kernel_rfl) (fun _ _ _ h => h) (.inl ⟨by kernel_rfl, fun w' hw' => by go_simp⟩) HS.out ?_
  go_simp
  refine held_take 5 (.int .i64 (tb : Int)) rfl (by kernel_rfl) (by kernel_rfl) (by kernel_rfl) (fun _ _ _ h => h) (.inl ⟨by kernel_rfl, fun w' hw' => by obtain ⟨h4, h5, h6, h7, h8, h9, h10⟩ := seven hw'.2.2; go_simp⟩) HS.out ?_
  go_simp
  refine held_one 6 rfl rfl (by kernel_rfl) ?_
  refine wp_enter 29 #[] (by first | kernel_rfl | go_simp) (rootL_calls X9) ?_
  rintro e Y9 ⟨rfl, hc⟩
  have HK9Y9 : Hid (Mk w Y9 PB gD p b l n im bm mb tb tn D dn (D9.map (Value.int .u8))) := HK9d.out.chg hc
  have HS : Hid ((fun w' : World => w'.heap[p]? = some (.cells #[.slice (some ⟨gD, 0, none⟩) b b, .slice none 0 0] 56 (0, 0)) ∧ w'.heap[w.heap.size]? = some (.cells #[.int .i64 (b : Int), .int .i64 (l : Int), .int .i64 (n : Int)] 29 (0, 0)) ∧ w'.heap[PB]? = some (.cells #[.int .i64 (im : Int), .int .i64 (bm : Int), .int .i64 (mb : Int), .int .i64 (tb : Int), .int .i64 (tn : Int), .int .i64 (D : Int), .int .i64 dn] 36 (0, 0))) Y9) := ⟨HK9Y9.out.dv, HK9Y9.out.g0, HK9Y9.out.pb⟩
  clear HK9d hc
  have HK9d := HK9Y9
  clear HK9Y9
  refine ⟨_, rfl, HS.out, ?_⟩
  go_simp
  refine held_take 7 (.pointer (some ⟨gD, tb * 64, none⟩)) rfl (by kernel_rfl) (by kernel_rfl) (by kernel_rfl) (fun _ _ _ h => h) (.inl ⟨by kernel_rfl, fun w' hw' => by go_simp⟩) HS.out ?_
  go_simp
  refine held_one 8 rfl rfl (by kernel_rfl) ?_
  have hfit9 : tb * 64 + (rootL.map (Value.int .u8)).length ≤ (D9.map (Value.int .u8)).length := by rw [List.length_map, List.length_map, rootL_len, HL9.out]; have := HQ.out; omega
  refine wp_store_mid 58 (.tmp 53) (.tmp 52) rfl gD (tb * 64) (rootL.map (Value.int .u8)).toArray (by first | rfl | go_simp) rfl (there_sub (row_there HK9d.out.dr) (by simpa using hfit9)) (by rw [List.size_toArray, List.length_map, rootL_len]; kernel_rfl) (all_oneCell_toArray (ints_oneCell _ _)) ?_
  have hh := heap_setCells gD 58 (rootL.map (Value.int .u8)) (tb * 64) Y9 _ HK9d.out.dr hfit9
  rw [splice_mapI] at hh
  have HK10 : Hid (Mk w (Y9.setCells gD (tb * 64) (rootL.map (Value.int .u8))) PB gD p b l n im bm mb tb tn D dn ((splice D9 (tb * 64) rootL).map (Value.int .u8))) := HK9d.out.put (Chg.setCells gD _ _ Y9) hh
  have HL10 : Hid ((splice D9 (tb * 64) rootL).length = b * 64) := splice_lenI (by simpa using hfit9) HL9.out
  clear hh HS HK9d HL9 hfit9
  refine ⟨⟨HK10.out.dv, HK10.out.g0, HK10.out.pb⟩, ?_⟩
  show wpAnyH _ _ _ _ _ 0 _ _ (Y9.setCells gD (tb * 64) (rootL.map (Value.int .u8)))
  generalize Y9.setCells gD (tb * 64) (rootL.map (Value.int .u8)) = W10 at *
  obtain ⟨D10, hD10⟩ : ∃ d, d = splice D9 (tb * 64) rootL := ⟨_, rfl⟩
  rw [← hD10] at HK10 HL10
  have HD10 : Hid (D10 = splice D9 (tb * 64) rootL) := hD10
  clear hD10
  refine held_done (by kernel_rfl) (NoPanic.normal ?_)
  have HF : Hid (D10 = mkDur b l n im bm mb tb D) := by show _ = _; unfold mkDur; rw [HD10.out, HD9.out, HD8.out, HD7.out, HD6.out, HD5.out]
  have hdev : Hid (Dev W10 w.heap.size p ⟨D10, []⟩) := by
    have k10 := HK10.out
    have el : D10.length / 64 = b := by rw [HL10.out]; omega
    refine ⟨gD, .slice none 0 0, ⟨by show D10.length % 64 = 0; rw [HL10.out]; omega, by show 1 ≤ D10.length / 64; omega, by show D10.length / 64 ≤ 2048; omega, by simp, by simp⟩, by have := k10.lo; omega, by show _ = some (Obj.cells #[.slice _ (D10.length / 64) (D10.length / 64), _] _ _); rw [el]; exact k10.dv, ?_, World.ownsRow_nil _ _ _ _⟩
    show W10.ownsRow _ _ _ (.slice _ (D10.length / 64) (D10.length / 64)) (D10.length / 64) _
    rw [el]
    refine ⟨by rw [List.length_map, HL10.out], Or.inr ⟨gD, b, _, rfl, by have := k10.lo; omega, k10.dr, Nat.le_refl _, by unfold maxLen; omega, by rw [List.size_toArray, List.length_map, HL10.out], by rw [List.take_of_length_le (by rw [List.length_map, HL10.out]; exact Nat.le_refl _)]⟩⟩
  have Hr0 := HK10.out.r0
  have HC10 : Hid (Chg 0 0 w W10) := HK10.out.ch
  have hlt10 : w.heap.size + 1 < W10.heap.size := (Array.getElem?_eq_some_iff.1 Hr0).1
  clear HK10 HL10
  go_wp2_with fail
  refine (disk_empty _ hdev.out rfl).mono ?_
  rintro e wd ⟨v, rfl, od, hd⟩
  have sd := hd.size
  have B1 := (hd.block (w.heap.size + 1) (by omega) (by omega)).trans Hr0
  obtain ⟨y0, y1, yf0, yf1⟩ := two_cells B1
  have hDD := HC10.out.trans hd
  obtain ⟨a1, l1, c1, a1', l1', c1', rfl⟩ := od.agg
  have HC : Hid (Chg 0 0 w ((wd.setCell ⟨w.heap.size + 1, 0, none⟩ (.slice a1 l1 c1)).setCell ⟨w.heap.size + 1, 1, none⟩ (.slice a1' l1' c1'))) := hDD.step (Chg.set2 _ _ _ _) (by omega)
  have HO : Hid (OwnD ((wd.setCell ⟨w.heap.size + 1, 0, none⟩ (.slice a1 l1 c1)).setCell ⟨w.heap.size + 1, 1, none⟩ (.slice a1' l1' c1')) W10.heap.size wd.heap.size 105 5 (.agg #[.slice a1 l1 c1, .slice a1' l1' c1']) ⟨D10, []⟩) := od.chg (Chg.set2 _ _ _ _) (by omega)
  have HSz : Hid (((wd.setCell ⟨w.heap.size + 1, 0, none⟩ (.slice a1 l1 c1)).setCell ⟨w.heap.size + 1, 1, none⟩ (.slice a1' l1' c1')).heap.size = wd.heap.size) := by show _ = _; simp [World.setCell]
  clear hd hDD od B1 hdev Hr0
  go_wp2
  refine bodyPost_ret (v := .agg #[.slice a1 l1 c1, .slice a1' l1' c1']) (by simp [results, Tryd.results6, go_sem, y0, y1]) rfl ⟨_, rfl, ?_, HC.out⟩
  rw [← HF.out, HSz.out]; exact HO.out.lower (by omega)

end Go.Proofs.YtaciallijnhieaaDoor

namespace Go.Proofs.YtaciallijnhieaaDoor
open Go.RowKit

/-- What lies in memory while the model makes a disk. -/
structure Ms (w x : World) (PB gD DB N cp b l n im bm mb tb tn D : Nat) (dn : Int) (cur : List Int) : Prop where
  g0 : x.heap[w.heap.size]? = some (.cells #[.int .i64 (b : Int), .int .i64 (l : Int), .int .i64 (n : Int)] 29 (0, 0))
  r0 : x.heap[w.heap.size + 1]? = some (.cells #[.slice none 0 0, .slice none 0 0] 27 (0, 0))
  pb : x.heap[PB]? = some (.cells #[.int .i64 (im : Int), .int .i64 (bm : Int), .int .i64 (mb : Int), .int .i64 (tb : Int), .int .i64 (tn : Int), .int .i64 (D : Int), .int .i64 dn] 36 (0, 0))
  db : x.heap[DB]? = some (.cells #[.slice (some ⟨gD, 0, none⟩) N cp, .slice none 0 0] 27 (0, 0))
  dr : OwnB x (w.heap.size + 2) 5 (.slice (some ⟨gD, 0, none⟩) N cp) cur
  lo : w.heap.size + 1 < PB ∧ PB < gD ∧ gD < DB
  ch : Chg 0 0 w x
theorem Ms.lt {w x : World} {PB gD DB N cp b l n im bm mb tb tn D : Nat} {dn : Int} {cur : List Int} (h : Ms w x PB gD DB N cp b l n im bm mb tb tn D dn cur) : DB < x.heap.size := (Array.getElem?_eq_some_iff.1 h.db).1
theorem Ms.chg {w x : World} {PB gD DB N cp b l n im bm mb tb tn D : Nat} {dn : Int} {cur : List Int} {y : World} (h : Ms w x PB gD DB N cp b l n im bm mb tb tn D dn cur) (c : Chg 0 0 x y) : Ms w y PB gD DB N cp b l n im bm mb tb tn D dn cur :=
  have h1 := h.lt
  have h2 := h.lo
  ⟨(c.block _ (by omega) (by omega)).trans h.g0, (c.block _ (by omega) (by omega)).trans h.r0, (c.block _ (by omega) (by omega)).trans h.pb, (c.block _ (by omega) (by omega)).trans h.db, h.dr.chg c (by intro g _; omega), h.lo, h.ch.trans c⟩
theorem Ms.put {w x : World} {PB gD DB N cp b l n im bm mb tb tn D : Nat} {dn : Int} {cur : List Int} {y : World} {cur' : List Int} (h : Ms w x PB gD DB N cp b l n im bm mb tb tn D dn cur) (c : Chg gD (gD + 1) x y) (hb : OwnB y (w.heap.size + 2) 5 (.slice (some ⟨gD, 0, none⟩) N cp) cur') : Ms w y PB gD DB N cp b l n im bm mb tb tn D dn cur' :=
  have h1 := h.lt
  have h2 := h.lo
  ⟨(c.block _ (by omega) (by omega)).trans h.g0, (c.block _ (by omega) (by omega)).trans h.r0, (c.block _ (by omega) (by omega)).trans h.pb, (c.block _ (by omega) (by omega)).trans h.db, hb, h.lo, h.ch.step c (by omega)⟩

/-- l1Put onto the disk that is made. -/
theorem Ms.l1Put {w x : World} {PB gD DB N cp b l n im bm mb tb tn D : Nat} {dn : Int} {cur : List Int} (h : Ms w x PB gD DB N cp b l n im bm mb tb tn D dn cur) (hN : cur.length = N) (hN2 : N ≤ 1048576) (ys : List Int) (hy : ys.length = 64) (q : Nat) (hq : q * 64 + 64 ≤ N) {v : Value} (hv : OwnB x (DB + 1) 5 v ys) :
    Calls Tryd.prog 13 #[.slice (some ⟨gD, 0, none⟩) N cp, .int .i64 (q : Int), v] x fun e y => e = .returned (.tuple #[]) ∧ Ms w y PB gD DB N cp b l n im bm mb tb tn D dn (splice cur (q * 64) ys) ∧ (splice cur (q * 64) ys).length = N ∧ Chg gD (gD + 1) x y := by
  subst hN
  have h2 := h.lo
  refine (l1Put_calls x cur ys q h.dr (hv.view (by omega) (hi := x.heap.size) (fun g hg => (hv.lt g hg).2)) hy hq hN2 (Or.inl (by omega))).mono ?_
  rintro e y ⟨rfl, ho, hc⟩
  exact ⟨rfl, h.put hc ho, splice_lenI (by omega) rfl, hc⟩

set_option maxHeartbeats 1000000 in
theorem l2Block_calls (w : World) {lo hi g cap k : Nat} {ys : List Int} (h : View w lo hi .u8 (.slice (some ⟨g, 0, none⟩) ys.length cap) ys) (hk : 64 * k + 64 ≤ ys.length) (hl : ys.length ≤ 1048576) :
    Calls Tryd.prog 18 #[.slice (some ⟨g, 0, none⟩) ys.length cap, .int .i64 (k : Int)] w fun e w' => ∃ v, e = .returned v ∧ OwnB w' w.heap.size 5 v (blkOf ys k) ∧ Chg 0 0 w w' := by
  obtain ⟨hc0, hc1⟩ : ys.length ≤ cap ∧ cap ≤ cap := by
    obtain ⟨ao, c', e, _, hc, _⟩ := h
    simp only [Value.slice.injEq] at e
    obtain ⟨_, _, rfl⟩ := e
    exact ⟨hc.1, Nat.le_refl _⟩
  have HVk : Hid (View w lo hi .u8 (.slice (some ⟨g, 0 + 64 * k, none⟩) 64 (cap - 64 * k)) (blkOf ys k)) := View.part h hk (by omega) (cap - 64 * k) (by omega)
  obtain ⟨m, hm⟩ : ∃ m : Nat, m = 64 * k := ⟨_, rfl⟩
  have Hm : Hid (m = 64 * k) := hm
  rw [← hm, Nat.zero_add] at HVk
  rw [← hm] at hk
  have hN := l1Copy_calls w (by unfold blkOf; rw [List.length_take]; omega) HVk.out
  have e1 : (k : Int) * 64 = (m : Int) := by omega
  have e2 : ((k : Int) + 1) * 64 = (m : Int) + 64 := by omega
  have e3 : IntKind.i64.wrap ((k : Int) + 1) = (k : Int) + 1 := by rw [IntKind.wrap_i64]; omega
  have e4 : IntKind.i64.wrap (m : Int) = (m : Int) := by rw [IntKind.wrap_i64]; omega
  have e5 : IntKind.i64.wrap ((m : Int) + 64) = (m : Int) + 64 := by rw [IntKind.wrap_i64]; omega
  have q1 : (0 : Int) ≤ (m : Int) + 64 := by omega
  have q2 : (m : Int) + 64 ≤ (cap : Int) := by omega
  have q3 : ¬ cap = m := by omega
  have q4 : (m : Int) ≤ max ((m : Int) + 64) 0 := by omega
  have q5 : ((m : Int) + 64).toNat - m = 64 := by omega
  generalize blkOf ys k = zs at *
  generalize ys.length = L at *
  clear hm h hc1
  go_enter Tryd.func18, Tryd.ntmps18
  go_wp2_with fail
  refine hN.mono ?_
  rintro e w1 ⟨v, rfl, ho, hc⟩
  have HO : Hid (OwnB w1 w.heap.size 5 v zs) := ho
  clear ho
  go_wp2
  go_ret
  exact ⟨_, rfl, HO.out, hc⟩

end Go.Proofs.YtaciallijnhieaaDoor

namespace Go.Proofs.YtaciallijnhieaaDoor
open Go.RowKit
attribute [local go_sem] Oper.semAt_some

theorem splice_spliceI {c xs ys : List Int} {o : Nat} (h : o + xs.length + ys.length ≤ c.length) : splice (splice c o xs) (o + xs.length) ys = splice c o (xs ++ ys) := by
  have e0 : (c.take o).length = o := by rw [List.length_take]; omega
  have e1 : (c.take o ++ xs).length = o + xs.length := by rw [List.length_append, e0]
  have A : (c.take o ++ (xs ++ c.drop (o + xs.length))).take (o + xs.length) = c.take o ++ xs := by
    rw [← List.append_assoc, List.take_append_of_le_length (by rw [e1]; exact Nat.le_refl _), List.take_of_length_le (by rw [e1]; exact Nat.le_refl _)]
  have B : (c.take o ++ (xs ++ c.drop (o + xs.length))).drop (o + xs.length + ys.length) = c.drop (o + xs.length + ys.length) := by
    rw [← List.append_assoc, List.drop_append, List.drop_eq_nil_of_le (by rw [e1]; omega), List.nil_append, e1, List.drop_drop]
    congr 1; omega
  unfold splice
  simp only [List.append_assoc] at A B ⊢
  rw [A, B, List.length_append, List.append_assoc, show o + (xs.length + ys.length) = o + xs.length + ys.length by omega]
/-- One more block of a map goes to the disk. -/
theorem blk_more {c ys : List Int} {q k K : Nat} (hy : ys.length = 64 * K) (hk : k < K) (h : q * 64 + 64 * K ≤ c.length) : splice (splice c (q * 64) (ys.take (64 * k))) ((q + k) * 64) (blkOf ys k) = splice c (q * 64) (ys.take (64 * (k + 1))) := by
  have e : q * 64 + (ys.take (64 * k)).length = (q + k) * 64 := by rw [List.length_take]; omega
  rw [← e, splice_spliceI (by rw [List.length_take, blkOf_length hy hk]; omega)]
  congr 1
  unfold blkOf
  rw [show 64 * (k + 1) = 64 * k + 64 by omega, List.take_add]
theorem splice_none (c ys : List Int) (o : Nat) : splice c o (ys.take (64 * 0)) = c := by
  unfold splice; simp
abbrev rootI : Ino := ⟨2, 1, 0, List.replicate 8 0, 0⟩
theorem rootI_enc : encIno rootI ++ List.replicate 32 0 = rootL := by decide
theorem rootI_len : (encIno rootI).length = 32 := by decide

set_option maxRecDepth 20000 in
set_option maxHeartbeats 8000000 in
theorem specMk_good (w : World) (b l n im bm mb tb tn D : Nat) (dn : Int) (hg : GeoIn b l n) (hv : geoB b l n = true) (hpl : placesV b l n = plV im bm mb tb tn D dn)
    (q1 : im = 2 + l) (q2 : bm = im + 1) (q3 : tb = bm + mb) (q4 : tb < D) (q5 : D < b) (q6 : 0 < mb) (q7 : mb ≤ 4) (q8 : b ≤ 512 * mb) :
    Calls Tryd.prog 4 #[geoV b l n] w fun e w' => ∃ v, e = .returned v ∧ OwnD w' w.heap.size w'.heap.size 105 5 v ⟨mkDur b l n im bm mb tb D, []⟩ ∧ Chg 0 0 w w' := by
  obtain ⟨g1, g2, g3, g4, g5, g6⟩ := id hg
  have HG : Hid (GeoIn b l n) := hg
  have HQ : Hid (im = 2 + l ∧ bm = im + 1 ∧ tb = bm + mb ∧ tb < D ∧ D < b ∧ 0 < mb ∧ mb ≤ 4 ∧ b ≤ 512 * mb) := ⟨q1, q2, q3, q4, q5, q6, q7, q8⟩
  have hbn : b ≤ 2048 := by omega
  have hln : l ≤ 512 := by omega
  have hnn : n ≤ 256 := by omega
  have hn1 : 1 ≤ n := by omega
  have hb1 : 1 ≤ b := by omega
  have hmx : Tryd.prog.follows .mixedOrders = true := by kernel_rfl
  have hA : Chg 0 0 w ((w.alloc (.cells #[.int .i64 (b : Int), .int .i64 (l : Int), .int .i64 (n : Int)] 29)).alloc (.cells #[.slice none 0 0, .slice none 0 0] 27)) := (Chg.alloc (Chg.refl 0 0 w) _).alloc _
  obtain ⟨z, b0, b1⟩ := alloc2 w (.cells #[.int .i64 (b : Int), .int .i64 (l : Int), .int .i64 (n : Int)] 29) (.cells #[.slice none 0 0, .slice none 0 0] 27)
  have hN := specValidGeometry_calls ((w.alloc (.cells #[.int .i64 (b : Int), .int .i64 (l : Int), .int .i64 (n : Int)] 29)).alloc (.cells #[.slice none 0 0, .slice none 0 0] 27)) b l n
  have HE : Hid (encSup b l n = fsL b l n) := by show _ = _; unfold encSup; rw [if_pos hv]
  rw [hv] at hN
  have hP := fun W => l7Places_calls W b l n hbn hln hnn
  rw [hpl] at hP
  clear hg hv hpl q1 q2 q3 q4 q5 q6 q7 q8
  go_enter Tryd.func4, Tryd.ntmps4
  go_wp2_with fail
  generalize (w.alloc (.cells #[.int .i64 (b : Int), .int .i64 (l : Int), .int .i64 (n : Int)] 29)).alloc (.cells #[.slice none 0 0, .slice none 0 0] 27) = w0 at *
  refine hN.mono ?_
  rintro e w1 ⟨rfl, h1⟩
  have B0 := (h1.block w.heap.size (by omega) (by omega)).trans b0
  have B1 := (h1.block (w.heap.size + 1) (by omega) (by omega)).trans b1
  have HA1 : Hid (Chg 0 0 w w1) := hA.trans h1
  have s1 := h1.size
  clear h1 b0 b1 hA hN
  obtain ⟨k0, k1, k2⟩ := trio B0
  go_wp2_with fail
  refine (hP w1).mono ?_
  rintro e w2 ⟨rfl, h2⟩
  have B0' := (h2.block w.heap.size (by omega) (by omega)).trans B0
  have B1' := (h2.block (w.heap.size + 1) (by omega) (by omega)).trans B1
  have HA2 : Hid (Chg 0 0 w w2) := HA1.out.trans h2
  have s2 := h2.size
  clear h2 B0 B1 HA1 k0 k1 k2 hP
  have hB2 : (w2.alloc (.cells #[.int .i64 (im : Int), .int .i64 (bm : Int), .int .i64 (mb : Int), .int .i64 (tb : Int), .int .i64 (tn : Int), .int .i64 (D : Int), .int .i64 dn] 36)).heap[w2.heap.size]? = some (.cells #[.int .i64 (im : Int), .int .i64 (bm : Int), .int .i64 (mb : Int), .int .i64 (tb : Int), .int .i64 (tn : Int), .int .i64 (D : Int), .int .i64 dn] 36 (0, 0)) := heap_new w2 _
  have B0'' := ((Chg.alloc (Chg.refl 0 0 w2) (.cells #[.int .i64 (im : Int), .int .i64 (bm : Int), .int .i64 (mb : Int), .int .i64 (tb : Int), .int .i64 (tn : Int), .int .i64 (D : Int), .int .i64 dn] 36)).block w.heap.size (by omega) (by omega)).trans B0'
  have B1'' := ((Chg.alloc (Chg.refl 0 0 w2) (.cells #[.int .i64 (im : Int), .int .i64 (bm : Int), .int .i64 (mb : Int), .int .i64 (tb : Int), .int .i64 (tn : Int), .int .i64 (D : Int), .int .i64 dn] 36)).block (w.heap.size + 1) (by omega) (by omega)).trans B1'
  obtain ⟨k0, k1, k2⟩ := trio B0''
  have s3 : (w2.alloc (.cells #[.int .i64 (im : Int), .int .i64 (bm : Int), .int .i64 (mb : Int), .int .i64 (tb : Int), .int .i64 (tn : Int), .int .i64 (D : Int), .int .i64 dn] 36)).heap.size = w2.heap.size + 1 := by simp
  have HA3 : Hid (Chg 0 0 w (w2.alloc (.cells #[.int .i64 (im : Int), .int .i64 (bm : Int), .int .i64 (mb : Int), .int .i64 (tb : Int), .int .i64 (tn : Int), .int .i64 (D : Int), .int .i64 dn] 36))) := HA2.out.alloc _
  clear B0' B1' HA2
  go_wp2_with fail
  generalize w2.alloc (.cells #[.int .i64 (im : Int), .int .i64 (bm : Int), .int .i64 (mb : Int), .int .i64 (tb : Int), .int .i64 (tn : Int), .int .i64 (D : Int), .int .i64 dn] 36) = w3 at *
  refine (specNewDisk_yes w3 b hb1 hbn).mono ?_
  rintro e w4 ⟨dv, rfl, o4, h4⟩
  obtain ⟨gD, cp, rfl⟩ := o4.slice_of (by rw [List.length_replicate]; omega)
  rw [List.length_replicate] at o4
  rw [List.length_replicate]
  obtain ⟨N, hN⟩ : ∃ N, N = b * 64 := ⟨_, rfl⟩
  rw [← hN]
  rw [← hN] at o4
  have HN : Hid (N = b * 64) := hN
  have hNb : N ≤ 1048576 := by omega
  have gD4 := o4.lt gD rfl
  have s4 := h4.size
  have HK6 : Hid (Ms w (w4.alloc (.cells #[.slice (some ⟨gD, 0, none⟩) N cp, .slice none 0 0] 27)) w2.heap.size gD w4.heap.size N cp b l n im bm mb tb tn D dn (List.replicate N (0 : Int))) := by
    have c5 : Chg 0 0 w3 (w4.alloc (.cells #[.slice (some ⟨gD, 0, none⟩) N cp, .slice none 0 0] 27)) := h4.alloc _
    refine ⟨(c5.block _ (by omega) (by omega)).trans B0'', (c5.block _ (by omega) (by omega)).trans B1'', (c5.block _ (by omega) (by omega)).trans hB2, heap_new w4 _, (o4.chg (Chg.alloc (Chg.refl 0 0 w4) _) (by intro g _; omega)).base (fun g hg => by cases hg; show w.heap.size + 2 ≤ gD; omega), ⟨by omega, by omega, by omega⟩, HA3.out.trans c5⟩
  clear HA3 B0'' B1'' hB2 k0 k1 k2 h4 o4 hN gD4 s4
  go_upto_region 6 with fail
  generalize w4.alloc (.cells #[.slice (some ⟨gD, 0, none⟩) N cp, .slice none 0 0] 27) = W6 at *
  clear s3 s2 s1 z
  clear w3
  generalize w4.heap.size = DB at *
  generalize w2.heap.size = PB at *
  clear w4 w2 w1 w0
  have HL6 : Hid ((List.replicate N (0 : Int)).length = N) := List.length_replicate
  obtain ⟨D6, hD6⟩ : ∃ d, d = List.replicate N (0 : Int) := ⟨_, rfl⟩
  rw [← hD6] at HK6 HL6
  have HD6 : Hid (D6 = List.replicate N (0 : Int)) := hD6
  clear hD6
  -- region 6
  have HK6d : Hid (Ms w W6.drew PB gD DB N cp b l n im bm mb tb tn D dn D6) := HK6.out.chg (Chg.drew (Chg.refl 0 0 W6))
  clear HK6
  refine held_region (fun w' : World => w'.heap[DB]? = some (.cells #[.slice (some ⟨gD, 0, none⟩) N cp, .slice none 0 0] 27 (0, 0)) ∧ w'.heap[w.heap.size]? = some (.cells #[.int .i64 (b : Int), .int .i64 (l : Int), .int .i64 (n : Int)] 29 (0, 0)) ∧ w'.heap[PB]? = some (.cells #[.int .i64 (im : Int), .int .i64 (bm : Int), .int .i64 (mb : Int), .int .i64 (tb : Int), .int .i64 (tn : Int), .int .i64 (D : Int), .int .i64 dn] 36 (0, 0))) hmx ?_
  generalize W6.drew = X6 at *
  have HS : Hid ((fun w' : World => w'.heap[DB]? = some (.cells #[.slice (some ⟨gD, 0, none⟩) N cp, .slice none 0 0] 27 (0, 0)) ∧ w'.heap[w.heap.size]? = some (.cells #[.int .i64 (b : Int), .int .i64 (l : Int), .int .i64 (n : Int)] 29 (0, 0)) ∧ w'.heap[PB]? = some (.cells #[.int .i64 (im : Int), .int .i64 (bm : Int), .int .i64 (mb : Int), .int .i64 (tb : Int), .int .i64 (tn : Int), .int .i64 (D : Int), .int .i64 dn] 36 (0, 0))) X6) := ⟨HK6d.out.db, HK6d.out.g0, HK6d.out.pb⟩
  refine held_take 0 (.pointer (some ⟨DB, 0, none⟩)) rfl (by kernel_rfl) (by kernel_rfl) (by kernel_rfl) (fun _ _ _ h => h) (.inl ⟨by kernel_rfl, fun w' hw' => by go_simp⟩) HS.out ?_
  go_simp
  refine held_take 1 (.slice (some ⟨gD, 0, none⟩) N cp) rfl (by kernel_rfl) (by kernel_rfl) (by kernel_rfl) (fun _ _ _ h => h) (.inl ⟨by kernel_rfl, fun w' hw' => by obtain ⟨h4, h5⟩ := two_first hw'.1; go_simp⟩) HS.out ?_
  go_simp
  refine held_take 2 (.agg #[.int .i64 (b : Int), .int .i64 (l : Int), .int .i64 (n : Int)]) rfl (by kernel_rfl) (by kernel_rfl) (by kernel_rfl) (fun _ _ _ h => h) (.inl ⟨by kernel_rfl, fun w' hw' => by obtain ⟨h4, h5, h6⟩ := trio hw'.2.1; go_simp⟩) HS.out ?_
  go_simp
  refine held_one 3 rfl rfl (by kernel_rfl) ?_
  refine wp_enter 14 #[geoV b l n] (by first | kernel_rfl | go_simp) ((show Calls _ _ _ _ _ from by have h := specEncSuper_calls X6 b l n; rw [HE.out] at h; exact h)) ?_
  rintro e Y6 ⟨v, rfl, hO, hc⟩
  have HK6y : Hid (Ms w Y6 PB gD DB N cp b l n im bm mb tb tn D dn D6) := HK6d.out.chg hc
  have HS : Hid ((fun w' : World => w'.heap[DB]? = some (.cells #[.slice (some ⟨gD, 0, none⟩) N cp, .slice none 0 0] 27 (0, 0)) ∧ w'.heap[w.heap.size]? = some (.cells #[.int .i64 (b : Int), .int .i64 (l : Int), .int .i64 (n : Int)] 29 (0, 0)) ∧ w'.heap[PB]? = some (.cells #[.int .i64 (im : Int), .int .i64 (bm : Int), .int .i64 (mb : Int), .int .i64 (tb : Int), .int .i64 (tn : Int), .int .i64 (D : Int), .int .i64 dn] 36 (0, 0))) Y6) := ⟨HK6y.out.db, HK6y.out.g0, HK6y.out.pb⟩
  have HO : Hid (OwnB Y6 (DB + 1) 5 v (fsL b l n)) := hO.base (fun g hg => by have := (hO.lt g hg).1; have := HK6d.out.lt; omega)
  clear HK6d hc hO
  refine ⟨_, rfl, HS.out, ?_⟩
  go_simp
  refine held_one 4 rfl rfl (by kernel_rfl) ?_
  refine wp_enter 13 #[.slice (some ⟨gD, 0, none⟩) N cp, .int .i64 (0), v] (by first | kernel_rfl | go_simp) (HK6y.out.l1Put HL6.out hNb (fsL b l n) (fsL_len HG.out) (0) (by have := HQ.out; have := HN.out; omega) HO.out) ?_
  rintro e W7 ⟨rfl, hK, hL, hc⟩
  have HK7 : Hid (Ms w W7 PB gD DB N cp b l n im bm mb tb tn D dn (splice D6 ((0) * 64) (fsL b l n))) := hK
  have HL7 : Hid ((splice D6 ((0) * 64) (fsL b l n)).length = N) := hL
  have HS' : Hid ((fun w' : World => w'.heap[DB]? = some (.cells #[.slice (some ⟨gD, 0, none⟩) N cp, .slice none 0 0] 27 (0, 0)) ∧ w'.heap[w.heap.size]? = some (.cells #[.int .i64 (b : Int), .int .i64 (l : Int), .int .i64 (n : Int)] 29 (0, 0)) ∧ w'.heap[PB]? = some (.cells #[.int .i64 (im : Int), .int .i64 (bm : Int), .int .i64 (mb : Int), .int .i64 (tb : Int), .int .i64 (tn : Int), .int .i64 (D : Int), .int .i64 dn] 36 (0, 0))) W7) := ⟨HK7.out.db, HK7.out.g0, HK7.out.pb⟩
  clear hK hL hc HS HK6y HL6 HO
  refine ⟨_, rfl, HS'.out, ?_⟩
  clear HS'
  obtain ⟨D7, hD7⟩ : ∃ d, d = splice D6 ((0) * 64) (fsL b l n) := ⟨_, rfl⟩
  rw [← hD7] at HK7 HL7
  have HD7 : Hid (D7 = splice D6 ((0) * 64) (fsL b l n)) := hD7
  clear hD7
  refine held_done (by kernel_rfl) (NoPanic.normal ?_)
  go_upto_region 7 with fail
  have HK7d : Hid (Ms w W7.drew PB gD DB N cp b l n im bm mb tb tn D dn D7) := HK7.out.chg (Chg.drew (Chg.refl 0 0 W7))
  clear HK7
  refine held_region (fun w' : World => w'.heap[DB]? = some (.cells #[.slice (some ⟨gD, 0, none⟩) N cp, .slice none 0 0] 27 (0, 0)) ∧ w'.heap[w.heap.size]? = some (.cells #[.int .i64 (b : Int), .int .i64 (l : Int), .int .i64 (n : Int)] 29 (0, 0)) ∧ w'.heap[PB]? = some (.cells #[.int .i64 (im : Int), .int .i64 (bm : Int), .int .i64 (mb : Int), .int .i64 (tb : Int), .int .i64 (tn : Int), .int .i64 (D : Int), .int .i64 dn] 36 (0, 0))) hmx ?_
  generalize W7.drew = X7 at *
  have HS : Hid ((fun w' : World => w'.heap[DB]? = some (.cells #[.slice (some ⟨gD, 0, none⟩) N cp, .slice none 0 0] 27 (0, 0)) ∧ w'.heap[w.heap.size]? = some (.cells #[.int .i64 (b : Int), .int .i64 (l : Int), .int .i64 (n : Int)] 29 (0, 0)) ∧ w'.heap[PB]? = some (.cells #[.int .i64 (im : Int), .int .i64 (bm : Int), .int .i64 (mb : Int), .int .i64 (tb : Int), .int .i64 (tn : Int), .int .i64 (D : Int), .int .i64 dn] 36 (0, 0))) X7) := ⟨HK7d.out.db, HK7d.out.g0, HK7d.out.pb⟩
  refine held_take 0 (.pointer (some ⟨DB, 0, none⟩)) rfl (by kernel_rfl) (by kernel_rfl) (by kernel_rfl) (fun _ _ _ h => h) (.inl ⟨by kernel_rfl, fun w' hw' => by go_simp⟩) HS.out ?_
  go_simp
  refine held_take 1 (.slice (some ⟨gD, 0, none⟩) N cp) rfl (by kernel_rfl) (by kernel_rfl) (by kernel_rfl) (fun _ _ _ h => h) (.inl ⟨by kernel_rfl, fun w' hw' => by obtain ⟨h4, h5⟩ := two_first hw'.1; go_simp⟩) HS.out ?_
  go_simp
  refine held_take 2 (.pointer (some ⟨w.heap.size, 1, none⟩)) rfl (by kernel_rfl) (by kernel_rfl) (by kernel_rfl) (fun _ _ _ h => h) (.inl ⟨by kernel_rfl, fun w' hw' => by go_simp⟩) HS.out ?_
  go_simp
  refine held_take 3 (.int .i64 (l : Int)) rfl (by kernel_rfl) (by kernel_rfl) (by kernel_rfl) (fun _ _ _ h => h) (.inl ⟨by kernel_rfl, fun w' hw' => by obtain ⟨h4, h5, h6⟩ := trio hw'.2.1; go_simp⟩) HS.out ?_
  go_simp
  refine held_take 4 (.agg #[.int .i64 (l : Int), .int .i64 0, .int .i64 1]) rfl (by kernel_rfl) (by kernel_rfl) (by kernel_rfl) (fun _ _ _ h => h) (.inl ⟨by kernel_rfl, fun w' hw' => by go_simp⟩) HS.out ?_
  go_simp
  refine held_one 5 rfl rfl (by kernel_rfl) ?_
  refine wp_enter 15 #[.agg #[.int .i64 (l : Int), .int .i64 0, .int .i64 1]] (by first | kernel_rfl | go_simp) (specJSuper_ok X7 l 0 1 ⟨by omega, by omega, by omega, by omega, by omega, by omega⟩ (supJ_byt _ _ _)) ?_
  rintro e Y7 ⟨v, rfl, hO, hc⟩
  have HK7y : Hid (Ms w Y7 PB gD DB N cp b l n im bm mb tb tn D dn D7) := HK7d.out.chg hc
  have HS : Hid ((fun w' : World => w'.heap[DB]? = some (.cells #[.slice (some ⟨gD, 0, none⟩) N cp, .slice none 0 0] 27 (0, 0)) ∧ w'.heap[w.heap.size]? = some (.cells #[.int .i64 (b : Int), .int .i64 (l : Int), .int .i64 (n : Int)] 29 (0, 0)) ∧ w'.heap[PB]? = some (.cells #[.int .i64 (im : Int), .int .i64 (bm : Int), .int .i64 (mb : Int), .int .i64 (tb : Int), .int .i64 (tn : Int), .int .i64 (D : Int), .int .i64 dn] 36 (0, 0))) Y7) := ⟨HK7y.out.db, HK7y.out.g0, HK7y.out.pb⟩
  have HO : Hid (OwnB Y7 (DB + 1) 5 v (mkJ l)) := hO.base (fun g hg => by have := (hO.lt g hg).1; have := HK7d.out.lt; omega)
  clear HK7d hc hO
  refine ⟨_, rfl, HS.out, ?_⟩
  go_simp
  refine held_one 6 rfl rfl (by kernel_rfl) ?_
  refine wp_enter 13 #[.slice (some ⟨gD, 0, none⟩) N cp, .int .i64 (1), v] (by first | kernel_rfl | go_simp) (HK7y.out.l1Put HL7.out hNb (mkJ l) (mkJ_len (by omega) (by omega)) (1) (by have := HQ.out; have := HN.out; omega) HO.out) ?_
  rintro e W8 ⟨rfl, hK, hL, hc⟩
  have HK8 : Hid (Ms w W8 PB gD DB N cp b l n im bm mb tb tn D dn (splice D7 ((1) * 64) (mkJ l))) := hK
  have HL8 : Hid ((splice D7 ((1) * 64) (mkJ l)).length = N) := hL
  have HS' : Hid ((fun w' : World => w'.heap[DB]? = some (.cells #[.slice (some ⟨gD, 0, none⟩) N cp, .slice none 0 0] 27 (0, 0)) ∧ w'.heap[w.heap.size]? = some (.cells #[.int .i64 (b : Int), .int .i64 (l : Int), .int .i64 (n : Int)] 29 (0, 0)) ∧ w'.heap[PB]? = some (.cells #[.int .i64 (im : Int), .int .i64 (bm : Int), .int .i64 (mb : Int), .int .i64 (tb : Int), .int .i64 (tn : Int), .int .i64 (D : Int), .int .i64 dn] 36 (0, 0))) W8) := ⟨HK8.out.db, HK8.out.g0, HK8.out.pb⟩
  clear hK hL hc HS HK7y HL7 HO
  refine ⟨_, rfl, HS'.out, ?_⟩
  clear HS'
  obtain ⟨D8, hD8⟩ : ∃ d, d = splice D7 ((1) * 64) (mkJ l) := ⟨_, rfl⟩
  rw [← hD8] at HK8 HL8
  have HD8 : Hid (D8 = splice D7 ((1) * 64) (mkJ l)) := hD8
  clear hD8
  refine held_done (by kernel_rfl) (NoPanic.normal ?_)
  go_wp2_with fail
  refine (l2Zero_calls W8 64 (by omega)).mono ?_
  rintro e W9 ⟨gM, rfl, hO, hc⟩
  have HK9 : Hid (Ms w W9 PB gD DB N cp b l n im bm mb tb tn D dn D8) := HK8.out.chg hc
  have HO : Hid (OwnB W9 (DB + 1) 5 (.slice (some ⟨gM, 0, none⟩) 64 64) (inoStep n 0)) := hO.base (fun g hg => by have := (hO.lt g hg).1; have := HK8.out.lt; omega)
  clear HK8 hO hc
  go_wp2
  go_loopw [6, 7] (fun x y wr => ∃ (k : Nat), y = .int .i64 (k : Int) ∧ k ≤ 512 ∧ OwnB wr (DB + 1) 5 x (inoStep n k) ∧ Ms w wr PB gD DB N cp b l n im bm mb tb tn D dn D8) (fun _ y _ => 512 - (intOf y).toNat)
  case atStart => exact ⟨0, rfl, by omega, HO.out, HK9.out⟩
  case round =>
    clear HO HK9
    obtain ⟨k, rfl, hk, ho, hm⟩ := hrel
    obtain ⟨f1, f2⟩ := inoStep_facts n k hk
    obtain ⟨k0, k1, k2⟩ := trio hm.g0
    have HK : Hid (Ms w wr PB gD DB N cp b l n im bm mb tb tn D dn D8) := hm
    have HOk : Hid (OwnB wr (DB + 1) 5 u6 (inoStep n k)) := ho
    have hP := specBitPut_calls wr (k : Int) true f2 (by omega) (ho.view (by omega) (hi := wr.heap.size) (fun g hg => (ho.lt g hg).2))
    have HF1 : Hid ((inoStep n k).length = 64) := f1
    clear f1 f2
    by_cases hlt : k < 512
    · have hlt' : (k : Int) < 512 := by omega
      by_cases hc : k = 0 ∨ n ≤ k
      · have Hn : Hid (bitP (inoStep n k) (k : Int) true = inoStep n (k + 1)) := by show _ = _; rw [inoStep, if_pos hc]
        rw [Hn.out] at hP
        clear ho hm Hn HOk HF1
        have key : ∀ (e : Ending) (w2 : World), (∃ v, e = .returned v ∧ OwnB w2 wr.heap.size 5 v (inoStep n (k + 1)) ∧ Chg 0 0 wr w2) → ∃ v, e = .returned v ∧ Hid (OwnB w2 (DB + 1) 5 v (inoStep n (k + 1))) ∧ Hid (Ms w w2 PB gD DB N cp b l n im bm mb tb tn D dn D8) := by
          rintro e w2 ⟨v2, rfl, o2, c2⟩
          exact ⟨v2, rfl, o2.base (fun g hg => by have := (o2.lt g hg).1; have := HK.out.lt; omega), HK.out.chg c2⟩
        by_cases h0 : k = 0
        · have h0' : (k : Int) = 0 := by omega
          subst h0
          go_wp2_with fail
          refine hP.mono ?_
          intro e w2 h2
          obtain ⟨v2, rfl, HO2, HK2⟩ := key e w2 h2
          clear h2 key hP HK k0 k1 k2
          go_wp2
          go_roundw
          case rel => exact ⟨1, by rfl, by omega, HO2.out, HK2.out⟩
          case measure => simp [intOf]
        · have h0' : ¬ (k : Int) = 0 := by omega
          have h1' : (n : Int) ≤ (k : Int) := by omega
          go_wp2_with fail
          refine hP.mono ?_
          intro e w2 h2
          obtain ⟨v2, rfl, HO2, HK2⟩ := key e w2 h2
          clear h2 key hP HK k0 k1 k2
          go_wp2
          go_roundw
          case rel => exact ⟨k + 1, by go_num, by omega, HO2.out, HK2.out⟩
          case measure => simp [intOf]; omega
      · have Hn : Hid (inoStep n (k + 1) = inoStep n k) := by show _ = _; rw [inoStep, if_neg hc]
        have h0 : ¬ k = 0 := by omega
        have h0' : ¬ (k : Int) = 0 := by omega
        have h1' : ¬ (n : Int) ≤ (k : Int) := by omega
        clear ho hm hP HF1
        go_wp2
        go_roundw
        case rel => exact ⟨k + 1, by go_num, by omega, by rw [Hn.out]; exact HOk.out, HK.out⟩
        case measure => simp [intOf]; omega
    · have hlt' : ¬ (k : Int) < 512 := by omega
      have HO8 : Hid (OwnB wr (DB + 1) 5 u6 (inoMap n)) := by show OwnB _ _ _ _ _; rw [← inoStep_all hn1 (by omega), show 512 = k by omega]; exact ho
      obtain ⟨j0, j1⟩ := two_first hm.db
      obtain ⟨p0, p1, p2, p3, p4, p5, p6⟩ := seven hm.pb
      have hPut := HK.out.l1Put HL8.out hNb (inoMap n) (inoMap_len hnn) im (by have := HQ.out; have := HN.out; omega) HO8.out
      clear ho hm hP HF1 HOk
      go_wp2_with fail
      refine hPut.mono ?_
      rintro e W14 ⟨rfl, hK, hL, hc⟩
      have HK14 : Hid (Ms w W14 PB gD DB N cp b l n im bm mb tb tn D dn (splice D8 ((im) * 64) (inoMap n))) := hK
      have HL14 : Hid ((splice D8 ((im) * 64) (inoMap n)).length = N) := hL
      clear hK hL hc hPut HK HO8 HL8 j0 j1 p0 p1 p2 p3 p4 p5 p6 k0 k1 k2
      obtain ⟨D14, hD14⟩ : ∃ d, d = splice D8 ((im) * 64) (inoMap n) := ⟨_, rfl⟩
      rw [← hD14] at HK14 HL14
      have HD14 : Hid (D14 = splice D8 ((im) * 64) (inoMap n)) := hD14
      clear hD14
      obtain ⟨M, hM⟩ : ∃ M : Nat, M = 64 * mb := ⟨_, rfl⟩
      obtain ⟨T, hT⟩ : ∃ T : Nat, T = 512 * mb := ⟨_, rfl⟩
      obtain ⟨E, hE⟩ : ∃ E : Nat, E = 8 * mb := ⟨_, rfl⟩
      have HM : Hid (M = 64 * mb ∧ T = 512 * mb ∧ E = 8 * mb) := ⟨hM, hT, hE⟩
      have hMb : M ≤ 256 := by have := HQ.out; omega
      have hTb : T ≤ 2048 := by have := HQ.out; omega
      have x1 : (mb : Int) * 64 = (M : Int) := by omega
      have x2 : IntKind.i64.wrap (M : Int) = (M : Int) := by rw [IntKind.wrap_i64]; omega
      have x3 : (8 : Int) * (mb : Int) = (E : Int) := by omega
      have x4 : IntKind.i64.wrap (E : Int) = (E : Int) := by rw [IntKind.wrap_i64]; omega
      have x5 : (E : Int) * 64 = (T : Int) := by omega
      have x6 : IntKind.i64.wrap (T : Int) = (T : Int) := by rw [IntKind.wrap_i64]; omega
      clear hM hT hE
      obtain ⟨p0, p1, p2, p3, p4, p5, p6⟩ := seven HK14.out.pb
      have hZ := l2Zero_calls W14 M (by omega)
      go_wp2_with fail
      refine hZ.mono ?_
      rintro e W16 ⟨gM2, rfl, hO, hc⟩
      have HK16 : Hid (Ms w W16 PB gD DB N cp b l n im bm mb tb tn D dn D14) := HK14.out.chg hc
      have HO : Hid (OwnB W16 (DB + 1) 5 (.slice (some ⟨gM2, 0, none⟩) M M) (blkStep M D b 0)) := hO.base (fun g hg => by have := (hO.lt g hg).1; have := HK14.out.lt; omega)
      clear HK14 hO hc hZ p0 p1 p2 p3 p4 p5 p6
      go_wp2
      go_loopw [8, 9] (fun x y wr => ∃ (k : Nat), y = .int .i64 (k : Int) ∧ k ≤ T ∧ OwnB wr (DB + 1) 5 x (blkStep M D b k) ∧ Ms w wr PB gD DB N cp b l n im bm mb tb tn D dn D14) (fun _ y _ => T - (intOf y).toNat)
      case atStart => exact ⟨0, rfl, by omega, HO.out, HK16.out⟩
      case round =>
        clear HO HK16
        obtain ⟨k, rfl, hk, ho, hm⟩ := hrel
        obtain ⟨f1, f2⟩ := blkStep_facts M D b (by omega) k (by have := HM.out; omega)
        obtain ⟨k0, k1, k2⟩ := trio hm.g0
        obtain ⟨p0, p1, p2, p3, p4, p5, p6⟩ := seven hm.pb
        have HK : Hid (Ms w wr PB gD DB N cp b l n im bm mb tb tn D dn D14) := hm
        have HOk : Hid (OwnB wr (DB + 1) 5 u8 (blkStep M D b k)) := ho
        have hP := specBitPut_calls wr (k : Int) true f2 (by omega) (ho.view (by omega) (hi := wr.heap.size) (fun g hg => (ho.lt g hg).2))
        have HF1 : Hid ((blkStep M D b k).length = M) := f1
        clear f1 f2
        by_cases hlt : k < T
        · have hlt' : (k : Int) < (T : Int) := by omega
          by_cases hc : k < D ∨ b ≤ k
          · have Hn : Hid (bitP (blkStep M D b k) (k : Int) true = blkStep M D b (k + 1)) := by show _ = _; rw [blkStep, if_pos hc]
            rw [Hn.out] at hP
            clear ho hm Hn HOk HF1
            have key : ∀ (e : Ending) (w2 : World), (∃ v, e = .returned v ∧ OwnB w2 wr.heap.size 5 v (blkStep M D b (k + 1)) ∧ Chg 0 0 wr w2) → ∃ v, e = .returned v ∧ Hid (OwnB w2 (DB + 1) 5 v (blkStep M D b (k + 1))) ∧ Hid (Ms w w2 PB gD DB N cp b l n im bm mb tb tn D dn D14) := by
              rintro e w2 ⟨v2, rfl, o2, c2⟩
              exact ⟨v2, rfl, o2.base (fun g hg => by have := (o2.lt g hg).1; have := HK.out.lt; omega), HK.out.chg c2⟩
            by_cases h0 : k < D
            · have h0' : (k : Int) < (D : Int) := by omega
              go_wp2_with fail
              refine hP.mono ?_
              intro e w2 h2
              obtain ⟨v2, rfl, HO2, HK2⟩ := key e w2 h2
              clear h2 key hP HK k0 k1 k2 p0 p1 p2 p3 p4 p5 p6
              go_wp2
              go_roundw
              case rel => exact ⟨k + 1, by go_num, by omega, HO2.out, HK2.out⟩
              case measure => simp [intOf]; omega
            · have h0' : ¬ (k : Int) < (D : Int) := by omega
              have h1' : (b : Int) ≤ (k : Int) := by omega
              go_wp2_with fail
              refine hP.mono ?_
              intro e w2 h2
              obtain ⟨v2, rfl, HO2, HK2⟩ := key e w2 h2
              clear h2 key hP HK k0 k1 k2 p0 p1 p2 p3 p4 p5 p6
              go_wp2
              go_roundw
              case rel => exact ⟨k + 1, by go_num, by omega, HO2.out, HK2.out⟩
              case measure => simp [intOf]; omega
          · have Hn : Hid (blkStep M D b (k + 1) = blkStep M D b k) := by show _ = _; rw [blkStep, if_neg hc]
            have h0' : ¬ (k : Int) < (D : Int) := by omega
            have h1' : ¬ (b : Int) ≤ (k : Int) := by omega
            clear ho hm hP HF1
            go_wp2
            go_roundw
            case rel => exact ⟨k + 1, by go_num, by omega, by rw [Hn.out]; exact HOk.out, HK.out⟩
            case measure => simp [intOf]; omega
        · have hlt' : ¬ (k : Int) < (T : Int) := by omega
          have HO20 : Hid (OwnB wr (DB + 1) 5 u8 (blkMap mb D b)) := by
            show OwnB _ _ _ _ _
            rw [← blkStep_all (by have := HQ.out; omega) HQ.out.2.2.2.2.2.2.2, ← HM.out.1, ← HM.out.2.1, show T = k by omega]; exact ho
          clear ho hm hP HF1 HOk
          have HBL : Hid ((blkMap mb D b).length = M) := by show _ = _; rw [HM.out.1]; exact blkMap_len HQ.out.2.2.2.2.2.2.1 (by have := HQ.out; omega) HQ.out.2.2.2.2.2.2.2
          obtain ⟨gB, cB, rfl⟩ := HO20.out.slice_of (by rw [HBL.out]; have := HQ.out; have := HM.out; omega)
          rw [HBL.out] at HO20 ⊢
          have HK21 : Hid (Ms w wr PB gD DB N cp b l n im bm mb tb tn D dn (splice D14 (bm * 64) ((blkMap mb D b).take (64 * 0)))) := by show Ms _ _ _ _ _ _ _ _ _ _ _ _ _ _ _ _ _ _; rw [splice_none]; exact HK.out
          clear HK
          go_wp2
          clear k0 k1 k2 p0 p1 p2 p3 p4 p5 p6
          go_loopw [10] (fun x wr => ∃ (j : Nat), x = .int .i64 (j : Int) ∧ j ≤ mb ∧ OwnB wr (DB + 1) 5 (.slice (some ⟨gB, 0, none⟩) M cB) (blkMap mb D b) ∧ Ms w wr PB gD DB N cp b l n im bm mb tb tn D dn (splice D14 (bm * 64) ((blkMap mb D b).take (64 * j)))) (fun x _ => mb - (intOf x).toNat)
          case atStart => exact ⟨0, rfl, by omega, HO20.out, HK21.out⟩
          case round =>
            clear HO20 HK21
            obtain ⟨j, rfl, hj, ho, hm⟩ := hrel
            have HOB : Hid (OwnB wr (DB + 1) 5 (.slice (some ⟨gB, 0, none⟩) M cB) (blkMap mb D b)) := ho
            have hgB := ho.lt gB rfl
            have HgB : Hid (DB + 1 ≤ gB) := hgB.1
            have HL24 : Hid ((splice D14 (bm * 64) ((blkMap mb D b).take (64 * j))).length = N) := splice_lenI (by rw [List.length_take, HL14.out]; have := HQ.out; have := HN.out; have := HM.out; omega) HL14.out
            have HK24 : Hid (Ms w wr PB gD DB N cp b l n im bm mb tb tn D dn (splice D14 (bm * 64) ((blkMap mb D b).take (64 * j)))) := hm
            obtain ⟨D24, hD24⟩ : ∃ d, d = splice D14 (bm * 64) ((blkMap mb D b).take (64 * j)) := ⟨_, rfl⟩
            rw [← hD24] at HK24 HL24
            have HD24 : Hid (D24 = splice D14 (bm * 64) ((blkMap mb D b).take (64 * j))) := hD24
            obtain ⟨p0, p1, p2, p3, p4, p5, p6⟩ := seven hm.pb
            clear hD24 ho hm hgB
            by_cases hlj : j < mb
            · have hlj' : (j : Int) < (mb : Int) := by omega
              obtain ⟨r, hr⟩ : ∃ r : Nat, r = bm + j := ⟨_, rfl⟩
              have hqs : (bm : Int) + (j : Int) = (r : Int) := by omega
              have Hr : Hid (r = bm + j) := hr
              have hrb : r ≤ 4096 := by have := HQ.out; omega
              have hrw : IntKind.i64.wrap (r : Int) = (r : Int) := by rw [IntKind.wrap_i64]; omega
              clear hr
              go_upto_region 24 with fail
              clear p0 p1 p2 p3 p4 p5 p6
              have HOBd : Hid (OwnB wr.drew (DB + 1) 5 (.slice (some ⟨gB, 0, none⟩) M cB) (blkMap mb D b)) := HOB.out.chg (Chg.drew (Chg.refl 0 0 wr)) (by intro g _; omega)
              clear HOB
              have HK24d : Hid (Ms w wr.drew PB gD DB N cp b l n im bm mb tb tn D dn D24) := HK24.out.chg (Chg.drew (Chg.refl 0 0 wr))
              clear HK24
              refine held_region (fun w' : World => w'.heap[DB]? = some (.cells #[.slice (some ⟨gD, 0, none⟩) N cp, .slice none 0 0] 27 (0, 0)) ∧ w'.heap[w.heap.size]? = some (.cells #[.int .i64 (b : Int), .int .i64 (l : Int), .int .i64 (n : Int)] 29 (0, 0)) ∧ w'.heap[PB]? = some (.cells #[.int .i64 (im : Int), .int .i64 (bm : Int), .int .i64 (mb : Int), .int .i64 (tb : Int), .int .i64 (tn : Int), .int .i64 (D : Int), .int .i64 dn] 36 (0, 0))) hmx ?_
              generalize wr.drew = X24 at *
              have HS : Hid ((fun w' : World => w'.heap[DB]? = some (.cells #[.slice (some ⟨gD, 0, none⟩) N cp, .slice none 0 0] 27 (0, 0)) ∧ w'.heap[w.heap.size]? = some (.cells #[.int .i64 (b : Int), .int .i64 (l : Int), .int .i64 (n : Int)] 29 (0, 0)) ∧ w'.heap[PB]? = some (.cells #[.int .i64 (im : Int), .int .i64 (bm : Int), .int .i64 (mb : Int), .int .i64 (tb : Int), .int .i64 (tn : Int), .int .i64 (D : Int), .int .i64 dn] 36 (0, 0))) X24) := ⟨HK24d.out.db, HK24d.out.g0, HK24d.out.pb⟩
              refine held_take 0 (.pointer (some ⟨DB, 0, none⟩)) rfl (by kernel_rfl) (by kernel_rfl) (by kernel_rfl) (fun _ _ _ h => h) (.inl ⟨by kernel_rfl, fun w' hw' => by go_simp⟩) HS.out ?_
              go_simp
              refine held_take 1 (.slice (some ⟨gD, 0, none⟩) N cp) rfl (by kernel_rfl) (by kernel_rfl) (by kernel_rfl) (fun _ _ _ h => h) (.inl ⟨by kernel_rfl, fun w' hw' => by obtain ⟨h4, h5⟩ := two_first hw'.1; go_simp⟩) HS.out ?_
              go_simp
              refine held_take 2 (.pointer (some ⟨PB, 1, none⟩)) rfl (by kernel_rfl) (by kernel_rfl) (by kernel_rfl) (fun _ _ _ h => h) (.inl ⟨by kernel_rfl, fun w' hw' => by go_simp⟩) HS.out ?_
              go_simp
              refine held_take 3 (.int .i64 (bm : Int)) rfl (by kernel_rfl) (by kernel_rfl) (by kernel_rfl) (fun _ _ _ h => h) (.inl ⟨by kernel_rfl, fun w' hw' => by obtain ⟨h4, h5, h6, h7, h8, h9, h10⟩ := seven hw'.2.2; go_simp⟩) HS.out ?_
              go_simp
              refine held_take 4 (.int .i64 (j : Int)) rfl (by kernel_rfl) (by kernel_rfl) (by kernel_rfl) (fun _ _ _ h => h) (.inl ⟨by kernel_rfl, fun w' hw' => by go_simp⟩) HS.out ?_
              go_simp
              refine held_take 5 (.int .i64 (r : Int)) rfl (by kernel_rfl) (by kernel_rfl) (by kernel_rfl) (fun _ _ _ h => h) (.inl ⟨by kernel_rfl, fun w' hw' => by go_simp⟩) HS.out ?_
              go_simp
              refine held_take 6 (.slice (some ⟨gB, 0, none⟩) M cB) rfl (by kernel_rfl) (by kernel_rfl) (by kernel_rfl) (fun _ _ _ h => h) (.inl ⟨by kernel_rfl, fun w' hw' => by go_simp⟩) HS.out ?_
              go_simp
              refine held_take 7 (.int .i64 (j : Int)) rfl (by kernel_rfl) (by kernel_rfl) (by kernel_rfl) (fun _ _ _ h => h) (.inl ⟨by kernel_rfl, fun w' hw' => by go_simp⟩) HS.out ?_
              go_simp
              refine held_one 8 rfl rfl (by kernel_rfl) ?_
              refine wp_enter 18 #[.slice (some ⟨gB, 0, none⟩) M cB, .int .i64 (j : Int)] (by first | kernel_rfl | go_simp) ((show Calls _ _ _ _ _ from by have h := l2Block_calls X24 (k := j) (ys := blkMap mb D b) (cap := cB) (g := gB) (lo := DB + 1) (hi := X24.heap.size) (by rw [HBL.out]; exact HOBd.out.view (by rw [HBL.out]; omega) (fun g hg => (HOBd.out.lt g hg).2)) (by rw [HBL.out]; have := HM.out; omega) (by rw [HBL.out]; omega); rw [HBL.out] at h; exact h)) ?_
              rintro e Y24 ⟨v, rfl, hO, hc⟩
              have HK24y : Hid (Ms w Y24 PB gD DB N cp b l n im bm mb tb tn D dn D24) := HK24d.out.chg hc
              have HOBy : Hid (OwnB Y24 (DB + 1) 5 (.slice (some ⟨gB, 0, none⟩) M cB) (blkMap mb D b)) := HOBd.out.chg hc (by intro g _; omega)
              have HS : Hid ((fun w' : World => w'.heap[DB]? = some (.cells #[.slice (some ⟨gD, 0, none⟩) N cp, .slice none 0 0] 27 (0, 0)) ∧ w'.heap[w.heap.size]? = some (.cells #[.int .i64 (b : Int), .int .i64 (l : Int), .int .i64 (n : Int)] 29 (0, 0)) ∧ w'.heap[PB]? = some (.cells #[.int .i64 (im : Int), .int .i64 (bm : Int), .int .i64 (mb : Int), .int .i64 (tb : Int), .int .i64 (tn : Int), .int .i64 (D : Int), .int .i64 dn] 36 (0, 0))) Y24) := ⟨HK24y.out.db, HK24y.out.g0, HK24y.out.pb⟩
              have HO : Hid (OwnB Y24 (DB + 1) 5 v (blkOf (blkMap mb D b) j)) := hO.base (fun g hg => by have := (hO.lt g hg).1; have := HK24d.out.lt; omega)
              clear HK24d hc hO
              refine ⟨_, rfl, HS.out, ?_⟩
              go_simp
              refine held_one 9 rfl rfl (by kernel_rfl) ?_
              refine wp_enter 13 #[.slice (some ⟨gD, 0, none⟩) N cp, .int .i64 ((r : Int)), v] (by first | kernel_rfl | go_simp) (HK24y.out.l1Put HL24.out hNb (blkOf (blkMap mb D b) j) (blkOf_length (HBL.out.trans HM.out.1) hlj) (r) (by have := HQ.out; have := HN.out; have := Hr.out; omega) HO.out) ?_
              rintro e Z24 ⟨rfl, hK, hL, hc⟩
              have HOBz : Hid (OwnB Z24 (DB + 1) 5 (.slice (some ⟨gB, 0, none⟩) M cB) (blkMap mb D b)) := HOBy.out.chg hc (by intro g hg; cases hg; show gB < gD ∨ gD + 1 ≤ gB; have := HgB.out; have := HK24y.out.lo; omega)
              have HK25 : Hid (Ms w Z24 PB gD DB N cp b l n im bm mb tb tn D dn (splice D14 (bm * 64) ((blkMap mb D b).take (64 * (j + 1))))) := by
                show Ms _ _ _ _ _ _ _ _ _ _ _ _ _ _ _ _ _ _
                rw [← blk_more (HBL.out.trans HM.out.1) hlj (by rw [HL14.out]; have := HQ.out; have := HN.out; omega), ← HD24.out, ← Hr.out]; exact hK
              have HS' : Hid ((fun w' : World => w'.heap[DB]? = some (.cells #[.slice (some ⟨gD, 0, none⟩) N cp, .slice none 0 0] 27 (0, 0)) ∧ w'.heap[w.heap.size]? = some (.cells #[.int .i64 (b : Int), .int .i64 (l : Int), .int .i64 (n : Int)] 29 (0, 0)) ∧ w'.heap[PB]? = some (.cells #[.int .i64 (im : Int), .int .i64 (bm : Int), .int .i64 (mb : Int), .int .i64 (tb : Int), .int .i64 (tn : Int), .int .i64 (D : Int), .int .i64 dn] 36 (0, 0))) Z24) := ⟨HK25.out.db, HK25.out.g0, HK25.out.pb⟩
              clear hK hL hc HS HK24y HL24 HO HOBy HOBd
              refine ⟨_, rfl, HS'.out, ?_⟩
              clear HS'
              refine held_done (by kernel_rfl) (NoPanic.normal ?_)
              go_wp2
              go_roundw
              case rel => exact ⟨j + 1, by go_num, by omega, HOBz.out, HK25.out⟩
              case measure => simp [intOf]; omega
            · have hlj' : ¬ (j : Int) < (mb : Int) := by omega
              have HDf : Hid (D24 = splice D14 (bm * 64) (blkMap mb D b)) := by show _ = _; rw [HD24.out, List.take_of_length_le (by rw [HBL.out]; have := HM.out; omega)]
              clear HD24 HOB HgB
              obtain ⟨ti, hti, hz0, hz1, hz2⟩ := info_parts Tryd.infoI64
              go_wp2_with (at_make; refine wpList_make_full _ rfl _ _ 49 rfl wr.heap.size 2 ti (.int .i64 0) 1 Tryd.underlying49 hti hz0 hz1 _ _ _ _ 8 rfl rfl rfl rfl (by rw [hz2]; omega) (by unfold maxLen; omega) (by simp) ?_)
              intro W25 hown hgrow
              have OI : OwnI W25 wr.heap.size 2 (.slice (some ⟨wr.heap.size, 0, none⟩) 8 8) (List.replicate 8 0) := by
                unfold OwnI
                rw [List.length_replicate, List.map_replicate]
                rw [made_one] at hown
                exact hown
              have c25 : Chg 0 0 wr W25 := Chg.ofGrown hgrow (by simp)
              have HK25 : Hid (Ms w W25 PB gD DB N cp b l n im bm mb tb tn D dn D24) := HK24.out.chg c25
              have hEn := specEncInode_calls W25 (lo := wr.heap.size) (hi := W25.heap.size) rootI (some ⟨wr.heap.size, 0, none⟩) 8 (by simp) (OI.view (by simp) (fun g hg => (OI.lt g hg).2))
              clear OI c25 HK24 hown hgrow
              go_wp2_with fail
              refine hEn.mono ?_
              rintro e W26 ⟨vi, rfl, oi, ci⟩
              have HK26 : Hid (Ms w W26 PB gD DB N cp b l n im bm mb tb tn D dn D24) := HK25.out.chg ci
              have Hoi : Hid (OwnB W26 W25.heap.size 5 vi (encIno rootI)) := oi
              clear ci oi hEn HK25
              go_wp2_with fail
              refine (l2Zero_calls W26 32 (by omega)).mono ?_
              rintro e W27 ⟨gz, rfl, oz, cz⟩
              have HK27 : Hid (Ms w W27 PB gD DB N cp b l n im bm mb tb tn D dn D24) := HK26.out.chg cz
              have oi2 := Hoi.out.chg cz (by intro g _; omega)
              have hJ := l2Join_any W27 (by rw [rootI_len]; omega) (by simp) (oi2.view (by rw [rootI_len]; omega) (hi := W27.heap.size) (fun g hg => (oi2.lt g hg).2)) (oz.view (by simp) (hi := W27.heap.size) (fun g hg => (oz.lt g hg).2))
              rw [rootI_enc] at hJ
              clear oi2 oz cz Hoi HK26
              go_wp2_with fail
              refine hJ.mono ?_
              rintro e W28 ⟨vj, rfl, oj, cj⟩
              have HK28 : Hid (Ms w W28 PB gD DB N cp b l n im bm mb tb tn D dn D24) := HK27.out.chg cj
              have HOj : Hid (OwnB W28 (DB + 1) 5 vj rootL) := oj.base (fun g hg => by have := (oj.lt g hg).1; have := HK27.out.lt; omega)
              obtain ⟨j0, j1⟩ := two_first HK28.out.db
              obtain ⟨t0, t1, t2, t3, t4, t5, t6⟩ := seven HK28.out.pb
              have hPut := HK28.out.l1Put HL24.out hNb rootL rootL_len tb (by have := HQ.out; have := HN.out; omega) HOj.out
              clear oj cj hJ HK27 p0 p1 p2 p3 p4 p5 p6
              go_wp2_with fail
              refine hPut.mono ?_
              rintro e W29 ⟨rfl, hK, hL, hc⟩
              have HF : Hid (splice D24 (tb * 64) rootL = mkDur b l n im bm mb tb D) := by show _ = _; unfold mkDur; rw [HDf.out, HD14.out, HD8.out, HD7.out, HD6.out, HN.out]
              clear hPut HOj HK28 hL hc j0 j1 t0 t1 t2 t3 t4 t5 t6 HL24
              obtain ⟨j0, j1⟩ := two_first hK.db
              obtain ⟨y0, y1, yf0, yf1⟩ := two_cells hK.r0
              have hlo := hK.lo
              have hDl := hK.lt
              have HC : Hid (Chg 0 0 w ((W29.setCell ⟨w.heap.size + 1, 0, none⟩ (.slice (some ⟨gD, 0, none⟩) N cp)).setCell ⟨w.heap.size + 1, 1, none⟩ (.slice none 0 0))) := hK.ch.step (Chg.set2 _ _ _ _) (by omega)
              have HO : Hid (OwnD ((W29.setCell ⟨w.heap.size + 1, 0, none⟩ (.slice (some ⟨gD, 0, none⟩) N cp)).setCell ⟨w.heap.size + 1, 1, none⟩ (.slice none 0 0)) w.heap.size W29.heap.size 105 5 (.agg #[.slice (some ⟨gD, 0, none⟩) N cp, .slice none 0 0]) ⟨splice D24 (tb * 64) rootL, []⟩) := by
                have n1 : (Value.slice (some ⟨gD, 0, none⟩) N cp).ownBlock ≠ some (w.heap.size + 1) := by simp [Value.ownBlock]; omega
                refine ⟨_, _, [], fun _ => .slice none 0 0, rfl, ((hK.dr.base (base' := w.heap.size) (fun g hg => by cases hg; show w.heap.size ≤ gD; omega)).set (p := ⟨w.heap.size + 1, 0, none⟩) n1 _).set (p := ⟨w.heap.size + 1, 1, none⟩) n1 _, OwnPx.nil _ _ _ _, by simp, ?_, by simp [Value.ownBlock], by simp⟩
                intro g' hg'
                cases hg'
                show gD < W29.heap.size
                omega
              have HSz : Hid (((W29.setCell ⟨w.heap.size + 1, 0, none⟩ (.slice (some ⟨gD, 0, none⟩) N cp)).setCell ⟨w.heap.size + 1, 1, none⟩ (.slice none 0 0)).heap.size = W29.heap.size) := by show _ = _; simp [World.setCell]
              clear hK hlo hDl
              go_wp2
              refine bodyPost_ret (v := .agg #[.slice (some ⟨gD, 0, none⟩) N cp, .slice none 0 0]) (by simp [results, Tryd.results4, go_sem, y0, y1]) rfl ⟨_, rfl, ?_, HC.out⟩
              rw [← HF.out, HSz.out]; exact HO.out

end Go.Proofs.YtaciallijnhieaaDoor

namespace Go.Proofs.YtaciallijnhieaaDoor
open Go.RowKit

set_option maxRecDepth 20000 in
set_option maxHeartbeats 1000000 in
theorem implMk_bad (w : World) (b l n : Int) (hv : geoB b l n = false) :
    Calls Tryd.prog 6 #[geoV b l n] w fun e w' => ∃ v, e = .returned v ∧ OwnD w' w.heap.size w'.heap.size 105 5 v Dsk.none ∧ Chg 0 0 w w' := by
  have hA : Chg 0 0 w ((w.alloc (.cells #[.int .i64 b, .int .i64 l, .int .i64 n] 29)).alloc (.cells #[.slice none 0 0, .slice none 0 0] 27)) := (Chg.alloc (Chg.refl 0 0 w) _).alloc _
  obtain ⟨z, b0, b1⟩ := alloc2 w (.cells #[.int .i64 b, .int .i64 l, .int .i64 n] 29) (.cells #[.slice none 0 0, .slice none 0 0] 27)
  have hN := implValidGeometry_calls ((w.alloc (.cells #[.int .i64 b, .int .i64 l, .int .i64 n] 29)).alloc (.cells #[.slice none 0 0, .slice none 0 0] 27)) b l n
  rw [hv] at hN
  clear hv
  go_enter Tryd.func6, Tryd.ntmps6
  go_wp2_with fail
  generalize (w.alloc (.cells #[.int .i64 b, .int .i64 l, .int .i64 n] 29)).alloc (.cells #[.slice none 0 0, .slice none 0 0] 27) = w0 at *
  refine hN.mono ?_
  rintro e w1 ⟨rfl, h1⟩
  have B1 := (h1.block (w.heap.size + 1) (by omega) (by omega)).trans b1
  have s1 := h1.size
  have hC := hA.trans h1
  obtain ⟨y0, y1, yf0, yf1⟩ := two_cells B1
  have HC : Hid (Chg 0 0 w ((w1.setCell ⟨w.heap.size + 1, 0, none⟩ (.slice none 0 0)).setCell ⟨w.heap.size + 1, 1, none⟩ (.slice none 0 0))) := hC.step (Chg.set2 _ _ _ _) (by omega)
  clear hN h1 b0 b1 hA hC B1
  go_wp2
  exact bodyPost_ret (v := .agg #[.slice none 0 0, .slice none 0 0]) (by simp [results, Tryd.results6, go_sem, y0, y1]) rfl ⟨_, rfl, OwnD.none _ _ _ _ _, HC.out⟩

set_option maxRecDepth 20000 in
set_option maxHeartbeats 1000000 in
theorem specMk_bad (w : World) (b l n : Int) (hv : geoB b l n = false) :
    Calls Tryd.prog 4 #[geoV b l n] w fun e w' => ∃ v, e = .returned v ∧ OwnD w' w.heap.size w'.heap.size 105 5 v Dsk.none ∧ Chg 0 0 w w' := by
  have hA : Chg 0 0 w ((w.alloc (.cells #[.int .i64 b, .int .i64 l, .int .i64 n] 29)).alloc (.cells #[.slice none 0 0, .slice none 0 0] 27)) := (Chg.alloc (Chg.refl 0 0 w) _).alloc _
  obtain ⟨z, b0, b1⟩ := alloc2 w (.cells #[.int .i64 b, .int .i64 l, .int .i64 n] 29) (.cells #[.slice none 0 0, .slice none 0 0] 27)
  have hN := specValidGeometry_calls ((w.alloc (.cells #[.int .i64 b, .int .i64 l, .int .i64 n] 29)).alloc (.cells #[.slice none 0 0, .slice none 0 0] 27)) b l n
  rw [hv] at hN
  clear hv
  go_enter Tryd.func4, Tryd.ntmps4
  go_wp2_with fail
  generalize (w.alloc (.cells #[.int .i64 b, .int .i64 l, .int .i64 n] 29)).alloc (.cells #[.slice none 0 0, .slice none 0 0] 27) = w0 at *
  refine hN.mono ?_
  rintro e w1 ⟨rfl, h1⟩
  have B1 := (h1.block (w.heap.size + 1) (by omega) (by omega)).trans b1
  have s1 := h1.size
  have hC := hA.trans h1
  obtain ⟨y0, y1, yf0, yf1⟩ := two_cells B1
  have HC : Hid (Chg 0 0 w ((w1.setCell ⟨w.heap.size + 1, 0, none⟩ (.slice none 0 0)).setCell ⟨w.heap.size + 1, 1, none⟩ (.slice none 0 0))) := hC.step (Chg.set2 _ _ _ _) (by omega)
  clear hN h1 b0 b1 hA hC B1
  go_wp2
  exact bodyPost_ret (v := .agg #[.slice none 0 0, .slice none 0 0]) (by simp [results, Tryd.results4, go_sem, y0, y1]) rfl ⟨_, rfl, OwnD.none _ _ _ _ _, HC.out⟩

/-- The disk that Mkfs makes. -/
def mkfsN (b l n : Nat) : List Int := mkDur b l n (2 + l) (3 + l) (upN b 512) (3 + l + upN b 512) (dataAt b l n)
def mkfsD (b l n : Int) : Dsk := if geoB b l n = true then ⟨mkfsN b.toNat l.toNat n.toNat, []⟩ else Dsk.none

theorem geo_nat {b l n : Int} (h : geoB b l n = true) : ∃ p q r : Nat, b = p ∧ l = q ∧ n = r ∧ GeoIn (p : Int) (q : Int) (r : Int) ∧ dataAt p q r < p := by
  have hb := geo_in h
  obtain ⟨h1, h2, h3, h4, h5, h6⟩ := id hb
  refine ⟨b.toNat, l.toNat, n.toNat, by omega, by omega, by omega, ?_, ?_⟩
  · exact ⟨by omega, by omega, by omega, by omega, by omega, by omega⟩
  · unfold geoB at h; rw [Bool.and_eq_true, decide_eq_true_eq, decide_eq_true_eq] at h; exact h.2
theorem mkfsD_yes {p q r : Nat} (h : geoB p q r = true) : mkfsD p q r = ⟨mkfsN p q r, []⟩ := by unfold mkfsD; rw [if_pos h]; simp

theorem specMkfs_calls (w : World) (b l n : Int) :
    Calls Tryd.prog 4 #[geoV b l n] w fun e w' => ∃ v, e = .returned v ∧ OwnD w' w.heap.size w'.heap.size 105 5 v (mkfsD b l n) ∧ Chg 0 0 w w' := by
  cases h : geoB b l n with
  | false => unfold mkfsD; rw [h]; exact specMk_bad w b l n h
  | true =>
    obtain ⟨p, q, r, rfl, rfl, rfl, hg, hd⟩ := geo_nat h
    obtain ⟨h1, h2, h3, h4, h5, h6⟩ := id hg
    have e1 : upN p 512 = (p + 511) / 512 := rfl
    have e2 : upN (r * 32) 64 = (r * 32 + 63) / 64 := rfl
    have e3 : dataAt p q r = 3 + q + upN p 512 + upN (r * 32) 64 := rfl
    rw [mkfsD_yes h]
    exact specMk_good w p q r (2 + q) (3 + q) (upN p 512) (3 + q + upN p 512) (upN (r * 32) 64) (dataAt p q r) ((p : Int) - dataAt p q r) hg h rfl rfl (by omega) rfl (by omega) hd (by omega) (by omega) (by omega)
theorem implMkfs_calls (w : World) (b l n : Int) (hs : SysM w) (m0 : w.cell? ⟨1, 0, none⟩ = some (.int .u8 106)) (m1 : w.cell? ⟨1, 1, none⟩ = some (.int .u8 108)) (m2 : w.cell? ⟨1, 2, none⟩ = some (.int .u8 111)) (m3 : w.cell? ⟨1, 3, none⟩ = some (.int .u8 103)) :
    Calls Tryd.prog 6 #[geoV b l n] w fun e w' => ∃ v, e = .returned v ∧ OwnD w' w.heap.size w'.heap.size 105 5 v (mkfsD b l n) ∧ Chg 0 0 w w' := by
  cases h : geoB b l n with
  | false => unfold mkfsD; rw [h]; exact implMk_bad w b l n h
  | true =>
    obtain ⟨p, q, r, rfl, rfl, rfl, hg, hd⟩ := geo_nat h
    obtain ⟨h1, h2, h3, h4, h5, h6⟩ := id hg
    have e1 : upN p 512 = (p + 511) / 512 := rfl
    have e2 : upN (r * 32) 64 = (r * 32 + 63) / 64 := rfl
    have e3 : dataAt p q r = 3 + q + upN p 512 + upN (r * 32) 64 := rfl
    rw [mkfsD_yes h]
    exact mkfs_good w p q r (2 + q) (3 + q) (upN p 512) (3 + q + upN p 512) (upN (r * 32) 64) (dataAt p q r) ((p : Int) - dataAt p q r) hg h rfl rfl (by omega) rfl (by omega) hd (by omega) (by omega) (by omega) hs m0 m1 m2 m3

end Go.Proofs.YtaciallijnhieaaDoor
