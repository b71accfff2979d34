/- Several short texts in one: MarkD, HeldD, OpenGeo, Own, LaidSys, LaidJour. -/
import Derived.Test.YtmfkgnifkkkkiaaDoorMarkB
import Derived.Test.YtmfkgnifkkkkiaaDoorRows
import Derived.Test.YtmfkgnifkkkkiaaDoorMem
import Derived.ProofKit
import Derived.OpenShut
import Derived.Carry
import Derived.ChangeOld
import Derived.Below
import Derived.Lib.SmallJoins
import Derived.Test.YtmfkgnifkkkkiaaDoorImplSys
import Derived.ChangeSame
import Derived.ChangeVars
import Derived.OpenVars
import Derived.JoinedOf
import Derived.RowKitTokens
import Derived.LaidLaws
import Derived.LaidHandle
import Derived.Stop.LaidErr
import Derived.Stop.Joined
namespace Go.Proofs.YtmfkgnifkkkkiaaDoor
open Go.RowKit

set_option maxRecDepth 20000 in
set_option maxHeartbeats 1000000 in
theorem markWriteS_some (w : World) (base : Nat) (eW eB : TypeId) (hE : eW ≠ eB) (ps : List Wr) (k0 g cap lo hi : Nat) (hl : ps.length ≤ 140737488355328) (hk0 : k0 + cnt ps ≤ 140737488355328)
    (cells : List Value) (dvs : Nat → Value) (h1 : OwnPx w base eW eB (.slice (some ⟨g, 0, none⟩) ps.length cap) ps cells dvs) (hg : lo ≤ g ∧ g < hi)
    (hb : ∀ i g', i < ps.length → (dvs i).ownBlock = some g' → lo ≤ g' ∧ g' < hi) :
    Calls Tryd.prog 34 #[.slice (some ⟨g, 0, none⟩) ps.length cap, .int .i64 k0] w fun r w' => r = .returned (.int .i64 ((k0 + cnt ps : Nat) : Int)) ∧
      (∃ cells', OwnPx w' base eW eB (.slice (some ⟨g, 0, none⟩) ps.length cap) (mkTo k0 ps ps.length) cells' dvs) ∧ Chg lo hi w w' ∧ (∀ m, m ≠ g → (∀ i, i < ps.length → (dvs i).ownBlock ≠ some m) → m < w.heap.size → w'.heap[m]? = w.heap[m]?) := by
  go_enter Tryd.func34, Tryd.ntmps34
  go_wp2
  go_loopw [1, 5] (fun q i wr => ∃ k : Nat, k ≤ ps.length ∧ i = .int .i64 k ∧ q = .int .i64 ((k0 + cnt (ps.take k) : Nat) : Int) ∧
      (∃ cells', OwnPx wr base eW eB (.slice (some ⟨g, 0, none⟩) ps.length cap) (mkTo k0 ps k) cells' dvs) ∧ Chg lo hi w wr ∧ (∀ m, m ≠ g → (∀ i, i < ps.length → (dvs i).ownBlock ≠ some m) → m < w.heap.size → wr.heap[m]? = w.heap[m]?)) (fun _ i _ => ps.length - (intOf i).toNat)
  case atStart => exact ⟨0, Nat.zero_le _, rfl, rfl, ⟨cells, by rw [mkTo_zero]; exact h1⟩, Chg.refl _ _ _, fun _ _ _ _ => rfl⟩
  case round =>
    obtain ⟨k, hk, rfl, rfl, ⟨cells', hown⟩, hch, hrest⟩ := hrel
    clear h1
    by_cases hlt : k < ps.length
    · have hrow := hown.row
      rw [mkTo_length] at hrow
      have hlen : cells'.length = ps.length * 2 := hrow.1
      have c0 : wr.cell? ⟨g, k * 2, none⟩ = some (.int .i64 ((mkTo k0 ps k).getD k (0, [])).1) := by
        rw [World.ownsRow.cellAt hrow (k * 2) (by omega)]; exact hown.at0 k (by rw [mkTo_length]; exact hlt)
      have c1 : wr.cell? ⟨g, k * 2 + 1, none⟩ = some (dvs k) := by
        rw [World.ownsRow.cellAt hrow (k * 2 + 1) (by omega)]; exact hown.at1 k (by rw [mkTo_length]; exact hlt)
      have f0 : wr.frozen? ⟨g, k * 2, none⟩ = false := World.ownsRow.frozenAt hrow (k * 2)
      have hik : (k : Int) < (ps.length : Int) := by omega
      have hcs := cnt_take_succ ps k hlt
      have hcl := cnt_take_le ps (k + 1)
      have hd := hown.data_set hE (k * 2) (.int .i64 ((k0 : Int) + (cnt (ps.take k) : Int))) (i := k) (by rw [mkTo_length]; exact hlt)
      have hold : (mkTo k0 ps k).getD k (0, []) = ps.getD k (0, []) := by rw [mkTo_getD _ _ _ _ hlt, if_neg (Nat.lt_irrefl _)]
      rw [hold] at c0 hd
      have HW : Hid (mkW k0 ps k = (((k0 + cnt (ps.take k) : Nat) : Int), marks (k0 + cnt (ps.take k) + 1) (ps.getD k (0, [])).2.length)) := rfl
      clear hold hrow
      generalize hc : cnt (ps.take k) = c at *
      generalize ps.getD k (0, []) = old at *
      have Hc : Hid (cnt (ps.take k) = c) := hc
      clear hc
      have hbd : k0 + c + 1 + old.2.length ≤ 140737488355328 := by omega
      have Hcs : Hid (cnt (ps.take (k + 1)) = c + (old.2.length + 1)) := hcs
      clear hcs hcl
      go_wp2_with fail
      rw [show (k0 : Int) + (c : Int) + 1 = ((k0 + c + 1 : Nat) : Int) from by omega]
      refine (markByteS_calls _ base eB (dvs k) old.2 (k0 + c + 1) lo hi (by omega) (by omega) hd (hb k · hlt)).mono ?_
      rintro e w2 ⟨rfl, ho, hc1, hc2, hc3⟩
      have hset : (k0 : Int) + (c : Int) = ((k0 + c : Nat) : Int) := by omega
      rw [hset] at hc1 hc2 hc3
      have R1 := hown.step (mkTo_length _ _ _) hlt hE ((k0 + c : Nat) : Int) _ ho hc2 hc3
      rw [← HW.out, mkTo_succ] at R1
      have R2 : Chg lo hi w w2 := (hch.setCell (p := ⟨g, k * 2, none⟩) (Or.inl hg) _).trans hc1
      have R3 : ∀ m, m ≠ g → (∀ i, i < ps.length → (dvs i).ownBlock ≠ some m) → m < w.heap.size → w2.heap[m]? = w.heap[m]? := by
        intro m hm hm2 hm3
        rw [← hrest m hm hm2 hm3, ← Below.heap_setCell wr ⟨g, k * 2, none⟩ (.int .i64 ((k0 + c : Nat) : Int)) m hm]
        cases hb : (dvs k).ownBlock with
        | none => rw [hc3 hb]
        | some g' =>
          refine (hc2 g' hb).block m (Nat.lt_of_lt_of_le hm3 (by have := hch.size; simpa [World.setCell] using this)) ?_
          have : m ≠ g' := fun e => hm2 k hlt (by rw [e]; exact hb)
          omega
      have HR : Hid (∃ cells'', OwnPx w2 base eW eB (.slice (some ⟨g, 0, none⟩) ps.length cap) (mkTo k0 ps (k + 1)) cells'' dvs) := ⟨_, R1⟩
      have HR3 : Hid (∀ m, m ≠ g → (∀ i, i < ps.length → (dvs i).ownBlock ≠ some m) → m < w.heap.size → w2.heap[m]? = w.heap[m]?) := R3
      clear R1 R3 hc1 hc2 hc3 ho hown hrest hch c0 c1 f0 hd hset HW
      go_wp2
      go_roundw
      case rel => exact ⟨k + 1, by omega, by go_num, by rw [Hcs.out]; go_num, HR.out, R2, HR3.out⟩
      case measure => simp [intOf]; omega
    · obtain rfl : k = ps.length := by omega
      have H1 : Hid (∃ cells'', OwnPx wr base eW eB (.slice (some ⟨g, 0, none⟩) ps.length cap) (mkTo k0 ps ps.length) cells'' dvs) := ⟨_, hown⟩
      have H2 : Hid (∀ m, m ≠ g → (∀ i, i < ps.length → (dvs i).ownBlock ≠ some m) → m < w.heap.size → wr.heap[m]? = w.heap[m]?) := hrest
      rw [List.take_length]
      clear hown hrest
      go_wp2
      go_ret
      exact ⟨rfl, H1.out, hch, H2.out⟩

set_option maxRecDepth 20000 in
set_option maxHeartbeats 400000 in
theorem markWriteS_none (w : World) (ao : Option Addr) (k0 cap : Nat) :
    Calls Tryd.prog 34 #[.slice ao 0 cap, .int .i64 k0] w fun r w' => r = .returned (.int .i64 (k0 : Int)) ∧ w' = w := by
  go_enter Tryd.func34, Tryd.ntmps34
  go_wp2
  refine wp_loop_rounds 1 ?_; rw [rounds_succ]
  go_wp2
  go_ret
  exact ⟨rfl, rfl⟩

/-- Behind markWriteS the writes bear the marks; nothing else has turned. -/
theorem markWriteS_calls (w : World) (base : Nat) (eW eB : TypeId) (hE : eW ≠ eB) (v : Value) (ps : List Wr) (k0 lo hi : Nat) (hl : ps.length ≤ 140737488355328) (hk0 : k0 + cnt ps ≤ 140737488355328)
    (cells : List Value) (dvs : Nat → Value) (h1 : OwnPx w base eW eB v ps cells dvs) (hg : ∀ g, v.ownBlock = some g → lo ≤ g ∧ g < hi)
    (hb : ∀ i g', i < ps.length → (dvs i).ownBlock = some g' → lo ≤ g' ∧ g' < hi) :
    Calls Tryd.prog 34 #[v, .int .i64 k0] w fun r w' => r = .returned (.int .i64 ((k0 + cnt ps : Nat) : Int)) ∧
      (∃ cells', OwnPx w' base eW eB v (mkTo k0 ps ps.length) cells' dvs) ∧ Chg lo hi w w' ∧ (∀ m, v.ownBlock ≠ some m → (∀ i, i < ps.length → (dvs i).ownBlock ≠ some m) → m < w.heap.size → w'.heap[m]? = w.heap[m]?) := by
  rcases h1.row.2 with ⟨rfl, hn⟩ | ⟨g, cap, cur, rfl, _⟩
  · obtain rfl : ps = [] := List.eq_nil_of_length_eq_zero hn
    refine (markWriteS_none w none k0 0).mono ?_
    rintro r w' ⟨rfl, rfl⟩
    exact ⟨rfl, ⟨cells, by simpa [mkTo] using h1⟩, Chg.refl _ _ _, fun _ _ _ _ => rfl⟩
  · refine (markWriteS_some w base eW eB hE ps k0 g cap lo hi hl hk0 cells dvs h1 (hg g rfl) hb).mono ?_
    rintro r w' ⟨rfl, ho, hc, hr⟩
    exact ⟨rfl, ho, hc, fun m hm => hr m (fun e => hm (by rw [e]; rfl))⟩

set_option maxRecDepth 20000 in
set_option maxHeartbeats 1000000 in
theorem markDisk_calls (w : World) (eW eB : TypeId) (hE : eW ≠ eB) {v : Value} {d : Dsk} (k0 lo hi : Nat) (hf : d.Fits) (hk0 : k0 + cntD d ≤ 140737488355328) (hhi : hi ≤ w.heap.size)
    (h1 : OwnD w lo hi eW eB v d) :
    Calls Tryd.prog 8 #[v, .int .i64 k0] w fun r w' => r = .returned (.int .i64 ((k0 + cntD d : Nat) : Int)) ∧ OwnD w' lo hi eW eB v (mkD k0 d) ∧ Chg lo hi w w' := by
  obtain ⟨dv, pv, cells, dvs, h⟩ := h1
  obtain ⟨rfl, hdur, hpend, hap, hiD, hiP, hiX⟩ := h
  unfold cntD at hk0
  go_enter Tryd.func8, Tryd.ntmps8
  go_wp2_with fail
  refine (markByteS_calls _ lo eB dv d.dur k0 lo hi hf.dur (by omega) (hdur.chg (Chg.alloc (Chg.refl 0 0 w) _) (by intro g hg; omega)) (fun g hg => ⟨(hdur.lt g hg).1, hiD g hg⟩)).mono ?_
  rintro e w1 ⟨rfl, ho1, hc1, hcx, hcn⟩
  have cc : ∀ o x, (w.alloc (.cells #[dv, pv] 27)).cell? ⟨w.heap.size, o, none⟩ = some x → w1.cell? ⟨w.heap.size, o, none⟩ = some x := fun o x hx => hc1.cell hx (by omega)
  have cb : w1.cell? ⟨w.heap.size, 1, none⟩ = some pv := cc 1 pv (by simp)
  have hp1 : OwnPx w1 lo eW eB pv d.pend cells dvs := by
    have hp0 := hpend.chg (Chg.alloc (Chg.refl 0 0 w) (.cells #[dv, pv] 27)) (by intro g hg; omega) (by intro i g hi hg; omega)
    cases hb : dv.ownBlock with
    | none => rw [hcn hb]; exact hp0
    | some g =>
      refine hp0.chg (hcx g hb) ?_ ?_
      · intro g' hg'
        have : g' ≠ g := by
          intro e
          subst e
          obtain ⟨cur', hcur'⟩ := hdur.elem hb
          rcases hpend.row.2 with ⟨h', _⟩ | ⟨g'', cap', cur, h', hb', hg, _⟩
          · rw [h'] at hg'; cases hg'
          · rw [h'] at hg'; cases hg'
            rw [hg] at hcur'
            simp only [Option.some.injEq, Obj.cells.injEq] at hcur'
            exact hE hcur'.2.1
        omega
      · intro i g' hi' hg'
        have : g' ≠ g := fun e => hap i g hi' hb (by rw [← e]; exact hg')
        omega
  have hch1 : Chg lo hi w w1 := (Chg.alloc (Chg.refl lo hi w) _).trans hc1
  clear cc hcx hcn hc1 hpend hdur
  go_wp2_with fail
  refine (markWriteS_calls _ lo eW eB hE pv d.pend (k0 + d.dur.length) lo hi hf.pend (by omega) cells dvs hp1 (fun g hg => ⟨(World.ownsRow.lt hp1.row g hg).1, hiP g hg⟩) (fun i g hi' hg => ⟨((hp1.data i hi').lt g hg).1, hiX i g hi' hg⟩)).mono ?_
  rintro e w2 ⟨rfl, ⟨cells', hp2⟩, hc2, hr⟩
  have hd2 : OwnB w2 lo eB dv (marks k0 d.dur.length) := by
    obtain ⟨h1, h2⟩ := ho1
    refine ⟨h1, ?_⟩
    rcases h2 with h2 | ⟨g, cap, cur, hv, hg, hh, r⟩
    · exact Or.inl h2
    · refine Or.inr ⟨g, cap, cur, hv, hg, ?_, r⟩
      have hdb : dv.ownBlock = some g := by rw [hv]; rfl
      rw [hr g ?_ ?_ (Array.getElem?_eq_some_iff.1 hh).1]
      · exact hh
      · intro e
        rcases hp1.row.2 with ⟨h', _⟩ | ⟨g'', cap', cur', h', hb', hg', _⟩
        · rw [h'] at e; cases e
        · rw [h'] at e; cases e
          rw [hh] at hg'
          simp only [Option.some.injEq, Obj.cells.injEq] at hg'
          exact hE hg'.2.1.symm
      · exact fun i hi' => hap i g hi' hdb
  have hch2 := hch1.trans hc2
  have H1 : Hid (OwnD w2 lo hi eW eB (.agg #[dv, pv]) (mkD k0 d)) :=
    ⟨dv, pv, cells', dvs, rfl, hd2, hp2, by simpa [mkD, mkTo_length] using hap, hiD, hiP, by simpa [mkD, mkTo_length] using hiX⟩
  clear hr hp1 hp2 hd2 ho1 hc2 hch1 cb hap hiX hiP hiD
  go_wp2
  go_ret
  exact ⟨ret_int (by unfold cntD; omega), H1.out, hch2⟩

end Go.Proofs.YtmfkgnifkkkkiaaDoor

namespace Go.Proofs.YtmfkgnifkkkkiaaDoor
open Go.RowKit

set_option maxRecDepth 20000 in
set_option maxHeartbeats 1000000 in
theorem heldWriteS_some (w : World) (ps : List Wr) (k0 lo hi b off cap : Nat) (hl : ps.length ≤ 140737488355328) (hk0 : k0 + cnt ps ≤ 140737488355328)
    (h1 : ∀ i, i < ps.length → ∃ dv, w.cell? ⟨b, off + i * 2, none⟩ = some (.int .i64 ((mkTo k0 ps ps.length).getD i (0, [])).1) ∧ w.cell? ⟨b, off + i * 2 + 1, none⟩ = some dv ∧ View w lo hi .u8 dv ((mkTo k0 ps ps.length).getD i (0, [])).2) :
    Calls Tryd.prog 36 #[.slice (some ⟨b, off, none⟩) ps.length cap, .int .i64 k0] w fun e w' => e = .returned (.int .i64 ((k0 + cnt ps : Nat) : Int)) ∧ Same w w' := by
  go_enter Tryd.func36, Tryd.ntmps36
  go_wp2
  go_loopw [1, 5] (fun q i wr => Same w wr ∧ ∃ k : Nat, k ≤ ps.length ∧ i = .int .i64 k ∧ q = .int .i64 ((k0 + cnt (ps.take k) : Nat) : Int)) (fun _ i _ => ps.length - (intOf i).toNat)
  case atStart => exact ⟨Same.refl _, 0, Nat.zero_le _, rfl, rfl⟩
  case round =>
    obtain ⟨hal, k, hk, rfl, rfl⟩ := hrel
    by_cases hlt : k < ps.length
    · obtain ⟨d1, c1, c2, v1⟩ := h1 k hlt
      clear h1
      rw [mkTo_getD _ _ _ _ hlt, if_pos hlt] at c1 v1
      unfold mkW at c1 v1
      have hcs := cnt_take_succ ps k hlt
      have hcl := cnt_take_le ps (k + 1)
      have c1 := (hal.cell _).trans c1
      have c2 := (hal.cell _).trans c2
      have v1 := v1.same hal
      have hik : (k : Int) < (ps.length : Int) := by omega
      generalize cnt (ps.take k) = c at *
      generalize (ps.getD k (0, [])).2.length = n at *
      have hbd : k0 + c + 1 + n ≤ 140737488355328 := by omega
      have Hcs : Hid (cnt (ps.take (k + 1)) = c + (n + 1)) := hcs
      clear hcs hcl
      go_wp2_with fail
      rw [show (k0 : Int) + (c : Int) + 1 = ((k0 + c + 1 : Nat) : Int) from by omega]
      refine (heldByteS_calls _ (k0 + c + 1) n (by omega) v1).mono ?_
      rintro e w1 ⟨rfl, hs⟩
      have hs' := hal.trans hs
      clear hs hal v1 c1 c2
      go_wp2
      go_roundw
      case rel => exact ⟨hs', k + 1, by omega, by go_num, by rw [Hcs.out]; go_num⟩
      case measure => simp [intOf]; omega
    · obtain rfl : k = ps.length := by omega
      clear h1
      rw [List.take_length]
      go_wp2
      go_ret
      exact ⟨rfl, hal⟩

set_option maxRecDepth 20000 in
set_option maxHeartbeats 400000 in
theorem heldWriteS_none (w : World) (ao : Option Addr) (k0 cap : Nat) :
    Calls Tryd.prog 36 #[.slice ao 0 cap, .int .i64 k0] w fun e w' => e = .returned (.int .i64 (k0 : Int)) ∧ Same w w' := by
  go_enter Tryd.func36, Tryd.ntmps36
  go_wp2
  refine wp_loop_rounds 1 ?_; rw [rounds_succ]
  go_wp2
  go_ret
  exact ⟨rfl, Same.refl _⟩

theorem heldWriteS_calls (w : World) {lo hi : Nat} {a : Value} (ps : List Wr) (k0 : Nat) (hk0 : k0 + cnt ps ≤ 140737488355328) (h1 : PView w lo hi a (mkTo k0 ps ps.length)) :
    Calls Tryd.prog 36 #[a, .int .i64 k0] w fun e w' => e = .returned (.int .i64 ((k0 + cnt ps : Nat) : Int)) ∧ Same w w' := by
  obtain ⟨ao, cap, rfl, hl, _, h1⟩ := h1
  rw [mkTo_length] at *
  rcases h1 with h1 | ⟨x, off, rfl, _, _, h1⟩
  · obtain rfl : ps = [] := by have := congrArg List.length h1; rw [mkTo_length] at this; exact List.eq_nil_of_length_eq_zero this
    exact heldWriteS_none w ao k0 cap
  · exact heldWriteS_some w ps k0 lo hi x off cap (by have := cnt_ge ps; omega) hk0 h1

set_option maxRecDepth 20000 in
set_option maxHeartbeats 1000000 in
theorem heldDisk_calls (w : World) {v : Value} (d : Dsk) (k0 : Nat) {lo hi : Nat} (hk0 : k0 + cntD d ≤ 140737488355328) (h1 : DView w lo hi v (mkD k0 d)) :
    Calls Tryd.prog 9 #[v, .int .i64 k0] w fun r w' => r = .returned (.int .i64 ((k0 + cntD d : Nat) : Int)) ∧ Chg 0 0 w w' := by
  obtain ⟨dv, pv, rfl, v1, p1⟩ := h1
  unfold cntD at hk0
  go_enter Tryd.func9, Tryd.ntmps9
  go_wp2_with fail
  refine (heldByteS_calls _ k0 d.dur.length (by omega) (v1.chg (Chg.alloc (Chg.refl 0 0 w) _) (by omega))).mono ?_
  rintro e w1 ⟨rfl, hs⟩
  have hc : Chg 0 0 w w1 := (Chg.alloc (Chg.refl 0 0 w) _).trans (hs.chg 0 0)
  have p1 := p1.chg hc (by omega)
  have cc := fun p => hs.cell p
  clear hs v1
  go_wp2_with fail
  refine (heldWriteS_calls _ d.pend (k0 + d.dur.length) (by omega) p1).mono ?_
  rintro e w2 ⟨rfl, hs⟩
  have hc2 := hc.trans (hs.chg 0 0)
  clear hs hc p1 cc
  go_wp2
  go_ret
  exact ⟨ret_int (by unfold cntD; omega), hc2⟩

end Go.Proofs.YtmfkgnifkkkkiaaDoor

namespace Go.Proofs.YtmfkgnifkkkkiaaDoor
open Go.ChangeShapes Go.WideShapes Go.ChangeAt Go.RowKit Go.Joins

theorem array3 {α : Type} {cs : Array α} (h : cs.size = 3) : ∃ c0 c1 c2, cs = #[c0, c1, c2] := by
  obtain ⟨l⟩ := cs
  match l, h with
  | [c0, c1, c2], _ => exact ⟨c0, c1, c2, rfl⟩

set_option maxRecDepth 20000 in
theorem geo_of_trod {H : Type} {enc : TypeId × Value → H} {W : World} {base : Nat} {v : Value} {dd : DataW H} {p : List MemPlace} (hv : Value.okWide Tryd.prog W .any base 23 v)
    (h : DataW.Trod enc Tryd.prog W 0 (fun _ => true) true 23 v dd p) : ∃ b l n : Int, v = .agg #[.int .i64 b, .int .i64 l, .int .i64 n] := by
  obtain ⟨cs, rfl, hsz⟩ := okWide_struct Tryd.underlying23 hv
  obtain ⟨c0, c1, c2, rfl⟩ := array3 (hsz.trans (by kernel_rfl))
  obtain ⟨fuel, hf⟩ := h
  obtain ⟨xs, n, _, _, _, hlen, hx⟩ := DataW.trod_struct Tryd.underlying23 hf
  match xs, hlen with
  | [y0, y1, y2], _ =>
  have hc : Tryd.prog.cellsOf 2 = 1 := by kernel_rfl
  have t0 := hx 0 _ rfl
  have t1 := hx 1 _ rfl
  have t2 := hx 2 _ rfl
  obtain ⟨q0, h0, _⟩ := DataW.trod_int Tryd.underlying2 t0
  obtain ⟨q1, h1, _⟩ := DataW.trod_int Tryd.underlying2 t1
  obtain ⟨q2, h2, _⟩ := DataW.trod_int Tryd.underlying2 t2
  simp [hc, Value.cells] at h0 h1 h2
  exact ⟨q0, q1, q2, by rw [h0, h1, h2]⟩

end Go.Proofs.YtmfkgnifkkkkiaaDoor

namespace Go.Proofs.YtmfkgnifkkkkiaaDoor
open Go.ChangeShapes Go.WideShapes Go.ChangeAt Go.RowKit
theorem own : ownKnob Tryd.prog.godebug = none := by kernel_rfl
theorem laidOut : laidOutB Tryd.prog = true := by kernel_rfl
end Go.Proofs.YtmfkgnifkkkkiaaDoor

namespace Go.Proofs.YtmfkgnifkkkkiaaDoor
open Go.ChangeShapes Go.WideShapes Go.RowKit

/-- The magic. -/
theorem sys_of_laid {W : World} {r : List (String × DataW Unit)} (h : laidMet Tryd.prog (("loop.example/s01525/impl.systemMagic", .agg [.lit (.int .u8 102), .lit (.int .u8 115), .lit (.int .u8 121), .lit (.int .u8 115)]) :: r) W) :
    W.cell? ⟨0, 0, none⟩ = some (.int .u8 102) ∧ W.cell? ⟨0, 1, none⟩ = some (.int .u8 115) ∧ W.cell? ⟨0, 2, none⟩ = some (.int .u8 121) ∧ W.cell? ⟨0, 3, none⟩ = some (.int .u8 115) := by
  obtain ⟨ps, ⟨g0, t0, cs0, f0, p0, q0, hg0, ht0, hv0, hd0, _, _⟩, _, _⟩ := h
  have eg : Tryd.prog.globalNamed "loop.example/s01525/impl.systemMagic" = some 0 := by kernel_rfl
  obtain rfl := Option.some.inj (eg.symm.trans hg0)
  have et : (Tryd.prog.globals[(0 : Nat)]?).map (·.type) = some 60 := by kernel_rfl
  obtain rfl := Option.some.inj (et.symm.trans ht0)
  obtain ⟨xs, m, _, ex, hl, hn, hi⟩ := DataW.trod_array Tryd.underlying60 hd0
  have c1 : Tryd.prog.cellsOf 5 = 1 := by kernel_rfl
  rw [c1] at hi
  simp only [Nat.mul_one] at hi
  have hx : (xs.map (·.1)) = [.lit (.int .u8 102), .lit (.int .u8 115), .lit (.int .u8 121), .lit (.int .u8 115)] := by
    have := congrArg Prod.fst ex
    simpa using this.symm
  have cell : ∀ i n, i < 4 → (xs.map (·.1))[i]? = some (.lit (.int .u8 n)) → cs0[i]? = some (.int .u8 n) := by
    intro i n h4 hxi
    rw [List.getElem?_map] at hxi
    cases hxe : xs[i]? with
    | none => rw [hxe] at hxi; cases hxi
    | some x =>
      rw [hxe] at hxi
      have h1 := hi i h4
      rw [hxe] at h1
      obtain ⟨k, ek, ed, _⟩ := DataW.trod_int Tryd.underlying5 h1
      simp only [Option.map_some, Option.some.injEq] at hxi
      rw [ed] at hxi
      simp only [DataW.lit.injEq, Lit.int.injEq, true_and] at hxi
      have h0 : ((cs0.toList.drop i).take 1)[0]? = some (.int .u8 k) := by rw [ek]; rfl
      rw [List.getElem?_take, if_pos (by omega), List.getElem?_drop, Nat.add_zero, Array.getElem?_toList] at h0
      rw [h0, hxi]
  have v := fun i => World.var?_cell hg0 hv0 i
  refine ⟨?_, ?_, ?_, ?_⟩
  · rw [v 0]; exact cell 0 102 (by omega) (by rw [hx]; rfl)
  · rw [v 1]; exact cell 1 115 (by omega) (by rw [hx]; rfl)
  · rw [v 2]; exact cell 2 121 (by omega) (by rw [hx]; rfl)
  · rw [v 3]; exact cell 3 115 (by omega) (by rw [hx]; rfl)

end Go.Proofs.YtmfkgnifkkkkiaaDoor

namespace Go.Proofs.YtmfkgnifkkkkiaaDoor
open Go.ChangeShapes Go.WideShapes Go.RowKit

/-- The magic. -/
theorem jour_of_laid {W : World} {r : List (String × DataW Unit)} (h : laidMet Tryd.prog (("loop.example/s01525/impl.journalMagic", .agg [.lit (.int .u8 106), .lit (.int .u8 108), .lit (.int .u8 111), .lit (.int .u8 103)]) :: r) W) :
    W.cell? ⟨1, 0, none⟩ = some (.int .u8 106) ∧ W.cell? ⟨1, 1, none⟩ = some (.int .u8 108) ∧ W.cell? ⟨1, 2, none⟩ = some (.int .u8 111) ∧ W.cell? ⟨1, 3, none⟩ = some (.int .u8 103) := by
  obtain ⟨ps, ⟨g0, t0, cs0, f0, p0, q0, hg0, ht0, hv0, hd0, _, _⟩, _, _⟩ := h
  have eg : Tryd.prog.globalNamed "loop.example/s01525/impl.journalMagic" = some 1 := by kernel_rfl
  obtain rfl := Option.some.inj (eg.symm.trans hg0)
  have et : (Tryd.prog.globals[(1 : Nat)]?).map (·.type) = some 60 := by kernel_rfl
  obtain rfl := Option.some.inj (et.symm.trans ht0)
  obtain ⟨xs, m, _, ex, hl, hn, hi⟩ := DataW.trod_array Tryd.underlying60 hd0
  have c1 : Tryd.prog.cellsOf 5 = 1 := by kernel_rfl
  rw [c1] at hi
  simp only [Nat.mul_one] at hi
  have hx : (xs.map (·.1)) = [.lit (.int .u8 106), .lit (.int .u8 108), .lit (.int .u8 111), .lit (.int .u8 103)] := by
    have := congrArg Prod.fst ex
    simpa using this.symm
  have cell : ∀ i n, i < 4 → (xs.map (·.1))[i]? = some (.lit (.int .u8 n)) → cs0[i]? = some (.int .u8 n) := by
    intro i n h4 hxi
    rw [List.getElem?_map] at hxi
    cases hxe : xs[i]? with
    | none => rw [hxe] at hxi; cases hxi
    | some x =>
      rw [hxe] at hxi
      have h1 := hi i h4
      rw [hxe] at h1
      obtain ⟨k, ek, ed, _⟩ := DataW.trod_int Tryd.underlying5 h1
      simp only [Option.map_some, Option.some.injEq] at hxi
      rw [ed] at hxi
      simp only [DataW.lit.injEq, Lit.int.injEq, true_and] at hxi
      have h0 : ((cs0.toList.drop i).take 1)[0]? = some (.int .u8 k) := by rw [ek]; rfl
      rw [List.getElem?_take, if_pos (by omega), List.getElem?_drop, Nat.add_zero, Array.getElem?_toList] at h0
      rw [h0, hxi]
  have v := fun i => World.var?_cell hg0 hv0 i
  refine ⟨?_, ?_, ?_, ?_⟩
  · rw [v 0]; exact cell 0 106 (by omega) (by rw [hx]; rfl)
  · rw [v 1]; exact cell 1 108 (by omega) (by rw [hx]; rfl)
  · rw [v 2]; exact cell 2 111 (by omega) (by rw [hx]; rfl)
  · rw [v 3]; exact cell 3 103 (by omega) (by rw [hx]; rfl)

end Go.Proofs.YtmfkgnifkkkkiaaDoor
