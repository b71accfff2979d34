/- Several short texts in one: HomeMark, OpenLog, OpenP, LaidG. -/
import Derived.Test.YtkkbaedlfijlmaaGreatDoorMarkB
import Derived.Test.YtkkbaedlfijlmaaGreatDoorRows
import Derived.Test.YtkkbaedlfijlmaaGreatDoorMem
import Derived.ProofKit
import Derived.OpenShut
import Derived.Carry
import Derived.ChangeOld
import Derived.Below
import Derived.Lib.SmallJoins
import Derived.Deep.SlicePairs
import Derived.Test.YtkkbaedlfijlmaaGreatDoorSmall
import Derived.ChangeSame
import Derived.ChangeVars
import Derived.OpenVars
import Derived.JoinedOf
import Derived.RowKitTokens
import Derived.LaidLaws
import Derived.LaidHandle
import Derived.Stop.LaidErr
import Derived.Stop.Joined
namespace Go.Proofs.YtkkbaedlfijlmaaGreatDoor
open Go.RowKit

set_option maxRecDepth 20000 in
set_option maxHeartbeats 1000000 in
theorem markHomeS_some (w : World) (base : Nat) (eW eB : TypeId) (hE : eW ≠ eB) (ps : List Wr) (k0 g cap lo hi : Nat) (hl : ps.length ≤ 140737488355328) (hk0 : k0 + cnt ps ≤ 140737488355328)
    (cells : List Value) (dvs : Nat → Value) (h1 : OwnPx w base eW eB (.slice (some ⟨g, 0, none⟩) ps.length cap) ps cells dvs) (hg : lo ≤ g ∧ g < hi)
    (hb : ∀ i g', i < ps.length → (dvs i).ownBlock = some g' → lo ≤ g' ∧ g' < hi) :
    Calls Tryz.prog 11 #[.slice (some ⟨g, 0, none⟩) ps.length cap, .int .i64 k0] w fun r w' => r = .returned (.int .i64 ((k0 + cnt ps : Nat) : Int)) ∧
      (∃ cells', OwnPx w' base eW eB (.slice (some ⟨g, 0, none⟩) ps.length cap) (mkTo k0 ps ps.length) cells' dvs) ∧ Chg lo hi w w' ∧ (∀ m, m ≠ g → (∀ i, i < ps.length → (dvs i).ownBlock ≠ some m) → m < w.heap.size → w'.heap[m]? = w.heap[m]?) := by
  go_enter Tryz.func11, Tryz.ntmps11
  go_wp2
  go_loopw [1, 5] (fun q i wr => ∃ k : Nat, k ≤ ps.length ∧ i = .int .i64 k ∧ q = .int .i64 ((k0 + cnt (ps.take k) : Nat) : Int) ∧
      (∃ cells', OwnPx wr base eW eB (.slice (some ⟨g, 0, none⟩) ps.length cap) (mkTo k0 ps k) cells' dvs) ∧ Chg lo hi w wr ∧ (∀ m, m ≠ g → (∀ i, i < ps.length → (dvs i).ownBlock ≠ some m) → m < w.heap.size → wr.heap[m]? = w.heap[m]?)) (fun _ i _ => ps.length - (intOf i).toNat)
  case atStart => exact ⟨0, Nat.zero_le _, rfl, rfl, ⟨cells, by rw [mkTo_zero]; exact h1⟩, Chg.refl _ _ _, fun _ _ _ _ => rfl⟩
  case round =>
    obtain ⟨k, hk, rfl, rfl, ⟨cells', hown⟩, hch, hrest⟩ := hrel
    clear h1
    by_cases hlt : k < ps.length
    · have hrow := hown.row
      rw [mkTo_length] at hrow
      have hlen : cells'.length = ps.length * 2 := hrow.1
      have c0 : wr.cell? ⟨g, k * 2, none⟩ = some (.int .i64 ((mkTo k0 ps k).getD k (0, [])).1) := by
        rw [World.ownsRow.cellAt hrow (k * 2) (by omega)]; exact hown.at0 k (by rw [mkTo_length]; exact hlt)
      have c1 : wr.cell? ⟨g, k * 2 + 1, none⟩ = some (dvs k) := by
        rw [World.ownsRow.cellAt hrow (k * 2 + 1) (by omega)]; exact hown.at1 k (by rw [mkTo_length]; exact hlt)
      have f0 : wr.frozen? ⟨g, k * 2, none⟩ = false := World.ownsRow.frozenAt hrow (k * 2)
      have hik : (k : Int) < (ps.length : Int) := by omega
      have hcs := cnt_take_succ ps k hlt
      have hcl := cnt_take_le ps (k + 1)
      have hd := hown.data_set hE (k * 2) (.int .i64 ((k0 : Int) + (cnt (ps.take k) : Int))) (i := k) (by rw [mkTo_length]; exact hlt)
      have hold : (mkTo k0 ps k).getD k (0, []) = ps.getD k (0, []) := by rw [mkTo_getD _ _ _ _ hlt, if_neg (Nat.lt_irrefl _)]
      rw [hold] at c0 hd
      have HW : Hid (mkW k0 ps k = (((k0 + cnt (ps.take k) : Nat) : Int), marks (k0 + cnt (ps.take k) + 1) (ps.getD k (0, [])).2.length)) := rfl
      clear hold hrow
      generalize hc : cnt (ps.take k) = c at *
      generalize ps.getD k (0, []) = old at *
      have Hc : Hid (cnt (ps.take k) = c) := hc
      clear hc
      have hbd : k0 + c + 1 + old.2.length ≤ 140737488355328 := by omega
      have Hcs : Hid (cnt (ps.take (k + 1)) = c + (old.2.length + 1)) := hcs
      clear hcs hcl
      go_wp2_with fail
      rw [show (k0 : Int) + (c : Int) + 1 = ((k0 + c + 1 : Nat) : Int) from by omega]
      refine (markByteS_calls _ base eB (dvs k) old.2 (k0 + c + 1) lo hi (by omega) (by omega) hd (hb k · hlt)).mono ?_
      rintro e w2 ⟨rfl, ho, hc1, hc2, hc3⟩
      have hset : (k0 : Int) + (c : Int) = ((k0 + c : Nat) : Int) := by omega
      rw [hset] at hc1 hc2 hc3
      have R1 := hown.step (mkTo_length _ _ _) hlt hE ((k0 + c : Nat) : Int) _ ho hc2 hc3
      rw [← HW.out, mkTo_succ] at R1
      have R2 : Chg lo hi w w2 := (hch.setCell (p := ⟨g, k * 2, none⟩) (Or.inl hg) _).trans hc1
      have R3 : ∀ m, m ≠ g → (∀ i, i < ps.length → (dvs i).ownBlock ≠ some m) → m < w.heap.size → w2.heap[m]? = w.heap[m]? := by
        intro m hm hm2 hm3
        rw [← hrest m hm hm2 hm3, ← Below.heap_setCell wr ⟨g, k * 2, none⟩ (.int .i64 ((k0 + c : Nat) : Int)) m hm]
        cases hb : (dvs k).ownBlock with
        | none => rw [hc3 hb]
        | some g' =>
          refine (hc2 g' hb).block m (Nat.lt_of_lt_of_le hm3 (by have := hch.size; simpa [World.setCell] using this)) ?_
          have : m ≠ g' := fun e => hm2 k hlt (by rw [e]; exact hb)
          omega
      have HR : Hid (∃ cells'', OwnPx w2 base eW eB (.slice (some ⟨g, 0, none⟩) ps.length cap) (mkTo k0 ps (k + 1)) cells'' dvs) := ⟨_, R1⟩
      have HR3 : Hid (∀ m, m ≠ g → (∀ i, i < ps.length → (dvs i).ownBlock ≠ some m) → m < w.heap.size → w2.heap[m]? = w.heap[m]?) := R3
      clear R1 R3 hc1 hc2 hc3 ho hown hrest hch c0 c1 f0 hd hset HW
      go_wp2
      go_roundw
      case rel => exact ⟨k + 1, by omega, by go_num, by rw [Hcs.out]; go_num, HR.out, R2, HR3.out⟩
      case measure => simp [intOf]; omega
    · obtain rfl : k = ps.length := by omega
      have H1 : Hid (∃ cells'', OwnPx wr base eW eB (.slice (some ⟨g, 0, none⟩) ps.length cap) (mkTo k0 ps ps.length) cells'' dvs) := ⟨_, hown⟩
      have H2 : Hid (∀ m, m ≠ g → (∀ i, i < ps.length → (dvs i).ownBlock ≠ some m) → m < w.heap.size → wr.heap[m]? = w.heap[m]?) := hrest
      rw [List.take_length]
      clear hown hrest
      go_wp2
      go_ret
      exact ⟨rfl, H1.out, hch, H2.out⟩

set_option maxRecDepth 20000 in
set_option maxHeartbeats 400000 in
theorem markHomeS_none (w : World) (ao : Option Addr) (k0 cap : Nat) :
    Calls Tryz.prog 11 #[.slice ao 0 cap, .int .i64 k0] w fun r w' => r = .returned (.int .i64 (k0 : Int)) ∧ w' = w := by
  go_enter Tryz.func11, Tryz.ntmps11
  go_wp2
  refine wp_loop_rounds 1 ?_; rw [rounds_succ]
  go_wp2
  go_ret
  exact ⟨rfl, rfl⟩

/-- Behind markWriteS the writes bear the marks; nothing else has turned. -/
theorem markHomeS_calls (w : World) (base : Nat) (eW eB : TypeId) (hE : eW ≠ eB) (v : Value) (ps : List Wr) (k0 lo hi : Nat) (hl : ps.length ≤ 140737488355328) (hk0 : k0 + cnt ps ≤ 140737488355328)
    (cells : List Value) (dvs : Nat → Value) (h1 : OwnPx w base eW eB v ps cells dvs) (hg : ∀ g, v.ownBlock = some g → lo ≤ g ∧ g < hi)
    (hb : ∀ i g', i < ps.length → (dvs i).ownBlock = some g' → lo ≤ g' ∧ g' < hi) :
    Calls Tryz.prog 11 #[v, .int .i64 k0] w fun r w' => r = .returned (.int .i64 ((k0 + cnt ps : Nat) : Int)) ∧
      (∃ cells', OwnPx w' base eW eB v (mkTo k0 ps ps.length) cells' dvs) ∧ Chg lo hi w w' ∧ (∀ m, v.ownBlock ≠ some m → (∀ i, i < ps.length → (dvs i).ownBlock ≠ some m) → m < w.heap.size → w'.heap[m]? = w.heap[m]?) := by
  rcases h1.row.2 with ⟨rfl, hn⟩ | ⟨g, cap, cur, rfl, _⟩
  · obtain rfl : ps = [] := List.eq_nil_of_length_eq_zero hn
    refine (markHomeS_none w none k0 0).mono ?_
    rintro r w' ⟨rfl, rfl⟩
    exact ⟨rfl, ⟨cells, by simpa [mkTo] using h1⟩, Chg.refl _ _ _, fun _ _ _ _ => rfl⟩
  · refine (markHomeS_some w base eW eB hE ps k0 g cap lo hi hl hk0 cells dvs h1 (hg g rfl) hb).mono ?_
    rintro r w' ⟨rfl, ho, hc, hr⟩
    exact ⟨rfl, ho, hc, fun m hm => hr m (fun e => hm (by rw [e]; rfl))⟩

end Go.Proofs.YtkkbaedlfijlmaaGreatDoor

namespace Go.Proofs.YtkkbaedlfijlmaaGreatDoor
open Go.ChangeShapes Go.WideShapes Go.ChangeAt Go.RowKit Go.Joins

theorem array5 {α : Type} {cs : Array α} (h : cs.size = 5) : ∃ c0 c1 c2 c3 c4, cs = #[c0, c1, c2, c3, c4] := by
  obtain ⟨l⟩ := cs
  match l, h with
  | [c0, c1, c2, c3, c4], _ => exact ⟨c0, c1, c2, c3, c4, rfl⟩

set_option maxRecDepth 20000 in
theorem log_of_trod {H : Type} {enc : TypeId × Value → H} {W : World} {base : Nat} {v : Value} {dd : DataW H} {p : List MemPlace} (hv : Value.okWide Tryz.prog W .any base 23 v)
    (h : DataW.Trod enc Tryz.prog W 0 (fun _ => true) true 23 v dd p) : ∃ sz st sq hd us : Int, v = .agg #[.int .i64 sz, .int .i64 st, .int .i64 sq, .int .i64 hd, .int .i64 us] := by
  obtain ⟨cs, rfl, hsz⟩ := okWide_struct Tryz.underlying23 hv
  obtain ⟨c0, c1, c2, c3, c4, rfl⟩ := array5 (hsz.trans (by kernel_rfl))
  obtain ⟨fuel, hf⟩ := h
  obtain ⟨xs, n, _, _, _, hlen, hx⟩ := DataW.trod_struct Tryz.underlying23 hf
  match xs, hlen with
  | [y0, y1, y2, y3, y4], _ =>
  have hc : Tryz.prog.cellsOf 2 = 1 := by kernel_rfl
  have t0 := hx 0 _ rfl
  have t1 := hx 1 _ rfl
  have t2 := hx 2 _ rfl
  have t3 := hx 3 _ rfl
  have t4 := hx 4 _ rfl
  obtain ⟨q0, h0, _⟩ := DataW.trod_int Tryz.underlying2 t0
  obtain ⟨q1, h1, _⟩ := DataW.trod_int Tryz.underlying2 t1
  obtain ⟨q2, h2, _⟩ := DataW.trod_int Tryz.underlying2 t2
  obtain ⟨q3, h3, _⟩ := DataW.trod_int Tryz.underlying2 t3
  obtain ⟨q4, h4, _⟩ := DataW.trod_int Tryz.underlying2 t4
  simp [hc, Value.cells] at h0 h1 h2 h3 h4
  exact ⟨q0, q1, q2, q3, q4, by rw [h0, h1, h2, h3, h4]⟩

end Go.Proofs.YtkkbaedlfijlmaaGreatDoor

namespace Go.Proofs.YtkkbaedlfijlmaaGreatDoor
open Go.ChangeShapes Go.WideShapes Go.ChangeAt Go.RowKit Go.Joins Go.Deep

theorem own : ownKnob Tryz.prog.godebug = none := by kernel_rfl
theorem laidOut : laidOutB Tryz.prog = true := by kernel_rfl

theorem addr_plain {w : World} {a : Addr} {x : Value} {i : Nat} (h : w.cell? (a.add 0) = some x) : a.add i = ⟨a.block, a.off + i, none⟩ ∧ a = ⟨a.block, a.off, none⟩ := by
  obtain ⟨b, off, spot⟩ := a
  have hspot : spot = none := by simpa [Addr.add] using World.cell?_spot h
  subst hspot
  exact ⟨Go.WideShapes.add_plain _ _ _, rfl⟩

/-- A slice of numbers that came in. -/
theorem view_of_trod {H : Type} {enc : TypeId × Value → H} {W : World} {fuel t e : Nat} {k : IntKind} {v : Value} {x : DataW H × List MemPlace} (ht : Tryz.prog.underlying t = some (.slice e)) (he : Tryz.prog.underlying e = some (.int k)) (hc : Tryz.prog.cellsOf e = 1)
    (h : DataW.trod enc Tryz.prog W 0 (fun _ => true) true fuel t [v] = some x) : ∃ xs, View W 0 W.heap.size k v xs := by
  rcases open_ints ht he hc h with ⟨hcs, _⟩ | ⟨a, len, cap, zs, hcs, _, hl, hm, hz, _, hcell, _⟩
  · simp at hcs; subst hcs; exact ⟨[], View.nil _ _ _ _⟩
  · simp at hcs hz; subst hcs
    unfold maxLen at hm
    refine ⟨zs.take len, some a, cap, by rw [List.length_take, Nat.min_eq_left (by omega)], by rw [List.length_take]; omega, ⟨by rw [List.length_take]; omega, by simp⟩, ?_⟩
    by_cases h0 : len = 0
    · left; subst h0; rfl
    · right
      obtain ⟨b, off, rfl, hc2⟩ := ints_at hcell (by omega)
      refine ⟨b, off, rfl, Nat.zero_le _, lt_of_cell (hc2 0 (by omega)), fun i hi => ?_⟩
      rw [List.length_take] at hi
      rw [hc2 i (by omega)]
      simp only [List.getD_eq_getElem?_getD, List.getElem?_take]
      rw [if_pos (by omega)]

/-- A slice of writes that came in. -/
theorem pview_of_trod {H : Type} {enc : TypeId × Value → H} {W : World} {fuel t e ti ts tb : Nat} {f0 f1 : Field} {v : Value} {x : DataW H × List MemPlace} (ht : Tryz.prog.underlying t = some (.slice e)) (he : Tryz.prog.underlying e = some (.struct #[f0, f1]))
    (ce : Tryz.prog.cellsOf e = 2) (o0 : f0.offset = 0) (o1 : f1.offset = 1) (e0 : f0.type = ti) (e1 : f1.type = ts) (c0 : Tryz.prog.cellsOf ti = 1) (c1 : Tryz.prog.cellsOf ts = 1)
    (hi : Tryz.prog.underlying ti = some (.int .i64)) (hs : Tryz.prog.underlying ts = some (.slice tb)) (hb : Tryz.prog.underlying tb = some (.int .u8)) (hcb : Tryz.prog.cellsOf tb = 1)
    (h : DataW.trod enc Tryz.prog W 0 (fun _ => true) true fuel t [v] = some x) : ∃ ps, PView W 0 W.heap.size v ps := by
  subst e0 e1
  rcases open_slice_pairs ht he ce o0 o1 c0 c1 h with ⟨hcs, _⟩ | ⟨a, len, cap, m, n, V0, V1, D0, D1, P0, P1, hcs, _, hl, hm, hmm, _, hx⟩
  · simp at hcs; subst hcs; exact ⟨[], PView.nil _ _ _⟩
  · simp at hcs hmm; subst hcs
    subst hmm
    unfold maxLen at hm
    by_cases h0 : len = 0
    · subst h0; exact ⟨[], some a, m, rfl, by simp, by simp, Or.inl rfl⟩
    have hp : ∀ i, a.add i = ⟨a.block, a.off + i, none⟩ := fun i => (addr_plain (i := i) (by simpa using (hx 0 (by omega)).1)).1
    have hp0 : a = ⟨a.block, a.off, none⟩ := (addr_plain (i := 0) (by simpa using (hx 0 (by omega)).1)).2
    have each : ∀ i, i < len → ∃ p : Wr, V0 i = .int .i64 p.1 ∧ View W 0 W.heap.size .u8 (V1 i) p.2 := by
      intro i hi'
      obtain ⟨_, _, t0, t1⟩ := hx i (by omega)
      obtain ⟨q, hq, _, _⟩ := DataW.trod_int hi t0
      obtain ⟨xs, hxs⟩ := view_of_trod hs hb hcb t1
      simp at hq
      exact ⟨(q, xs), hq, hxs⟩
    obtain ⟨f, hf⟩ := choose_lt each
    have hlen : ((List.range len).map f).length = len := by simp
    refine ⟨(List.range len).map f, some a, m, by rw [hlen], by rw [hlen]; omega, by rw [hlen]; exact hl, Or.inr ⟨a.block, a.off, by rw [← hp0], Nat.zero_le _, ?_, ?_⟩⟩
    · have := (hx 0 (by omega)).1
      rw [hp] at this
      exact lt_of_cell this
    · intro i hi'
      rw [hlen] at hi'
      obtain ⟨k0, k1, _, _⟩ := hx i (by omega)
      obtain ⟨g0, g1⟩ := hf i hi'
      have eg : ((List.range len).map f).getD i (0, []) = f i := by simp [List.getD_eq_getElem?_getD, hi']
      rw [hp] at k0 k1
      rw [eg]
      exact ⟨V1 i, by rw [k0, g0], by rw [← k1, Nat.add_assoc], g1⟩

end Go.Proofs.YtkkbaedlfijlmaaGreatDoor

namespace Go.Proofs.YtkkbaedlfijlmaaGreatDoor
open Go.ChangeShapes Go.WideShapes Go.RowKit

theorem lg_et : Tryz.prog.globalNamed "errors.errorType" = some 1 := by kernel_rfl
theorem lg_rt : (Tryz.prog.cutTypes.find? (·.1 == "internal/reflectlite.rtype")).map (·.2) = some 103 := by kernel_rfl
theorem lg_oneRow : ((List.range 192).filter fun t => Tryz.prog.rowNamed t [101, 114, 114, 111, 114]) = [78] := by kernel_rfl
theorem lg_size : Tryz.prog.types.size = 192 := by kernel_rfl

theorem lg_star : "*" ++ "errors.errorString" = "*errors.errorString" := by decide
theorem lg_row (u : TypeId) (h : Tryz.prog.typeName? 3 u = some "*errors.errorString") : u = 174 :=
  typeName_ptr_named (nm := "errors.errorString") (by rw [lg_star]; kernel_rfl) (by kernel_rfl) (by decide) u (by rw [lg_star]; exact h)

/-- The handle. -/
theorem errT_of_handles {W : World} {hs : List (String × DataW Unit)} (h : handlesMet Tryz.prog hs W) (hm : ("errors.errorType", Rows.laid_errors_errorType) ∈ hs) : ErrT W := by
  have hx := h _ hm
  simp only at hx
  obtain ⟨name, u, ty, e1, e2, e3, e4, e5⟩ := hx
  have en : name = [101, 114, 114, 111, 114] := (Option.some.inj e1).symm
  subst en
  obtain rfl := Option.some.inj (lg_rt.symm.trans e2)
  have hmm : ty ∈ (List.range 192).filter fun t => Tryz.prog.rowNamed t [101, 114, 114, 111, 114] := List.mem_filter.2 ⟨List.mem_range.2 (by rw [← lg_size]; exact e3), e4⟩
  rw [lg_oneRow] at hmm
  obtain rfl := List.mem_singleton.1 hmm
  have hh : typeHandle Tryz.prog 78 = .pointer (some ⟨3, 78, none⟩) := by kernel_rfl
  rw [hh] at e5
  simpa [ErrT] using World.var?_cell lg_et e5 0

/-- A sentinel. -/
theorem sent_of_laid {W : World} {n : String} {text : List UInt8} {r : List (String × DataW Unit)} {g : Nat} (h : laidMet Tryz.prog ((n, .iface "*errors.errorString" (.ptr (.agg [.lit (.string text)]))) :: r) W)
    (hg : Tryz.prog.globalNamed n = some g) (ht : (Tryz.prog.globals[g]?).map (·.type) = some 78) : ∃ a, W.cell? ⟨g, 0, none⟩ = some (.iface 174 (.pointer (some a))) := by
  obtain ⟨a, s, hv, _⟩ := laid_sentinel h hg ht Tryz.underlying78 lg_row Tryz.underlying174 Tryz.underlying180 rfl rfl Tryz.underlying9 (by kernel_rfl) (by kernel_rfl)
  exact ⟨a, by simpa using World.var?_cell hg hv 0⟩

/-- The magic. -/
theorem magic_of_laid {W : World} {r : List (String × DataW Unit)} (h : laidMet Tryz.prog (("loop.example/s01525/impl.journalMagic", .agg [.lit (.int .u8 106), .lit (.int .u8 108), .lit (.int .u8 111), .lit (.int .u8 103)]) :: r) W) :
    W.cell? ⟨0, 0, none⟩ = some (.int .u8 106) ∧ W.cell? ⟨0, 1, none⟩ = some (.int .u8 108) ∧ W.cell? ⟨0, 2, none⟩ = some (.int .u8 111) ∧ W.cell? ⟨0, 3, none⟩ = some (.int .u8 103) := by
  obtain ⟨ps, ⟨g0, t0, cs0, f0, p0, q0, hg0, ht0, hv0, hd0, _, _⟩, _, _⟩ := h
  have eg : Tryz.prog.globalNamed "loop.example/s01525/impl.journalMagic" = some 0 := by kernel_rfl
  obtain rfl := Option.some.inj (eg.symm.trans hg0)
  have et : (Tryz.prog.globals[(0 : Nat)]?).map (·.type) = some 66 := by kernel_rfl
  obtain rfl := Option.some.inj (et.symm.trans ht0)
  obtain ⟨xs, m, _, ex, hl, hn, hi⟩ := DataW.trod_array Tryz.underlying66 hd0
  have c1 : Tryz.prog.cellsOf 5 = 1 := by kernel_rfl
  rw [c1] at hi
  simp only [Nat.mul_one] at hi
  have hx : (xs.map (·.1)) = [.lit (.int .u8 106), .lit (.int .u8 108), .lit (.int .u8 111), .lit (.int .u8 103)] := by
    have := congrArg Prod.fst ex
    simpa using this.symm
  have cell : ∀ i n, i < 4 → (xs.map (·.1))[i]? = some (.lit (.int .u8 n)) → cs0[i]? = some (.int .u8 n) := by
    intro i n h4 hxi
    rw [List.getElem?_map] at hxi
    cases hxe : xs[i]? with
    | none => rw [hxe] at hxi; cases hxi
    | some x =>
      rw [hxe] at hxi
      have h1 := hi i h4
      rw [hxe] at h1
      obtain ⟨k, ek, ed, _⟩ := DataW.trod_int Tryz.underlying5 h1
      simp only [Option.map_some, Option.some.injEq] at hxi
      rw [ed] at hxi
      simp only [DataW.lit.injEq, Lit.int.injEq, true_and] at hxi
      have h0 : ((cs0.toList.drop i).take 1)[0]? = some (.int .u8 k) := by rw [ek]; rfl
      rw [List.getElem?_take, if_pos (by omega), List.getElem?_drop, Nat.add_zero, Array.getElem?_toList] at h0
      rw [h0, hxi]
  have v := fun i => World.var?_cell hg0 hv0 i
  refine ⟨?_, ?_, ?_, ?_⟩
  · rw [v 0]; exact cell 0 106 (by omega) (by rw [hx]; rfl)
  · rw [v 1]; exact cell 1 108 (by omega) (by rw [hx]; rfl)
  · rw [v 2]; exact cell 2 111 (by omega) (by rw [hx]; rfl)
  · rw [v 3]; exact cell 3 103 (by omega) (by rw [hx]; rfl)

end Go.Proofs.YtkkbaedlfijlmaaGreatDoor
