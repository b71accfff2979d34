/- Mkfs of the model: what lies in memory; l2Block. (made by tools/mkms.py) -/
import Derived.Test.YtmfkgnifkkkkiaaDoorBytesOf
import Derived.Test.YtmfkgnifkkkkiaaDoorGeoSpec
import Derived.Test.YtmfkgnifkkkkiaaDoorAppSeen
import Derived.Test.YtmfkgnifkkkkiaaDoorBitSpec
import Derived.Test.YtmfkgnifkkkkiaaDoorSteps
import Derived.Test.YtmfkgnifkkkkiaaDoorFlat
import Derived.Test.YtmfkgnifkkkkiaaDoorInoEnc
import Derived.Test.YtmfkgnifkkkkiaaDoorImplNext
import Derived.Test.YtmfkgnifkkkkiaaDoorMkMath
import Derived.Test.YtmfkgnifkkkkiaaDoorImplMk
namespace Go.Proofs.YtmfkgnifkkkkiaaDoor
open Go.RowKit

/-- What lies in memory while the model makes a disk. -/
structure Ms (w x : World) (PB gD DB N cp b l n im bm mb tb tn D : Nat) (dn : Int) (cur : List Int) : Prop where
  g0 : x.heap[w.heap.size]? = some (.cells #[.int .i64 (b : Int), .int .i64 (l : Int), .int .i64 (n : Int)] 29 (0, 0))
  r0 : x.heap[w.heap.size + 1]? = some (.cells #[.slice none 0 0, .slice none 0 0] 27 (0, 0))
  pb : x.heap[PB]? = some (.cells #[.int .i64 (im : Int), .int .i64 (bm : Int), .int .i64 (mb : Int), .int .i64 (tb : Int), .int .i64 (tn : Int), .int .i64 (D : Int), .int .i64 dn] 36 (0, 0))
  db : x.heap[DB]? = some (.cells #[.slice (some ⟨gD, 0, none⟩) N cp, .slice none 0 0] 27 (0, 0))
  dr : OwnB x (w.heap.size + 2) 5 (.slice (some ⟨gD, 0, none⟩) N cp) cur
  lo : w.heap.size + 1 < PB ∧ PB < gD ∧ gD < DB
  ch : Chg 0 0 w x
theorem Ms.lt {w x : World} {PB gD DB N cp b l n im bm mb tb tn D : Nat} {dn : Int} {cur : List Int} (h : Ms w x PB gD DB N cp b l n im bm mb tb tn D dn cur) : DB < x.heap.size := (Array.getElem?_eq_some_iff.1 h.db).1
theorem Ms.chg {w x : World} {PB gD DB N cp b l n im bm mb tb tn D : Nat} {dn : Int} {cur : List Int} {y : World} (h : Ms w x PB gD DB N cp b l n im bm mb tb tn D dn cur) (c : Chg 0 0 x y) : Ms w y PB gD DB N cp b l n im bm mb tb tn D dn cur :=
  have h1 := h.lt
  have h2 := h.lo
  ⟨(c.block _ (by omega) (by omega)).trans h.g0, (c.block _ (by omega) (by omega)).trans h.r0, (c.block _ (by omega) (by omega)).trans h.pb, (c.block _ (by omega) (by omega)).trans h.db, h.dr.chg c (by intro g _; omega), h.lo, h.ch.trans c⟩
theorem Ms.put {w x : World} {PB gD DB N cp b l n im bm mb tb tn D : Nat} {dn : Int} {cur : List Int} {y : World} {cur' : List Int} (h : Ms w x PB gD DB N cp b l n im bm mb tb tn D dn cur) (c : Chg gD (gD + 1) x y) (hb : OwnB y (w.heap.size + 2) 5 (.slice (some ⟨gD, 0, none⟩) N cp) cur') : Ms w y PB gD DB N cp b l n im bm mb tb tn D dn cur' :=
  have h1 := h.lt
  have h2 := h.lo
  ⟨(c.block _ (by omega) (by omega)).trans h.g0, (c.block _ (by omega) (by omega)).trans h.r0, (c.block _ (by omega) (by omega)).trans h.pb, (c.block _ (by omega) (by omega)).trans h.db, hb, h.lo, h.ch.step c (by omega)⟩

/-- l1Put onto the disk that is made. -/
theorem Ms.l1Put {w x : World} {PB gD DB N cp b l n im bm mb tb tn D : Nat} {dn : Int} {cur : List Int} (h : Ms w x PB gD DB N cp b l n im bm mb tb tn D dn cur) (hN : cur.length = N) (hN2 : N ≤ 1048576) (ys : List Int) (hy : ys.length = 64) (q : Nat) (hq : q * 64 + 64 ≤ N) {v : Value} (hv : OwnB x (DB + 1) 5 v ys) :
    Calls Tryd.prog 13 #[.slice (some ⟨gD, 0, none⟩) N cp, .int .i64 (q : Int), v] x fun e y => e = .returned (.tuple #[]) ∧ Ms w y PB gD DB N cp b l n im bm mb tb tn D dn (splice cur (q * 64) ys) ∧ (splice cur (q * 64) ys).length = N ∧ Chg gD (gD + 1) x y := by
  subst hN
  have h2 := h.lo
  refine (l1Put_calls x cur ys q h.dr (hv.view (by omega) (hi := x.heap.size) (fun g hg => (hv.lt g hg).2)) hy hq hN2 (Or.inl (by omega))).mono ?_
  rintro e y ⟨rfl, ho, hc⟩
  exact ⟨rfl, h.put hc ho, splice_lenI (by omega) rfl, hc⟩

set_option maxHeartbeats 1000000 in
theorem l2Block_calls (w : World) {lo hi g cap k : Nat} {ys : List Int} (h : View w lo hi .u8 (.slice (some ⟨g, 0, none⟩) ys.length cap) ys) (hk : 64 * k + 64 ≤ ys.length) (hl : ys.length ≤ 1048576) :
    Calls Tryd.prog 18 #[.slice (some ⟨g, 0, none⟩) ys.length cap, .int .i64 (k : Int)] w fun e w' => ∃ v, e = .returned v ∧ OwnB w' w.heap.size 5 v (blkOf ys k) ∧ Chg 0 0 w w' := by
  obtain ⟨hc0, hc1⟩ : ys.length ≤ cap ∧ cap ≤ cap := by
    obtain ⟨ao, c', e, _, hc, _⟩ := h
    simp only [Value.slice.injEq] at e
    obtain ⟨_, _, rfl⟩ := e
    exact ⟨hc.1, Nat.le_refl _⟩
  have HVk : Hid (View w lo hi .u8 (.slice (some ⟨g, 0 + 64 * k, none⟩) 64 (cap - 64 * k)) (blkOf ys k)) := View.part h hk (by omega) (cap - 64 * k) (by omega)
  obtain ⟨m, hm⟩ : ∃ m : Nat, m = 64 * k := ⟨_, rfl⟩
  have Hm : Hid (m = 64 * k) := hm
  rw [← hm, Nat.zero_add] at HVk
  rw [← hm] at hk
  have hN := l1Copy_calls w (by unfold blkOf; rw [List.length_take]; omega) HVk.out
  have e1 : (k : Int) * 64 = (m : Int) := by omega
  have e2 : ((k : Int) + 1) * 64 = (m : Int) + 64 := by omega
  have e3 : IntKind.i64.wrap ((k : Int) + 1) = (k : Int) + 1 := by rw [IntKind.wrap_i64]; omega
  have e4 : IntKind.i64.wrap (m : Int) = (m : Int) := by rw [IntKind.wrap_i64]; omega
  have e5 : IntKind.i64.wrap ((m : Int) + 64) = (m : Int) + 64 := by rw [IntKind.wrap_i64]; omega
  have q1 : (0 : Int) ≤ (m : Int) + 64 := by omega
  have q2 : (m : Int) + 64 ≤ (cap : Int) := by omega
  have q3 : ¬ cap = m := by omega
  have q4 : (m : Int) ≤ max ((m : Int) + 64) 0 := by omega
  have q5 : ((m : Int) + 64).toNat - m = 64 := by omega
  generalize blkOf ys k = zs at *
  generalize ys.length = L at *
  clear hm h hc1
  go_enter Tryd.func18, Tryd.ntmps18
  go_wp2_with fail
  refine hN.mono ?_
  rintro e w1 ⟨v, rfl, ho, hc⟩
  have HO : Hid (OwnB w1 w.heap.size 5 v zs) := ho
  clear ho
  go_wp2
  go_ret
  exact ⟨_, rfl, HO.out, hc⟩

end Go.Proofs.YtmfkgnifkkkkiaaDoor
