/- Several short texts in one: Ints, SzI, TxnBase. -/
import Derived.Test.YteligghapkleaaaGreatDoorRows
import Derived.Test.YteligghapkleaaaGreatDoorGoodBlk
import Derived.Test.YteligghapkleaaaGreatDoorToB
import Derived.Test.YteligghapkleaaaGreatDoorHomeEq
namespace Go.Proofs.YteligghapkleaaaGreatDoor
open Go.RowKit

set_option maxRecDepth 20000 in
set_option maxHeartbeats 400000 in
theorem eqInt64S_some (w : World) (xs : List Int) (b off b' off' cap cap' : Nat) (hl : xs.length ≤ 9223372036854775807)
    (h1 : ∀ i, i < xs.length → w.cell? ⟨b, off + i, none⟩ = some (.int .i64 (xs.getD i 0)))
    (h2 : ∀ i, i < xs.length → w.cell? ⟨b', off' + i, none⟩ = some (.int .i64 (xs.getD i 0))) :
    Calls Tryz.prog 16 #[.slice (some ⟨b, off, none⟩) xs.length cap, .slice (some ⟨b', off', none⟩) xs.length cap'] w fun e w' => e = .returned (.bool true) ∧ Same w w' := by
  have hne : ((xs.length : Int) != (xs.length : Int)) = false := by simp
  go_enter Tryz.func16, Tryz.ntmps16
  go_wp2
  go_loopw [5] (fun i wr => Same w wr ∧ ∃ k : Nat, k ≤ xs.length ∧ i = .int .i64 k) (fun i _ => xs.length - (intOf i).toNat)
  case atStart => exact ⟨Same.refl _, 0, Nat.zero_le _, rfl⟩
  case round =>
    obtain ⟨hal, k, hk, rfl⟩ := hrel
    have e1 : ∀ a, wr.cell? a = w.cell? a := fun a => hal.cell a
    by_cases hlt : k < xs.length
    · have c1 : wr.cell? ⟨b, off + k, none⟩ = some (.int .i64 (xs.getD k 0)) := (e1 _).trans (h1 k hlt)
      have c2 : wr.cell? ⟨b', off' + k, none⟩ = some (.int .i64 (xs.getD k 0)) := (e1 _).trans (h2 k hlt)
      clear e1
      have hi : (k : Int) < (xs.length : Int) := by omega
      go_wp2
      go_quiet (fail)
      go_wp2
      go_roundw
      case rel => exact ⟨hal.drewN _, k + 1, by omega, by go_num⟩
      case measure => simp [intOf]; omega
    · clear e1
      go_wp2
      go_ret
      exact ⟨rfl, hal⟩

set_option maxRecDepth 20000 in
set_option maxHeartbeats 400000 in
theorem eqInt64S_none (w : World) (ao bo : Option Addr) (cap cap' : Nat) :
    Calls Tryz.prog 16 #[.slice ao 0 cap, .slice bo 0 cap'] w fun e w' => e = .returned (.bool true) ∧ Same w w' := by
  go_enter Tryz.func16, Tryz.ntmps16
  go_wp2
  refine wp_loop_rounds 1 ?_; rw [rounds_succ]
  go_wp2
  go_ret
  exact ⟨rfl, Same.refl _⟩

theorem eqInt64S_calls (w : World) {lo hi lo' hi' : Nat} {a b : Value} {xs : List Int} (h1 : View w lo hi .i64 a xs) (h2 : View w lo' hi' .i64 b xs) :
    Calls Tryz.prog 16 #[a, b] w fun e w' => e = .returned (.bool true) ∧ Same w w' := by
  obtain ⟨ao, cap, rfl, hl, _, h1⟩ := h1
  obtain ⟨bo, cap', rfl, _, _, h2⟩ := h2
  rcases h1 with rfl | ⟨x, off, rfl, _, _, h1⟩
  · exact eqInt64S_none w ao bo cap cap'
  · rcases h2 with rfl | ⟨y, off', rfl, _, _, h2⟩
    · exact eqInt64S_none w _ bo cap cap'
    · exact eqInt64S_some w xs x off y off' cap cap' hl h1 h2

theorem take_set_dropI (xs : List Int) (k : Nat) (h : k < xs.length) :
    ((xs.take k ++ List.replicate (xs.length - k) 0).map (Value.int .i64)).set k (.int .i64 (xs.getD k 0)) = (xs.take (k + 1) ++ List.replicate (xs.length - (k + 1)) 0).map (Value.int .i64) := by
  have e : xs.length - k = (xs.length - (k + 1)) + 1 := by omega
  rw [e, List.replicate_succ, List.map_append, List.map_cons, List.set_append]
  simp only [List.length_map, List.length_take, Nat.min_eq_left (Nat.le_of_lt h), Nat.lt_irrefl, if_false, Nat.sub_self, List.set_cons_zero]
  rw [List.take_succ_eq_append_getElem h, List.map_append, List.map_append]
  simp [List.getD_eq_getElem?_getD, h]

set_option maxRecDepth 20000 in
set_option maxHeartbeats 400000 in
theorem toInt64S_some (w : World) (xs : List Int) (b off cap : Nat) (hl : xs.length ≤ 1048576)
    (h1 : ∀ i, i < xs.length → w.cell? ⟨b, off + i, none⟩ = some (.int .i64 (xs.getD i 0))) :
    Calls Tryz.prog 13 #[.slice (some ⟨b, off, none⟩) xs.length cap] w fun e w' => e = .returned (.slice (some ⟨w.heap.size, 0, none⟩) xs.length xs.length) ∧
      OwnI w' w.heap.size 2 (.slice (some ⟨w.heap.size, 0, none⟩) xs.length xs.length) xs ∧ Chg 0 0 w w' := by
  obtain ⟨i, hi, hz0, hz1, hz2⟩ := info_parts Tryz.infoI
  go_enter Tryz.func13, Tryz.ntmps13
  go_wp2_with (at_make; refine wpList_make_full _ rfl _ _ 23 rfl w.heap.size 2 i (.int .i64 0) 1 Tryz.underlying23 hi hz0 hz1 _ _ _ _ xs.length rfl rfl rfl rfl (by rw [hz2]; omega) (by unfold maxLen; omega) (by simp) ?_)
  intro w1 hown hgrow
  have hch : Chg 0 0 w w1 := Chg.ofGrown hgrow (by simp)
  have hO : OwnI w1 w.heap.size 2 (.slice (some ⟨w.heap.size, 0, none⟩) xs.length xs.length) (xs.take 0 ++ List.replicate (xs.length - 0) 0) := by
    unfold OwnI
    simpa [toList_madeCells_one] using hown
  have hlt0 : w.heap.size < w1.heap.size := by
    have := World.ownsRow.lt hown w.heap.size rfl; omega
  clear hown hgrow
  go_wp2
  go_loopw [4] (fun i wr => ∃ k : Nat, k ≤ xs.length ∧ i = .int .i64 k ∧ OwnI wr w.heap.size 2 (.slice (some ⟨w.heap.size, 0, none⟩) xs.length xs.length) (xs.take k ++ List.replicate (xs.length - k) 0) ∧ Chg 0 0 w wr) (fun i _ => xs.length - (intOf i).toNat)
  case atStart => exact ⟨0, Nat.zero_le _, rfl, hO, hch⟩
  case round =>
    obtain ⟨k, hk, rfl, hown, hc⟩ := hrel
    clear hO hch
    have hlen : (xs.take k ++ List.replicate (xs.length - k) 0).length = xs.length := by simp; omega
    have hown' : wr.ownsRow w.heap.size 2 1 (.slice (some ⟨w.heap.size, 0, none⟩) xs.length xs.length) xs.length ((xs.take k ++ List.replicate (xs.length - k) 0).map (Value.int .i64)) := by
      have := hown; unfold OwnI at this; rw [hlen] at this; exact this
    by_cases hlt : k < xs.length
    · have c1 : ∃ u, wr.cell? ⟨w.heap.size, k, none⟩ = some u := by
        have := World.ownsRow.cellAt hown' k (by omega)
        rw [this]
        exact ⟨_, List.getElem?_eq_getElem (by rw [List.length_map, hlen]; exact hlt)⟩
      obtain ⟨u, c1⟩ := c1
      have f1 : wr.frozen? ⟨w.heap.size, k, none⟩ = false := World.ownsRow.frozenAt hown' k
      have c2 := hc.cell (h1 k hlt) (by omega)
      have hst := (World.ownsRow.stored hown' k (.int .i64 (xs.getD k 0))).1
      rw [take_set_dropI _ _ hlt] at hst
      have hlen2 : (xs.take (k + 1) ++ List.replicate (xs.length - (k + 1)) 0).length = xs.length := by simp; omega
      have hik : (k : Int) < (xs.length : Int) := by omega
      have R2 : Chg 0 0 w (wr.setCell ⟨w.heap.size, k, none⟩ (.int .i64 (xs.getD k 0))) := hc.setCell (Or.inr (Nat.le_refl _)) _
      have HR : Hid (OwnI (wr.setCell ⟨w.heap.size, k, none⟩ (.int .i64 (xs.getD k 0))) w.heap.size 2 (.slice (some ⟨w.heap.size, 0, none⟩) xs.length xs.length) (xs.take (k + 1) ++ List.replicate (xs.length - (k + 1)) 0)) := by
        show OwnI _ _ _ _ _
        unfold OwnI; rw [hlen2]; exact hst
      have HR2 : Hid (Chg 0 0 w (wr.setCell ⟨w.heap.size, k, none⟩ (.int .i64 (xs.getD k 0)))) := R2
      generalize xs.getD k 0 = x at *
      clear hst hown hown' hlen hlen2 R2 hc h1
      go_wp2
      go_roundw
      case rel => exact ⟨k + 1, by omega, by go_num, HR.out, HR2.out⟩
      case measure => simp [intOf]; omega
    · obtain rfl : k = xs.length := by omega
      have HR : Hid (OwnI wr w.heap.size 2 (.slice (some ⟨w.heap.size, 0, none⟩) xs.length xs.length) xs) := by
        show OwnI _ _ _ _ _
        have := hown; rw [List.take_length, Nat.sub_self, List.replicate_zero, List.append_nil] at this; exact this
      clear hown hown' hlen h1
      go_wp2
      go_ret
      exact ⟨rfl, HR.out, hc⟩

set_option maxRecDepth 20000 in
set_option maxHeartbeats 400000 in
theorem toInt64S_none (w : World) (ao : Option Addr) (cap : Nat) :
    Calls Tryz.prog 13 #[.slice ao 0 cap] w fun e w' => e = .returned (.slice (some ⟨w.heap.size, 0, none⟩) 0 0) ∧
      OwnI w' w.heap.size 2 (.slice (some ⟨w.heap.size, 0, none⟩) 0 0) [] ∧ Chg 0 0 w w' := by
  obtain ⟨i, hi, hz0, hz1, hz2⟩ := info_parts Tryz.infoI
  go_enter Tryz.func13, Tryz.ntmps13
  go_wp2_with (at_make; refine wpList_make_full _ rfl _ _ 23 rfl w.heap.size 2 i (.int .i64 0) 1 Tryz.underlying23 hi hz0 hz1 _ _ _ _ 0 rfl rfl rfl rfl (by omega) (by unfold maxLen; omega) (by simp) ?_)
  intro w1 hown hgrow
  have hch : Chg 0 0 w w1 := Chg.ofGrown hgrow (by simp)
  have hO : OwnI w1 w.heap.size 2 (.slice (some ⟨w.heap.size, 0, none⟩) 0 0) [] := by
    unfold OwnI
    simpa [toList_madeCells_one] using hown
  clear hown hgrow
  go_wp2
  refine wp_loop_rounds 1 ?_; rw [rounds_succ]
  go_wp2
  go_ret
  exact ⟨rfl, hO, hch⟩

/-- A copy of one's own. -/
theorem toInt64S_calls (w : World) {lo hi : Nat} {a : Value} {xs : List Int} (hl : xs.length ≤ 1048576) (h1 : View w lo hi .i64 a xs) :
    Calls Tryz.prog 13 #[a] w fun e w' => ∃ g, e = .returned (.slice (some ⟨g, 0, none⟩) xs.length xs.length) ∧
      OwnI w' w.heap.size 2 (.slice (some ⟨g, 0, none⟩) xs.length xs.length) xs ∧ Chg 0 0 w w' := by
  obtain ⟨ao, cap, rfl, _, _, h1⟩ := h1
  rcases h1 with rfl | ⟨x, off, rfl, _, _, h1⟩
  · exact (toInt64S_none w ao cap).mono fun e w' h => ⟨_, h⟩
  · exact (toInt64S_some w xs x off cap (by omega) h1).mono fun e w' h => ⟨_, h⟩

/-- The marks k, k + 1, .. -/
def marksI (k n : Nat) : List Int := (List.range n).map fun i => ((k + i : Nat) : Int)
theorem marksI_length (k n : Nat) : (marksI k n).length = n := by simp [marksI]
theorem marksI_succ (k0 k : Nat) : marksI k0 (k + 1) = marksI k0 k ++ [((k0 + k : Nat) : Int)] := by
  simp [marksI, List.range_succ]
theorem marksI_set (k0 k : Nat) (xs : List Int) (h : k < xs.length) :
    ((marksI k0 k ++ xs.drop k).map (Value.int .i64)).set k (.int .i64 ((k0 + k : Nat) : Int)) = (marksI k0 (k + 1) ++ xs.drop (k + 1)).map (Value.int .i64) := by
  have hd : xs.drop k = xs[k] :: xs.drop (k + 1) := by simp
  rw [hd, marksI_succ, List.map_append, List.map_cons, List.set_append]
  simp [marksI_length]

end Go.Proofs.YteligghapkleaaaGreatDoor

namespace Go.Proofs.YteligghapkleaaaGreatDoor
open Go.RowKit

set_option maxRecDepth 20000 in
set_option maxHeartbeats 400000 in
theorem szInt64S_calls (w : World) (ao : Option Addr) (n cap left : Nat) (hl : n ≤ 9223372036854775807) (hb : left ≤ 1048576) :
    Calls Tryz.prog 10 #[.slice ao n cap, .int .i64 left] w fun e w' => e = .returned (.int .i64 (lft left n)) ∧ w' = w := by
  by_cases h : n ≤ left
  · rw [lft_pos h]
    go_enter Tryz.func10, Tryz.ntmps10
    go_wp2
    go_ret
    exact ⟨ret_int (by omega), rfl⟩
  · rw [lft_neg h]
    have h' : (left : Int) - n < 0 := by omega
    go_enter Tryz.func10, Tryz.ntmps10
    go_wp2
    go_ret
    exact ⟨rfl, rfl⟩

end Go.Proofs.YteligghapkleaaaGreatDoor

namespace Go.Proofs.YteligghapkleaaaGreatDoor
open Go.RowKit

/-- A transaction. -/
structure Tx where
  seq : Int
  homes : List Wr
  revs : List Int

def TView (w : World) (lo hi : Nat) (v : Value) (t : Tx) : Prop := ∃ hv rv, v = .agg #[.int .i64 t.seq, hv, rv] ∧ PView w lo hi hv t.homes ∧ View w lo hi .i64 rv t.revs

theorem TView.chg {w w' : World} {lo hi l r : Nat} {v : Value} {t : Tx} (h : TView w lo hi v t) (c : Chg l r w w') (e : hi ≤ l ∨ r ≤ lo ∨ r ≤ l) : TView w' lo hi v t := by
  obtain ⟨hv, rv, hv', h1, h2⟩ := h
  exact ⟨hv, rv, hv', h1.chg c e, h2.chg c e⟩

/-- How much it holds. -/
def cntT (t : Tx) : Nat := cnt t.homes + t.revs.length

theorem tri {w : World} {s : Nat} {a b c : Value} {t : TypeId} (h : w.heap[s]? = some (.cells #[a, b, c] t (0, 0))) :
    (w.cell? ⟨s, 0, none⟩ = some a ∧ w.cell? ⟨s, 1, none⟩ = some b ∧ w.cell? ⟨s, 2, none⟩ = some c) ∧ w.frozen? ⟨s, 0, none⟩ = false ∧ w.frozen? ⟨s, 1, none⟩ = false ∧ w.frozen? ⟨s, 2, none⟩ = false := by
  simp [World.cell?, World.frozen?, h]

theorem View.slice {w : World} {lo hi : Nat} {k : IntKind} {v : Value} {xs : List Int} (h : View w lo hi k v xs) : ∃ ao cap, v = .slice ao xs.length cap := by
  obtain ⟨ao, cap, rfl, _⟩ := h; exact ⟨ao, cap, rfl⟩
theorem PView.slice {w : World} {lo hi : Nat} {v : Value} {ps : List Wr} (h : PView w lo hi v ps) : ∃ ao cap, v = .slice ao ps.length cap := by
  obtain ⟨ao, cap, rfl, _⟩ := h; exact ⟨ao, cap, rfl⟩

set_option maxRecDepth 20000 in
set_option maxHeartbeats 400000 in
theorem szTxn_calls (w : World) {lo hi : Nat} {a : Value} (t : Tx) (left : Nat) (hb : left ≤ 1048576) (h1 : TView w lo hi a t) :
    Calls Tryz.prog 4 #[a, .int .i64 left] w fun e w' => e = .returned (.int .i64 (lft left (cntT t))) ∧ Chg 0 0 w w' := by
  obtain ⟨hv, rv, rfl, p1, v1⟩ := h1
  have p0 := p1
  obtain ⟨po, pcap, rfl⟩ := p1.slice
  obtain ⟨ao, cap, rfl, hl, _, _⟩ := v1
  have hA : Chg 0 0 w (w.alloc (.cells #[.int .i64 t.seq, .slice po t.homes.length pcap, .slice ao t.revs.length cap] 25)) := Chg.alloc (Chg.refl 0 0 w) _
  obtain ⟨⟨k0, k1, k2⟩, _⟩ := tri (heap_new w (.cells #[.int .i64 t.seq, .slice po t.homes.length pcap, .slice ao t.revs.length cap] 25))
  by_cases hn : cnt t.homes ≤ left
  · go_enter Tryz.func4, Tryz.ntmps4
    go_wp2_with fail
    generalize (w.alloc (.cells #[.int .i64 t.seq, .slice po t.homes.length pcap, .slice ao t.revs.length cap] 25)) = w0 at *
    refine (szHomeS_calls _ t.homes left hb (p0.chg hA (by omega))).mono ?_
    rintro e w1 ⟨rfl, h1⟩
    have k2 := h1.cell k2 (by omega)
    have hA := hA.trans h1
    rw [lft_pos hn]
    clear h1 k0 k1 p0 p1
    go_wp2_with fail
    refine (szInt64S_calls _ ao _ cap (left - cnt t.homes) hl (by omega)).mono ?_
    rintro e w2 ⟨rfl, rfl⟩
    by_cases hm : t.revs.length ≤ left - cnt t.homes
    · rw [lft_pos hm]
      have hfin : cntT t ≤ left := by unfold cntT; omega
      go_wp2
      go_ret
      exact ⟨by rw [lft_pos hfin]; exact ret_int (by unfold cntT; omega), hA⟩
    · rw [lft_neg hm]
      have hfin : ¬ cntT t ≤ left := by unfold cntT; omega
      go_wp2
      go_ret
      exact ⟨by rw [lft_neg hfin]; rfl, hA⟩
  · have hfin : ¬ cntT t ≤ left := by unfold cntT; omega
    go_enter Tryz.func4, Tryz.ntmps4
    go_wp2_with fail
    generalize (w.alloc (.cells #[.int .i64 t.seq, .slice po t.homes.length pcap, .slice ao t.revs.length cap] 25)) = w0 at *
    refine (szHomeS_calls _ t.homes left hb (p0.chg hA (by omega))).mono ?_
    rintro e w1 ⟨rfl, h1⟩
    have hA := hA.trans h1
    rw [lft_neg hn]
    clear h1 k0 k1 k2 p0 p1
    go_wp2
    go_ret
    exact ⟨by rw [lft_neg hfin]; rfl, hA⟩

theorem OwnPx.pview {w : World} {base : Nat} {eW eB : TypeId} {v : Value} {ps : List Wr} {cells : List Value} {dvs : Nat → Value} (h : OwnPx w base eW eB v ps cells dvs) (hl : cnt ps ≤ 1048576) : PView w base w.heap.size v ps := by
  have hg := cnt_ge ps
  refine h.view (by omega) (fun i hi => ?_) (fun g hg => (World.ownsRow.lt h.row g hg).2) (fun i g hi hg => ((h.data i hi).lt g hg).2)
  have := cnt_take_succ ps i hi
  have := cnt_take_le ps (i + 1)
  omega

set_option maxRecDepth 20000 in
set_option maxHeartbeats 1000000 in
theorem toTxn_calls (w : World) {lo hi : Nat} {a : Value} {t : Tx} (hl : cntT t ≤ 1048576) (h1 : TView w lo hi a t) :
    Calls Tryz.prog 6 #[a] w fun e w' => ∃ v, e = .returned v ∧ TView w' w.heap.size w'.heap.size v t ∧ Chg 0 0 w w' := by
  have hl1 : cnt t.homes ≤ 1048576 := by unfold cntT at hl; omega
  have hl2 : t.revs.length ≤ 1048576 := by unfold cntT at hl; omega
  obtain ⟨hv, rv, rfl, p1, v1⟩ := h1
  obtain ⟨po, pcap, rfl⟩ := p1.slice
  obtain ⟨ao, cap, rfl⟩ := v1.slice
  obtain ⟨z1, z2, z3, z4⟩ := alloc3 w (.cells #[.int .i64 t.seq, .slice po t.homes.length pcap, .slice ao t.revs.length cap] 25) (.cells #[.int .i64 0, .slice none 0 0, .slice none 0 0] 30) (.cells #[.int .i64 t.seq, .slice none 0 0, .slice none 0 0] 30)
  have hw3 : Chg 0 0 w (((w.alloc (.cells #[.int .i64 t.seq, .slice po t.homes.length pcap, .slice ao t.revs.length cap] 25)).alloc (.cells #[.int .i64 0, .slice none 0 0, .slice none 0 0] 30)).alloc (.cells #[.int .i64 t.seq, .slice none 0 0, .slice none 0 0] 30)) := (((Chg.alloc (Chg.refl 0 0 w) _).alloc _).alloc _)
  go_enter Tryz.func6, Tryz.ntmps6
  go_wp2_with fail
  generalize (((w.alloc (.cells #[.int .i64 t.seq, .slice po t.homes.length pcap, .slice ao t.revs.length cap] 25)).alloc (.cells #[.int .i64 0, .slice none 0 0, .slice none 0 0] 30)).alloc (.cells #[.int .i64 t.seq, .slice none 0 0, .slice none 0 0] 30)) = w3 at *
  refine (toHomeS_calls _ hl1 (p1.chg hw3 (by omega))).mono ?_
  rintro e w4 ⟨g, rfl, ⟨cells, dvs, ho⟩, hc⟩
  have s4 := hc.size
  have hp := ho.pview hl1
  have Z2 := (hc.block w.heap.size (by omega) (by omega)).trans z2
  have Z3 := (hc.block (w.heap.size + 1) (by omega) (by omega)).trans z3
  have Z4 := (hc.block (w.heap.size + 1 + 1) (by omega) (by omega)).trans z4
  have hch : Chg 0 0 w w4 := hw3.trans hc
  clear z2 z3 z4 hc hw3 ho p1
  have C5 : Chg (w.heap.size + 1 + 1) (w.heap.size + 1 + 1 + 1) w4 (w4.setCell ⟨w.heap.size + 1 + 1, 1, none⟩ (.slice (some ⟨g, 0, none⟩) t.homes.length t.homes.length)) := Chg.setCell (p := ⟨w.heap.size + 1 + 1, 1, none⟩) (Chg.refl _ _ _) (Or.inl ⟨Nat.le_refl _, Nat.lt_succ_self _⟩) _
  have B5 : (w4.setCell ⟨w.heap.size + 1 + 1, 1, none⟩ (.slice (some ⟨g, 0, none⟩) t.homes.length t.homes.length)).heap[w.heap.size + 1 + 1]? = some (.cells #[.int .i64 t.seq, .slice (some ⟨g, 0, none⟩) t.homes.length t.homes.length, .slice none 0 0] 30 (0, 0)) := by
    simp [World.setCell, Z4, Array.getElem?_modify]
  have Y2 := (C5.block w.heap.size (by omega) (by omega)).trans Z2
  have Y3 := (C5.block (w.heap.size + 1) (by omega) (by omega)).trans Z3
  have hp5 := hp.chg C5 (by omega)
  have hch5 : Chg 0 0 w (w4.setCell ⟨w.heap.size + 1 + 1, 1, none⟩ (.slice (some ⟨g, 0, none⟩) t.homes.length t.homes.length)) := hch.step C5 (by omega)
  have s5 : (w4.setCell ⟨w.heap.size + 1 + 1, 1, none⟩ (.slice (some ⟨g, 0, none⟩) t.homes.length t.homes.length)).heap.size = w4.heap.size := by simp [World.setCell]
  obtain ⟨⟨x0, x1, x2⟩, xf0, xf1, xf2⟩ := tri Z4
  obtain ⟨⟨u0, u1, u2⟩, _⟩ := tri Z2
  obtain ⟨⟨b0, b1, b2⟩, _⟩ := tri Y2
  clear hp hch C5 Z2 Z3 Z4
  go_wp2_with fail
  generalize w4.setCell ⟨w.heap.size + 1 + 1, 1, none⟩ (.slice (some ⟨g, 0, none⟩) t.homes.length t.homes.length) = w5 at *
  clear x0 x1 x2 xf0 xf1 xf2 u0 u1 u2 b0 b1 b2
  refine (toInt64S_calls _ hl2 (v1.chg hch5 (by omega))).mono ?_
  rintro e w6 ⟨h, rfl, ho, hc⟩
  have hvv := ho.view (hi := w6.heap.size) (by omega) (fun g hg => (ho.lt g hg).2)
  have s6 := hc.size
  have hp6 := hp5.chg hc (by omega)
  have hch6 := hch5.trans hc
  obtain ⟨⟨x0, x1, x2⟩, xf0, xf1, xf2⟩ := tri ((hc.block (w.heap.size + 1 + 1) (by omega) (by omega)).trans B5)
  obtain ⟨⟨y0, y1, y2⟩, yf0, yf1, yf2⟩ := tri ((hc.block (w.heap.size + 1) (by omega) (by omega)).trans Y3)
  have HS : Hid (∀ (u1 u2 u3 u4 : Value), Chg 0 0 w ((((w6.setCell ⟨w.heap.size + 1 + 1, 2, none⟩ u1).setCell ⟨w.heap.size + 1, 0, none⟩ u2).setCell ⟨w.heap.size + 1, 1, none⟩ u3).setCell ⟨w.heap.size + 1, 2, none⟩ u4) ∧ TView ((((w6.setCell ⟨w.heap.size + 1 + 1, 2, none⟩ u1).setCell ⟨w.heap.size + 1, 0, none⟩ u2).setCell ⟨w.heap.size + 1, 1, none⟩ u3).setCell ⟨w.heap.size + 1, 2, none⟩ u4) w.heap.size ((((w6.setCell ⟨w.heap.size + 1 + 1, 2, none⟩ u1).setCell ⟨w.heap.size + 1, 0, none⟩ u2).setCell ⟨w.heap.size + 1, 1, none⟩ u3).setCell ⟨w.heap.size + 1, 2, none⟩ u4).heap.size (.agg #[.int .i64 t.seq, .slice (some ⟨g, 0, none⟩) t.homes.length t.homes.length, .slice (some ⟨h, 0, none⟩) t.revs.length t.revs.length]) t) := by
    intro u1 u2 u3 u4
    have C : Chg (w.heap.size + 1) (w.heap.size + 1 + 1 + 1) w6 ((((w6.setCell ⟨w.heap.size + 1 + 1, 2, none⟩ u1).setCell ⟨w.heap.size + 1, 0, none⟩ u2).setCell ⟨w.heap.size + 1, 1, none⟩ u3).setCell ⟨w.heap.size + 1, 2, none⟩ u4) := by
      refine Chg.setCell (Chg.setCell (Chg.setCell (Chg.setCell (Chg.refl _ _ _) ?_ _) ?_ _) ?_ _) ?_ _ <;> exact Or.inl ⟨by simp, by simp⟩
    have hs : ((((w6.setCell ⟨w.heap.size + 1 + 1, 2, none⟩ u1).setCell ⟨w.heap.size + 1, 0, none⟩ u2).setCell ⟨w.heap.size + 1, 1, none⟩ u3).setCell ⟨w.heap.size + 1, 2, none⟩ u4).heap.size = w6.heap.size := by simp [World.setCell]
    refine ⟨hch6.step C (by omega), _, _, rfl, ?_, ?_⟩
    · rw [hs]
      exact (hp6.chg C (by omega)).mono (by omega) (by omega)
    · rw [hs]
      exact (hvv.chg C (by omega)).mono (by omega) (by omega)
  clear hvv hp5 hp6 hch5 hch6 ho hc B5 Y2 Y3
  go_wp2
  exact bodyPost_ret (v := .agg #[.int .i64 t.seq, .slice (some ⟨g, 0, none⟩) t.homes.length t.homes.length, .slice (some ⟨h, 0, none⟩) t.revs.length t.revs.length]) (by simp [results, Tryz.results6, go_sem, *]) rfl ⟨_, rfl, (HS.out _ _ _ _).2, (HS.out _ _ _ _).1⟩

set_option maxRecDepth 20000 in
set_option maxHeartbeats 400000 in
theorem eqTxn_calls (w : World) {lo hi lo' hi' : Nat} {a b : Value} {t : Tx} (h1 : TView w lo hi a t) (h2 : TView w lo' hi' b t) :
    Calls Tryz.prog 8 #[a, b] w fun e w' => e = .returned (.bool true) ∧ Chg 0 0 w w' := by
  obtain ⟨hv, rv, rfl, p1, v1⟩ := h1
  obtain ⟨hv', rv', rfl, p2, v2⟩ := h2
  obtain ⟨z1, z2, z3⟩ := alloc2 w (.cells #[.int .i64 t.seq, hv, rv] 30) (.cells #[.int .i64 t.seq, hv', rv'] 30)
  have hA : Chg 0 0 w ((w.alloc (.cells #[.int .i64 t.seq, hv, rv] 30)).alloc (.cells #[.int .i64 t.seq, hv', rv'] 30)) := (Chg.alloc (Chg.refl 0 0 w) _).alloc _
  go_enter Tryz.func8, Tryz.ntmps8
  go_wp2_with fail
  generalize ((w.alloc (.cells #[.int .i64 t.seq, hv, rv] 30)).alloc (.cells #[.int .i64 t.seq, hv', rv'] 30)) = w0 at *
  refine (eqHomeS_calls _ (p1.chg hA (by omega)) (p2.chg hA (by omega))).mono ?_
  rintro e w1 ⟨rfl, h1⟩
  obtain ⟨⟨x0, x1, x2⟩, _⟩ := tri ((h1.block w.heap.size (by omega) (by omega)).trans z2)
  obtain ⟨⟨y0, y1, y2⟩, _⟩ := tri ((h1.block (w.heap.size + 1) (by omega) (by omega)).trans z3)
  have hA := hA.trans h1
  clear h1 z2 z3 p1 p2
  go_wp2_with fail
  refine (eqInt64S_calls _ (v1.chg hA (by omega)) (v2.chg hA (by omega))).mono ?_
  rintro e w2 ⟨rfl, h2⟩
  have hA := hA.trans (h2.chg 0 0)
  clear h2 x0 x1 x2 y0 y1 y2
  go_wp2
  go_ret
  exact ⟨rfl, hA⟩

end Go.Proofs.YteligghapkleaaaGreatDoor
