/- The law's helpers that copy what came in: toByteS, toWrite, toWriteS, toDisk. -/
import Derived.Test.YtplfehjaakkldaaRows
import Derived.Test.YtplfehjaakkldaaMem
namespace Go.Proofs.Ytplfehjaakkldaa
open Go.RowKit

theorem Try.infoB : (Try.prog.info? 5).map (fun i => (i.zero, i.size, i.bytes)) = some (some (.int .u8 0), 1, 1) := by kernel_rfl
theorem Try.infoW : (Try.prog.info? 55).map (fun i => (i.zero, i.size, i.bytes)) = some (some (.agg #[.int .i64 0, .slice none 0 0]), 2, 32) := by kernel_rfl

theorem take_set_drop (xs : List Int) (k : Nat) (h : k < xs.length) :
    ((xs.take k ++ List.replicate (xs.length - k) 0).map (Value.int .u8)).set k (.int .u8 (xs.getD k 0)) = (xs.take (k + 1) ++ List.replicate (xs.length - (k + 1)) 0).map (Value.int .u8) := by
  have e : xs.length - k = (xs.length - (k + 1)) + 1 := by omega
  rw [e, List.replicate_succ, List.map_append, List.map_cons, List.set_append]
  simp only [List.length_map, List.length_take, Nat.min_eq_left (Nat.le_of_lt h), Nat.lt_irrefl, if_false, Nat.sub_self, List.set_cons_zero]
  rw [List.take_succ_eq_append_getElem h, List.map_append, List.map_append]
  simp [List.getD_eq_getElem?_getD, h]

set_option maxRecDepth 20000 in
set_option maxHeartbeats 400000 in
theorem toByteS_some (w : World) (xs : List Int) (b off cap : Nat) (hl : xs.length ≤ 140737488355328)
    (h1 : ∀ i, i < xs.length → w.cell? ⟨b, off + i, none⟩ = some (.int .u8 (xs.getD i 0))) :
    Calls Try.prog 12 #[.slice (some ⟨b, off, none⟩) xs.length cap] w fun e w' => e = .returned (.slice (some ⟨w.heap.size, 0, none⟩) xs.length xs.length) ∧
      OwnB w' w.heap.size 5 (.slice (some ⟨w.heap.size, 0, none⟩) xs.length xs.length) xs ∧ Chg 0 0 w w' := by
  obtain ⟨i, hi, hz0, hz1, hz2⟩ := info_parts Try.infoB
  go_enter Try.func12, Try.ntmps12
  go_wp2_with (at_make; refine wpList_make_full _ rfl _ _ 22 rfl w.heap.size 5 i (.int .u8 0) 1 Try.underlying22 hi hz0 hz1 _ _ _ _ xs.length rfl rfl rfl rfl (by rw [hz2]; omega) (by unfold maxLen; omega) (by simp) ?_)
  intro w1 hown hgrow
  have hch : Chg 0 0 w w1 := Chg.ofGrown hgrow (by simp)
  have hO : OwnB w1 w.heap.size 5 (.slice (some ⟨w.heap.size, 0, none⟩) xs.length xs.length) (xs.take 0 ++ List.replicate (xs.length - 0) 0) := by
    unfold OwnB
    simpa [toList_madeCells_one] using hown
  have hlt0 : w.heap.size < w1.heap.size := by
    have := World.ownsRow.lt hown w.heap.size rfl; omega
  clear hown hgrow
  go_wp2
  go_loopw [4] (fun i wr => ∃ k : Nat, k ≤ xs.length ∧ i = .int .i64 k ∧ OwnB wr w.heap.size 5 (.slice (some ⟨w.heap.size, 0, none⟩) xs.length xs.length) (xs.take k ++ List.replicate (xs.length - k) 0) ∧ Chg 0 0 w wr) (fun i _ => xs.length - (intOf i).toNat)
  case atStart => exact ⟨0, Nat.zero_le _, rfl, hO, hch⟩
  case round =>
    obtain ⟨k, hk, rfl, hown, hc⟩ := hrel
    clear hO hch
    have hlen : (xs.take k ++ List.replicate (xs.length - k) 0).length = xs.length := by simp; omega
    have hown' : wr.ownsRow w.heap.size 5 1 (.slice (some ⟨w.heap.size, 0, none⟩) xs.length xs.length) xs.length ((xs.take k ++ List.replicate (xs.length - k) 0).map (Value.int .u8)) := by
      have := hown; unfold OwnB at this; rw [hlen] at this; exact this
    by_cases hlt : k < xs.length
    · have c1 : ∃ u, wr.cell? ⟨w.heap.size, k, none⟩ = some u := by
        have := World.ownsRow.cellAt hown' k (by omega)
        rw [this]
        exact ⟨_, List.getElem?_eq_getElem (by rw [List.length_map, hlen]; exact hlt)⟩
      obtain ⟨u, c1⟩ := c1
      have f1 : wr.frozen? ⟨w.heap.size, k, none⟩ = false := World.ownsRow.frozenAt hown' k
      have c2 := hc.cell (h1 k hlt) (by omega)
      have hst := (World.ownsRow.stored hown' k (.int .u8 (xs.getD k 0))).1
      rw [take_set_drop _ _ hlt] at hst
      have hlen2 : (xs.take (k + 1) ++ List.replicate (xs.length - (k + 1)) 0).length = xs.length := by simp; omega
      have hik : (k : Int) < (xs.length : Int) := by omega
      have R2 : Chg 0 0 w (wr.setCell ⟨w.heap.size, k, none⟩ (.int .u8 (xs.getD k 0))) := hc.setCell (Or.inr (Nat.le_refl _)) _
      have HR : Hid (OwnB (wr.setCell ⟨w.heap.size, k, none⟩ (.int .u8 (xs.getD k 0))) w.heap.size 5 (.slice (some ⟨w.heap.size, 0, none⟩) xs.length xs.length) (xs.take (k + 1) ++ List.replicate (xs.length - (k + 1)) 0)) := by
        show OwnB _ _ _ _ _
        unfold OwnB; rw [hlen2]; exact hst
      have HR2 : Hid (Chg 0 0 w (wr.setCell ⟨w.heap.size, k, none⟩ (.int .u8 (xs.getD k 0)))) := R2
      generalize xs.getD k 0 = x at *
      clear hst hown hown' hlen hlen2 R2 hc h1
      go_wp2
      go_roundw
      case rel => exact ⟨k + 1, by omega, by go_num, HR.out, HR2.out⟩
      case measure => simp [intOf]; omega
    · obtain rfl : k = xs.length := by omega
      have HR : Hid (OwnB wr w.heap.size 5 (.slice (some ⟨w.heap.size, 0, none⟩) xs.length xs.length) xs) := by
        show OwnB _ _ _ _ _
        have := hown; rw [List.take_length, Nat.sub_self, List.replicate_zero, List.append_nil] at this; exact this
      clear hown hown' hlen h1
      go_wp2
      go_ret
      exact ⟨rfl, HR.out, hc⟩

set_option maxRecDepth 20000 in
set_option maxHeartbeats 400000 in
theorem toByteS_none (w : World) (ao : Option Addr) (cap : Nat) :
    Calls Try.prog 12 #[.slice ao 0 cap] w fun e w' => e = .returned (.slice (some ⟨w.heap.size, 0, none⟩) 0 0) ∧
      OwnB w' w.heap.size 5 (.slice (some ⟨w.heap.size, 0, none⟩) 0 0) [] ∧ Chg 0 0 w w' := by
  obtain ⟨i, hi, hz0, hz1, hz2⟩ := info_parts Try.infoB
  go_enter Try.func12, Try.ntmps12
  go_wp2_with (at_make; refine wpList_make_full _ rfl _ _ 22 rfl w.heap.size 5 i (.int .u8 0) 1 Try.underlying22 hi hz0 hz1 _ _ _ _ 0 rfl rfl rfl rfl (by omega) (by unfold maxLen; omega) (by simp) ?_)
  intro w1 hown hgrow
  have hch : Chg 0 0 w w1 := Chg.ofGrown hgrow (by simp)
  have hO : OwnB w1 w.heap.size 5 (.slice (some ⟨w.heap.size, 0, none⟩) 0 0) [] := by
    unfold OwnB
    simpa [toList_madeCells_one] using hown
  clear hown hgrow
  go_wp2
  refine wp_loop_rounds 1 ?_; rw [rounds_succ]
  go_wp2
  go_ret
  exact ⟨rfl, hO, hch⟩

/-- A copy of one's own. -/
theorem toByteS_calls (w : World) {lo hi : Nat} {a : Value} {xs : List Int} (hl : xs.length ≤ 1048576) (h1 : View w lo hi .u8 a xs) :
    Calls Try.prog 12 #[a] w fun e w' => ∃ g, e = .returned (.slice (some ⟨g, 0, none⟩) xs.length xs.length) ∧
      OwnB w' w.heap.size 5 (.slice (some ⟨g, 0, none⟩) xs.length xs.length) xs ∧ Chg 0 0 w w' := by
  obtain ⟨ao, cap, rfl, _, _, h1⟩ := h1
  rcases h1 with rfl | ⟨x, off, rfl, _, _, h1⟩
  · exact (toByteS_none w ao cap).mono fun e w' h => ⟨_, h⟩
  · exact (toByteS_some w xs x off cap (by omega) h1).mono fun e w' h => ⟨_, h⟩

set_option maxRecDepth 20000 in
set_option maxHeartbeats 400000 in
theorem toWrite_calls (w : World) {lo hi : Nat} (q : Int) {a : Value} {xs : List Int} (hl : xs.length ≤ 1048576) (h1 : View w lo hi .u8 a xs) :
    Calls Try.prog 75 #[.agg #[.int .i64 q, a]] w fun e w' => ∃ g, e = .returned (.agg #[.int .i64 q, .slice (some ⟨g, 0, none⟩) xs.length xs.length]) ∧
      OwnB w' w.heap.size 5 (.slice (some ⟨g, 0, none⟩) xs.length xs.length) xs ∧ Chg 0 0 w w' := by
  have v0 := h1
  obtain ⟨ao, cap, rfl, _, _, h1⟩ := h1
  clear h1
  go_enter Try.func75, Try.ntmps75
  go_wp2_with fail
  obtain ⟨z1, z2, z3, z4⟩ := alloc3 w (.cells #[.int .i64 q, .slice ao xs.length cap] 105) (.cells #[.int .i64 0, .slice none 0 0] 55) (.cells #[.int .i64 q, .slice none 0 0] 55)
  have hw3 : Chg 0 0 w (((w.alloc (.cells #[.int .i64 q, .slice ao xs.length cap] 105)).alloc (.cells #[.int .i64 0, .slice none 0 0] 55)).alloc (.cells #[.int .i64 q, .slice none 0 0] 55)) := (((Chg.alloc (Chg.refl 0 0 w) _).alloc _).alloc _)
  have v3 := v0.chg hw3 (by omega)
  generalize (((w.alloc (.cells #[.int .i64 q, .slice ao xs.length cap] 105)).alloc (.cells #[.int .i64 0, .slice none 0 0] 55)).alloc (.cells #[.int .i64 q, .slice none 0 0] 55)) = w3 at *
  refine (toByteS_calls _ hl v3).mono ?_
  rintro e w1 ⟨g, rfl, ho, hc⟩
  have hg := (ho.lt g rfl).1
  have hch : Chg 0 0 w w1 := hw3.trans hc
  obtain ⟨r0, r1, r2, r3⟩ := two_cells ((hc.block (w.heap.size + 1) (by omega) (by omega)).trans z3)
  obtain ⟨t0, t1, t2, t3⟩ := two_cells ((hc.block (w.heap.size + 1 + 1) (by omega) (by omega)).trans z4)
  have HO : Hid (OwnB w1 w.heap.size 5 (.slice (some ⟨g, 0, none⟩) xs.length xs.length) xs) := ho.base (fun g' hg' => by cases hg'; show w.heap.size ≤ g; omega)
  clear ho hc hw3 v3 z2 z3 z4 v0
  go_wp2
  refine bodyPost_ret (v := .agg #[.int .i64 q, .slice (some ⟨g, 0, none⟩) xs.length xs.length]) (by simp [results, Try.results75, go_sem, r0, r1]) rfl ⟨g, rfl, ?_, ?_⟩
  · have n1 : (Value.slice (some ⟨g, 0, none⟩) xs.length xs.length).ownBlock ≠ some (w.heap.size + 1 + 1) := by simp [Value.ownBlock]; omega
    have n2 : (Value.slice (some ⟨g, 0, none⟩) xs.length xs.length).ownBlock ≠ some (w.heap.size + 1) := by simp [Value.ownBlock]; omega
    exact ((HO.out.set n1 _).set n2 _).set n2 _
  · exact ((hch.setCell (Or.inr (by show w.heap.size ≤ w.heap.size + 1 + 1; omega)) _).setCell (Or.inr (by show w.heap.size ≤ w.heap.size + 1; omega)) _).setCell (Or.inr (by show w.heap.size ≤ w.heap.size + 1; omega)) _

theorem pair_take_set (ps : List Wr) (k : Nat) (h : k < ps.length) : (ps.take k ++ List.replicate (ps.length - k) (0, [])).set k (ps.getD k (0, [])) = ps.take (k + 1) ++ List.replicate (ps.length - (k + 1)) (0, []) := by
  have e : ps.length - k = (ps.length - (k + 1)) + 1 := by omega
  rw [e, List.replicate_succ, List.set_append]
  simp only [List.length_take, Nat.min_eq_left (Nat.le_of_lt h), Nat.lt_irrefl, if_false, Nat.sub_self, List.set_cons_zero]
  have e2 : ps.getD k (0, []) = ps[k] := by simp [List.getD_eq_getElem?_getD, h]
  rw [List.take_succ_eq_append_getElem h, List.append_assoc, e2]
  rfl


theorem made2_get (z0 z1 : Value) (n i : Nat) (h : i < n) : (madeCells #[z0, z1] (n * 2)).toList[i * 2]? = some z0 ∧ (madeCells #[z0, z1] (n * 2)).toList[i * 2 + 1]? = some z1 := by
  have h1 : i * 2 < n * 2 := by omega
  have h2 : i * 2 + 1 < n * 2 := by omega
  have m1 : i * 2 % 2 = 0 := by omega
  have m2 : (i * 2 + 1) % 2 = 1 := by omega
  constructor
  · simp [madeCells, h1, m1]
  · simp [madeCells, h2, m2]

set_option maxRecDepth 20000 in
set_option maxHeartbeats 1000000 in
theorem toWriteS_some (w : World) (ps : List Wr) (lo hi b off cap : Nat) (hl : cnt ps ≤ 1048576)
    (h1 : ∀ i, i < ps.length → ∃ dv, w.cell? ⟨b, off + i * 2, none⟩ = some (.int .i64 (ps.getD i (0, [])).1) ∧ w.cell? ⟨b, off + i * 2 + 1, none⟩ = some dv ∧ View w lo hi .u8 dv (ps.getD i (0, [])).2) :
    Calls Try.prog 49 #[.slice (some ⟨b, off, none⟩) ps.length cap] w fun e w' => ∃ g, e = .returned (.slice (some ⟨g, 0, none⟩) ps.length ps.length) ∧
      (∃ cells dvs, OwnPx w' w.heap.size 55 5 (.slice (some ⟨g, 0, none⟩) ps.length ps.length) ps cells dvs) ∧ Chg 0 0 w w' := by
  obtain ⟨i, hi, hz0, hz1, hz2⟩ := info_parts Try.infoW
  have hlp := cnt_ge ps
  go_enter Try.func49, Try.ntmps49
  go_wp2_with (at_make; refine wpList_make_full _ rfl _ _ 27 rfl w.heap.size 55 i (.agg #[.int .i64 0, .slice none 0 0]) 2 Try.underlying27 hi hz0 hz1 _ _ _ _ ps.length rfl rfl rfl rfl (by rw [hz2]; omega) (by unfold maxLen; omega) (by simp) ?_)
  intro w1 hown hgrow
  have hch : Chg 0 0 w w1 := Chg.ofGrown hgrow (by simp)
  have hO : OwnPx w1 w.heap.size 55 5 (.slice (some ⟨w.heap.size, 0, none⟩) ps.length ps.length) (ps.take 0 ++ List.replicate (ps.length - 0) (0, [])) (madeCells #[.int .i64 0, .slice none 0 0] (ps.length * 2)).toList (fun _ => .slice none 0 0) := by
    simp only [List.take_zero, List.nil_append, Nat.sub_zero]
    refine ⟨by rw [List.length_replicate]; exact hown, ?_, ?_, ?_, ?_⟩
    · intro i hi
      rw [List.length_replicate] at hi
      rw [(made2_get _ _ _ _ hi).1]; simp [List.getD_eq_getElem?_getD, hi]
    · intro i hi
      rw [List.length_replicate] at hi
      exact (made2_get _ _ _ _ hi).2
    · intro i hi
      rw [List.length_replicate] at hi
      simp only [List.getD_eq_getElem?_getD, List.getElem?_replicate, hi, if_true, Option.getD_some]
      exact OwnB.nil _ _ _
    · intro i j g _ _ h; cases h
  clear hown hgrow
  go_wp2
  go_loopw [4] (fun i wr => ∃ k : Nat, k ≤ ps.length ∧ i = .int .i64 k ∧ (∃ cells dvs, OwnPx wr w.heap.size 55 5 (.slice (some ⟨w.heap.size, 0, none⟩) ps.length ps.length) (ps.take k ++ List.replicate (ps.length - k) (0, [])) cells dvs) ∧ Chg 0 0 w wr) (fun i _ => ps.length - (intOf i).toNat)
  case atStart => exact ⟨0, Nat.zero_le _, rfl, ⟨_, _, hO⟩, hch⟩
  case round =>
    obtain ⟨k, hk, rfl, ⟨cells, dvs, hown⟩, hc⟩ := hrel
    clear hO hch
    have hlen : (ps.take k ++ List.replicate (ps.length - k) ((0, []) : Wr)).length = ps.length := by simp; omega
    by_cases hlt : k < ps.length
    · obtain ⟨d1, c1, c2, v1⟩ := h1 k hlt
      clear h1
      have Hput := pair_take_set ps k hlt
      have hxl : (ps.getD k (0, [])).2.length ≤ 1048576 := by have := cnt_take_succ ps k hlt; have := cnt_take_le ps (k + 1); omega
      have HP : Hid ((ps.take k ++ List.replicate (ps.length - k) (0, [])).set k ((ps.getD k (0, [])).1, (ps.getD k (0, [])).2) = ps.take (k + 1) ++ List.replicate (ps.length - (k + 1)) (0, [])) := Hput
      clear Hput
      generalize (ps.getD k (0, [])).1 = q at *
      generalize (ps.getD k (0, [])).2 = xs at *
      have c1 := hc.cell c1 (by omega)
      have c2 := hc.cell c2 (by omega)
      have v1 := v1.chg hc (by omega)
      have hik : (k : Int) < (ps.length : Int) := by omega
      go_wp2_with fail
      refine (toWrite_calls _ q hxl v1).mono ?_
      rintro e w2 ⟨g, rfl, ho, hs⟩
      have hsz := hc.size
      have hgb := (ho.lt g rfl).1
      have hown2 := hown.chg hs (by intro g _; omega) (by intro i g _ _; omega)
      have hrow2 := hown2.row
      rw [hlen] at hrow2
      have hcl : cells.length = ps.length * 2 := hrow2.1
      have e0 : ∃ u, w2.cell? ⟨w.heap.size, k * 2, none⟩ = some u := ⟨_, (World.ownsRow.cellAt hrow2 (k * 2) (by omega)).trans (List.getElem?_eq_getElem (by omega))⟩
      have e1 : ∃ u, w2.cell? ⟨w.heap.size, k * 2 + 1, none⟩ = some u := ⟨_, (World.ownsRow.cellAt hrow2 (k * 2 + 1) (by omega)).trans (List.getElem?_eq_getElem (by omega))⟩
      obtain ⟨u0, e0⟩ := e0
      obtain ⟨u1, e1⟩ := e1
      have f0 := World.ownsRow.frozenAt hrow2 (k * 2)
      have f1 := World.ownsRow.frozenAt hrow2 (k * 2 + 1)
      have hp := hown2.put hlen hlt (by decide) q xs _ (ho.base (fun g' hg' => by cases hg'; show w.heap.size ≤ g; omega)) (by
        intro i g' hi hg' e
        have := ((hown.data i (by rw [hlen]; exact hi)).lt g' hg').2
        cases e
        simp at this hgb; omega)
      rw [HP.out] at hp
      have HR : Hid (∃ cells' dvs', OwnPx ((w2.setCell ⟨w.heap.size, k * 2, none⟩ (.int .i64 q)).setCell ⟨w.heap.size, k * 2 + 1, none⟩ (.slice (some ⟨g, 0, none⟩) xs.length xs.length)) w.heap.size 55 5 (.slice (some ⟨w.heap.size, 0, none⟩) ps.length ps.length) (ps.take (k + 1) ++ List.replicate (ps.length - (k + 1)) (0, [])) cells' dvs') := ⟨_, _, hp⟩
      have HR2 : Hid (Chg 0 0 w ((w2.setCell ⟨w.heap.size, k * 2, none⟩ (.int .i64 q)).setCell ⟨w.heap.size, k * 2 + 1, none⟩ (.slice (some ⟨g, 0, none⟩) xs.length xs.length))) :=
        ((hc.trans hs).setCell (Or.inr (Nat.le_refl _)) _).setCell (Or.inr (Nat.le_refl _)) _
      clear hp hown hown2 hrow2 hcl ho hs hc v1 c1 c2 HP hlen
      go_wp2
      go_roundw
      case rel => exact ⟨k + 1, by omega, by go_num, HR.out, HR2.out⟩
      case measure => simp [intOf]; omega
    · obtain rfl : k = ps.length := by omega
      have HR : Hid (∃ cells dvs, OwnPx wr w.heap.size 55 5 (.slice (some ⟨w.heap.size, 0, none⟩) ps.length ps.length) ps cells dvs) := by
        have := hown; rw [List.take_length, Nat.sub_self, List.replicate_zero, List.append_nil] at this; exact ⟨_, _, this⟩
      clear hown hlen h1
      go_wp2
      go_ret
      exact ⟨_, rfl, HR.out, hc⟩

set_option maxRecDepth 20000 in
set_option maxHeartbeats 400000 in
theorem toWriteS_none (w : World) (ao : Option Addr) (cap : Nat) :
    Calls Try.prog 49 #[.slice ao 0 cap] w fun e w' => ∃ g, e = .returned (.slice (some ⟨g, 0, none⟩) 0 0) ∧
      (∃ cells dvs, OwnPx w' w.heap.size 55 5 (.slice (some ⟨g, 0, none⟩) 0 0) [] cells dvs) ∧ Chg 0 0 w w' := by
  obtain ⟨i, hi, hz0, hz1, hz2⟩ := info_parts Try.infoW
  go_enter Try.func49, Try.ntmps49
  go_wp2_with (at_make; refine wpList_make_full _ rfl _ _ 27 rfl w.heap.size 55 i (.agg #[.int .i64 0, .slice none 0 0]) 2 Try.underlying27 hi hz0 hz1 _ _ _ _ 0 rfl rfl rfl rfl (by omega) (by unfold maxLen; omega) (by simp) ?_)
  intro w1 hown hgrow
  have hch : Chg 0 0 w w1 := Chg.ofGrown hgrow (by simp)
  have hO : ∃ cells dvs, OwnPx w1 w.heap.size 55 5 (.slice (some ⟨w.heap.size, 0, none⟩) 0 0) [] cells dvs :=
    ⟨_, fun _ => .slice none 0 0, hown, by simp, by simp, by simp, by simp⟩
  have HO : Hid (∃ cells dvs, OwnPx w1 w.heap.size 55 5 (.slice (some ⟨w.heap.size, 0, none⟩) 0 0) [] cells dvs) := hO
  clear hown hgrow hO
  go_wp2
  refine wp_loop_rounds 1 ?_; rw [rounds_succ]
  go_wp2
  go_ret
  exact ⟨_, rfl, HO.out, hch⟩

theorem toWriteS_calls (w : World) {lo hi : Nat} {a : Value} {ps : List Wr} (hl : cnt ps ≤ 1048576) (h1 : PView w lo hi a ps) :
    Calls Try.prog 49 #[a] w fun e w' => ∃ g, e = .returned (.slice (some ⟨g, 0, none⟩) ps.length ps.length) ∧
      (∃ cells dvs, OwnPx w' w.heap.size 55 5 (.slice (some ⟨g, 0, none⟩) ps.length ps.length) ps cells dvs) ∧ Chg 0 0 w w' := by
  obtain ⟨ao, cap, rfl, _, _, h1⟩ := h1
  rcases h1 with rfl | ⟨x, off, rfl, _, _, h1⟩
  · exact toWriteS_none w ao cap
  · exact toWriteS_some w ps lo hi x off cap hl h1

theorem OwnPx.base {w : World} {base base' : Nat} {eW eB : TypeId} {v : Value} {ps : List Wr} {cells : List Value} {dvs : Nat → Value} (h : OwnPx w base eW eB v ps cells dvs) (hb : base' ≤ base) : OwnPx w base' eW eB v ps cells dvs := by
  refine ⟨?_, h.at0, h.at1, fun i hi => (h.data i hi).base (fun g hg => Nat.le_trans hb ((h.data i hi).lt g hg).1), h.apart⟩
  obtain ⟨h1, h2⟩ := h.row
  refine ⟨h1, ?_⟩
  rcases h2 with h2 | ⟨g, cap, cur, hv, hg, r⟩
  · exact Or.inl h2
  · exact Or.inr ⟨g, cap, cur, hv, by omega, r⟩

theorem OwnPx.lt {w : World} {base : Nat} {eW eB : TypeId} {v : Value} {ps : List Wr} {cells : List Value} {dvs : Nat → Value} (h : OwnPx w base eW eB v ps cells dvs) : ∀ g, v.ownBlock = some g → base ≤ g ∧ g < w.heap.size := World.ownsRow.lt h.row

theorem OwnPx.set {w : World} {base : Nat} {eW eB : TypeId} {v : Value} {ps : List Wr} {cells : List Value} {dvs : Nat → Value} (h : OwnPx w base eW eB v ps cells dvs) {p : Addr} (hp : p.block < base) (u : Value) : OwnPx (w.setCell p u) base eW eB v ps cells dvs := by
  refine ⟨ownsRow_setCell_other h.row ?_ u, h.at0, h.at1, fun i hi => (h.data i hi).set ?_ u, h.apart⟩
  · intro e; have := (h.lt _ e).1; omega
  · intro e; have := ((h.data i hi).lt _ e).1; omega

set_option maxRecDepth 20000 in
set_option maxHeartbeats 1000000 in
theorem toDisk_calls (w : World) {lo hi : Nat} {a : Value} {d : Dsk} (hl : cntD d ≤ 1048576) (h1 : DView w lo hi a d) :
    Calls Try.prog 11 #[a] w fun e w' => ∃ v, e = .returned v ∧ OwnD w' w.heap.size w'.heap.size 55 5 v d ∧ Chg 0 0 w w' := by
  obtain ⟨dv, pv, rfl, v1, p1⟩ := h1
  have v0 := v1
  have p0 := p1
  obtain ⟨ao, cap, rfl, _, _, _⟩ := v1
  obtain ⟨po, pcap, rfl, _, _, _⟩ := p1
  go_enter Try.func11, Try.ntmps11
  go_wp2_with fail
  obtain ⟨z1, z2, z3, z4⟩ := alloc3 w (.cells #[.slice ao d.dur.length cap, .slice po d.pend.length pcap] 25) (.cells #[.slice none 0 0, .slice none 0 0] 29) (.cells #[.slice none 0 0, .slice none 0 0] 29)
  have hw3 : Chg 0 0 w (((w.alloc (.cells #[.slice ao d.dur.length cap, .slice po d.pend.length pcap] 25)).alloc (.cells #[.slice none 0 0, .slice none 0 0] 29)).alloc (.cells #[.slice none 0 0, .slice none 0 0] 29)) := (((Chg.alloc (Chg.refl 0 0 w) _).alloc _).alloc _)
  have v3 := v0.chg hw3 (by omega)
  generalize (((w.alloc (.cells #[.slice ao d.dur.length cap, .slice po d.pend.length pcap] 25)).alloc (.cells #[.slice none 0 0, .slice none 0 0] 29)).alloc (.cells #[.slice none 0 0, .slice none 0 0] 29)) = w3 at *
  refine (toByteS_calls _ (by unfold cntD at hl; omega) v3).mono ?_
  rintro e w4 ⟨g, rfl, ho, hc⟩
  have hg := ho.lt g rfl
  have s4 := hc.size
  obtain ⟨q0, q1, q2, q3⟩ := two_cells ((hc.block w.heap.size (by omega) (by omega)).trans z2)
  obtain ⟨r0, r1, r2, r3⟩ := two_cells ((hc.block (w.heap.size + 1) (by omega) (by omega)).trans z3)
  obtain ⟨t0, t1, t2, t3⟩ := two_cells ((hc.block (w.heap.size + 1 + 1) (by omega) (by omega)).trans z4)
  have hch : Chg 0 0 w w4 := hw3.trans hc
  clear v3 v0 hw3 z2 z3 z4 hc
  go_wp2_with fail
  have hch5 : Chg 0 0 w (w4.setCell ⟨w.heap.size + 1 + 1, 0, none⟩ (.slice (some ⟨g, 0, none⟩) d.dur.length d.dur.length)) := hch.setCell (Or.inr (by show w.heap.size ≤ w.heap.size + 1 + 1; omega)) _
  have p5 := p0.chg hch5 (by omega)
  have B0 : (w4.setCell ⟨w.heap.size + 1 + 1, 0, none⟩ (.slice (some ⟨g, 0, none⟩) d.dur.length d.dur.length)).heap.size = w4.heap.size := by simp [World.setCell]
  have c0 : (w4.setCell ⟨w.heap.size + 1 + 1, 0, none⟩ (.slice (some ⟨g, 0, none⟩) d.dur.length d.dur.length)).cell? ⟨w.heap.size + 1 + 1, 0, none⟩ = some (.slice (some ⟨g, 0, none⟩) d.dur.length d.dur.length) := by go_simp
  have c1 : (w4.setCell ⟨w.heap.size + 1 + 1, 0, none⟩ (.slice (some ⟨g, 0, none⟩) d.dur.length d.dur.length)).cell? ⟨w.heap.size + 1 + 1, 1, none⟩ = some (.slice none 0 0) := by go_simp
  have c2 : (w4.setCell ⟨w.heap.size + 1 + 1, 0, none⟩ (.slice (some ⟨g, 0, none⟩) d.dur.length d.dur.length)).cell? ⟨w.heap.size + 1, 0, none⟩ = some (.slice none 0 0) := by go_simp
  have c3 : (w4.setCell ⟨w.heap.size + 1 + 1, 0, none⟩ (.slice (some ⟨g, 0, none⟩) d.dur.length d.dur.length)).cell? ⟨w.heap.size + 1, 1, none⟩ = some (.slice none 0 0) := by go_simp
  have f0 : (w4.setCell ⟨w.heap.size + 1 + 1, 0, none⟩ (.slice (some ⟨g, 0, none⟩) d.dur.length d.dur.length)).frozen? ⟨w.heap.size + 1 + 1, 1, none⟩ = false := by go_simp
  have f1 : (w4.setCell ⟨w.heap.size + 1 + 1, 0, none⟩ (.slice (some ⟨g, 0, none⟩) d.dur.length d.dur.length)).frozen? ⟨w.heap.size + 1, 0, none⟩ = false := by go_simp
  have f2 : (w4.setCell ⟨w.heap.size + 1 + 1, 0, none⟩ (.slice (some ⟨g, 0, none⟩) d.dur.length d.dur.length)).frozen? ⟨w.heap.size + 1, 1, none⟩ = false := by go_simp
  have ho5 := (ho.base (base' := w.heap.size) (fun g' hg' => by cases hg'; show w.heap.size ≤ g; omega)).set (p := ⟨w.heap.size + 1 + 1, 0, none⟩) (by simp [Value.ownBlock]; omega) (.slice (some ⟨g, 0, none⟩) d.dur.length d.dur.length)
  clear ho hch
  generalize w4.setCell ⟨w.heap.size + 1 + 1, 0, none⟩ (.slice (some ⟨g, 0, none⟩) d.dur.length d.dur.length) = w5 at *
  refine (toWriteS_calls _ (by unfold cntD at hl; omega) p5).mono ?_
  rintro e w6 ⟨h, rfl, ⟨cells, dvs, hp⟩, hc⟩
  have c0 := hc.cell c0 (by omega)
  have c1 := hc.cell c1 (by omega)
  have c2 := hc.cell c2 (by omega)
  have c3 := hc.cell c3 (by omega)
  have fr : ∀ b o, b < w5.heap.size → w6.frozen? ⟨b, o, none⟩ = w5.frozen? ⟨b, o, none⟩ := fun b o hb => World.frozen?_of_block (hc.block b hb (by omega))
  have f0 := (fr _ _ (by omega)).trans f0
  have f1 := (fr _ _ (by omega)).trans f1
  have f2 := (fr _ _ (by omega)).trans f2
  have ho6 := ho5.chg hc (by intro g' _; omega)
  have hh := hp.lt h rfl
  have hch6 := hch5.trans hc
  clear fr hc p5 ho5 hch5 q0 q1 q2 q3 r0 r1 r2 r3 t0 t1 t2 t3 p0
  have n1 : (Value.slice (some ⟨g, 0, none⟩) d.dur.length d.dur.length).ownBlock ≠ some (w.heap.size + 1 + 1) := by simp [Value.ownBlock]; omega
  have n2 : (Value.slice (some ⟨g, 0, none⟩) d.dur.length d.dur.length).ownBlock ≠ some (w.heap.size + 1) := by simp [Value.ownBlock]; omega
  have HD : Hid (OwnD (((w6.setCell ⟨w.heap.size + 1 + 1, 1, none⟩ (.slice (some ⟨h, 0, none⟩) d.pend.length d.pend.length)).setCell ⟨w.heap.size + 1, 0, none⟩ (.slice (some ⟨g, 0, none⟩) d.dur.length d.dur.length)).setCell ⟨w.heap.size + 1, 1, none⟩ (.slice (some ⟨h, 0, none⟩) d.pend.length d.pend.length))
      w.heap.size w6.heap.size 55 5 (.agg #[.slice (some ⟨g, 0, none⟩) d.dur.length d.dur.length, .slice (some ⟨h, 0, none⟩) d.pend.length d.pend.length]) d) := by
    refine ⟨_, _, cells, dvs, rfl, ((ho6.set n1 _).set n2 _).set n2 _, ?_, ?_, fun g' hg' => (ho6.lt g' hg').2, fun g' hg' => (hp.lt g' hg').2, fun i g' hi hg' => ((hp.data i hi).lt g' hg').2⟩
    · have b1 : w.heap.size + 1 + 1 < w5.heap.size := by omega
      have b2 : w.heap.size + 1 < w5.heap.size := by omega
      exact (((hp.set (p := ⟨w.heap.size + 1 + 1, 1, none⟩) b1 _).set (p := ⟨w.heap.size + 1, 0, none⟩) b2 _).set (p := ⟨w.heap.size + 1, 1, none⟩) b2 _).base (by omega)
    · intro i g' hi hg' e
      have := ((hp.data i hi).lt g' e).1
      cases hg'
      have : g < w4.heap.size := hg.2
      simp only [Value.ownBlock] at *
      omega
  have HC : Hid (Chg 0 0 w (((w6.setCell ⟨w.heap.size + 1 + 1, 1, none⟩ (.slice (some ⟨h, 0, none⟩) d.pend.length d.pend.length)).setCell ⟨w.heap.size + 1, 0, none⟩ (.slice (some ⟨g, 0, none⟩) d.dur.length d.dur.length)).setCell ⟨w.heap.size + 1, 1, none⟩ (.slice (some ⟨h, 0, none⟩) d.pend.length d.pend.length))) :=
    ((hch6.setCell (Or.inr (by show w.heap.size ≤ w.heap.size + 1 + 1; omega)) _).setCell (Or.inr (by show w.heap.size ≤ w.heap.size + 1; omega)) _).setCell (Or.inr (by show w.heap.size ≤ w.heap.size + 1; omega)) _
  have HS : (((w6.setCell ⟨w.heap.size + 1 + 1, 1, none⟩ (.slice (some ⟨h, 0, none⟩) d.pend.length d.pend.length)).setCell ⟨w.heap.size + 1, 0, none⟩ (.slice (some ⟨g, 0, none⟩) d.dur.length d.dur.length)).setCell ⟨w.heap.size + 1, 1, none⟩ (.slice (some ⟨h, 0, none⟩) d.pend.length d.pend.length)).heap.size = w6.heap.size := by simp [World.setCell]
  have HS' : Hid (_ = _) := HS
  clear hp ho6 hch6 n1 n2 HS
  go_wp2
  refine bodyPost_ret (v := .agg #[.slice (some ⟨g, 0, none⟩) d.dur.length d.dur.length, .slice (some ⟨h, 0, none⟩) d.pend.length d.pend.length]) (by simp [results, Try.results11, go_sem, c2, c3]) rfl ⟨_, rfl, ?_, HC.out⟩
  rw [HS'.out]; exact HD.out

end Go.Proofs.Ytplfehjaakkldaa
