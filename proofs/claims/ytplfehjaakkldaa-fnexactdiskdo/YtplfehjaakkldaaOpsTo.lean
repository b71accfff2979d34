/- The law's helpers that copy and mark operations: toOp, toOpS, markOpS. -/
import Derived.Test.YtplfehjaakkldaaOps
import Derived.Test.YtplfehjaakkldaaTo
import Derived.Test.YtplfehjaakkldaaMarkB
namespace Go.Proofs.Ytplfehjaakkldaa
open Go.RowKit

theorem three_cellsF {w : World} {s : Nat} {a b c : Value} {t : TypeId} (h : w.heap[s]? = some (.cells #[a, b, c] t (0, 0))) :
    w.cell? ⟨s, 0, none⟩ = some a ∧ w.cell? ⟨s, 1, none⟩ = some b ∧ w.cell? ⟨s, 2, none⟩ = some c ∧ w.frozen? ⟨s, 0, none⟩ = false ∧ w.frozen? ⟨s, 1, none⟩ = false ∧ w.frozen? ⟨s, 2, none⟩ = false := by
  simp [World.cell?, World.frozen?, h]

theorem Try.infoO : (Try.prog.info? 89).map (fun i => (i.zero, i.size, i.bytes)) = some (some (.agg #[.int .i64 0, .int .i64 0, .slice none 0 0]), 3, 40) := by kernel_rfl

set_option maxRecDepth 20000 in
set_option maxHeartbeats 400000 in
theorem toOp_calls (w : World) {lo hi : Nat} (q p : Int) {a : Value} {xs : List Int} (hl : xs.length ≤ 1048576) (h1 : View w lo hi .u8 a xs) :
    Calls Try.prog 72 #[.agg #[.int .i64 q, .int .i64 p, a]] w fun e w' => ∃ g, e = .returned (.agg #[.int .i64 q, .int .i64 p, .slice (some ⟨g, 0, none⟩) xs.length xs.length]) ∧
      OwnB w' w.heap.size 5 (.slice (some ⟨g, 0, none⟩) xs.length xs.length) xs ∧ Chg 0 0 w w' := by
  have v0 := h1
  obtain ⟨ao, cap, rfl, _, _, h1⟩ := h1
  clear h1
  go_enter Try.func72, Try.ntmps72
  go_wp2_with fail
  obtain ⟨z1, z2, z3, z4⟩ := alloc3 w (.cells #[.int .i64 q, .int .i64 p, .slice ao xs.length cap] 101) (.cells #[.int .i64 0, .int .i64 0, .slice none 0 0] 89) (.cells #[.int .i64 q, .int .i64 p, .slice none 0 0] 89)
  have hw3 : Chg 0 0 w (((w.alloc (.cells #[.int .i64 q, .int .i64 p, .slice ao xs.length cap] 101)).alloc (.cells #[.int .i64 0, .int .i64 0, .slice none 0 0] 89)).alloc (.cells #[.int .i64 q, .int .i64 p, .slice none 0 0] 89)) := (((Chg.alloc (Chg.refl 0 0 w) _).alloc _).alloc _)
  have v3 := v0.chg hw3 (by omega)
  generalize (((w.alloc (.cells #[.int .i64 q, .int .i64 p, .slice ao xs.length cap] 101)).alloc (.cells #[.int .i64 0, .int .i64 0, .slice none 0 0] 89)).alloc (.cells #[.int .i64 q, .int .i64 p, .slice none 0 0] 89)) = w3 at *
  refine (toByteS_calls _ hl v3).mono ?_
  rintro e w1 ⟨g, rfl, ho, hc⟩
  have hg := (ho.lt g rfl).1
  have hch : Chg 0 0 w w1 := hw3.trans hc
  obtain ⟨r0, r1, r2, rf0, rf1, rf2⟩ := three_cellsF ((hc.block (w.heap.size + 1) (by omega) (by omega)).trans z3)
  obtain ⟨t0, t1, t2, tf0, tf1, tf2⟩ := three_cellsF ((hc.block (w.heap.size + 1 + 1) (by omega) (by omega)).trans z4)
  have HO : Hid (OwnB w1 w.heap.size 5 (.slice (some ⟨g, 0, none⟩) xs.length xs.length) xs) := ho.base (fun g' hg' => by cases hg'; show w.heap.size ≤ g; omega)
  clear ho hc hw3 v3 z2 z3 z4 v0
  go_wp2
  refine bodyPost_ret (v := .agg #[.int .i64 q, .int .i64 p, .slice (some ⟨g, 0, none⟩) xs.length xs.length]) (by simp [results, Try.results72, go_sem, r0, r1, r2]) rfl ⟨g, rfl, ?_, ?_⟩
  · have n1 : (Value.slice (some ⟨g, 0, none⟩) xs.length xs.length).ownBlock ≠ some (w.heap.size + 1 + 1) := by simp [Value.ownBlock]; omega
    have n2 : (Value.slice (some ⟨g, 0, none⟩) xs.length xs.length).ownBlock ≠ some (w.heap.size + 1) := by simp [Value.ownBlock]; omega
    exact (((HO.out.set n1 _).set n2 _).set n2 _).set n2 _
  · exact (((hch.setCell (Or.inr (by show w.heap.size ≤ w.heap.size + 1 + 1; omega)) _).setCell (Or.inr (by show w.heap.size ≤ w.heap.size + 1; omega)) _).setCell (Or.inr (by show w.heap.size ≤ w.heap.size + 1; omega)) _).setCell (Or.inr (by show w.heap.size ≤ w.heap.size + 1; omega)) _

theorem op_take_set (ps : List Opx) (k : Nat) (h : k < ps.length) : (ps.take k ++ List.replicate (ps.length - k) Opx.zero).set k (ps.getD k Opx.zero) = ps.take (k + 1) ++ List.replicate (ps.length - (k + 1)) Opx.zero := by
  have e : ps.length - k = (ps.length - (k + 1)) + 1 := by omega
  rw [e, List.replicate_succ, List.set_append]
  simp only [List.length_take, Nat.min_eq_left (Nat.le_of_lt h), Nat.lt_irrefl, if_false, Nat.sub_self, List.set_cons_zero]
  have e2 : ps.getD k Opx.zero = ps[k] := by simp [List.getD_eq_getElem?_getD, h]
  rw [List.take_succ_eq_append_getElem h, List.append_assoc, e2]
  rfl

theorem made3_get (z0 z1 z2 : Value) (n i : Nat) (h : i < n) : (madeCells #[z0, z1, z2] (n * 3)).toList[i * 3]? = some z0 ∧ (madeCells #[z0, z1, z2] (n * 3)).toList[i * 3 + 1]? = some z1 ∧ (madeCells #[z0, z1, z2] (n * 3)).toList[i * 3 + 2]? = some z2 := by
  have h1 : i * 3 < n * 3 := by omega
  have h2 : i * 3 + 1 < n * 3 := by omega
  have h3 : i * 3 + 2 < n * 3 := by omega
  have m1 : i * 3 % 3 = 0 := by omega
  have m2 : (i * 3 + 1) % 3 = 1 := by omega
  have m3 : (i * 3 + 2) % 3 = 2 := by omega
  refine ⟨?_, ?_, ?_⟩
  · simp [madeCells, h1, m1]
  · simp [madeCells, h2, m2]
  · simp [madeCells, h3, m3]

set_option maxRecDepth 20000 in
set_option maxHeartbeats 1000000 in
theorem toOpS_some (w : World) (ps : List Opx) (lo hi b off cap : Nat) (hl : cntO ps ≤ 1048576)
    (h1 : ∀ i, i < ps.length → ∃ dv, w.cell? ⟨b, off + i * 3, none⟩ = some (.int .i64 (ps.getD i Opx.zero).1) ∧ w.cell? ⟨b, off + i * 3 + 1, none⟩ = some (.int .i64 (ps.getD i Opx.zero).2.1) ∧ w.cell? ⟨b, off + i * 3 + 2, none⟩ = some dv ∧ View w lo hi .u8 dv (ps.getD i Opx.zero).2.2) :
    Calls Try.prog 40 #[.slice (some ⟨b, off, none⟩) ps.length cap] w fun e w' => ∃ g, e = .returned (.slice (some ⟨g, 0, none⟩) ps.length ps.length) ∧
      (∃ cells dvs, OwnOx w' w.heap.size 89 5 (.slice (some ⟨g, 0, none⟩) ps.length ps.length) ps cells dvs) ∧ Chg 0 0 w w' := by
  obtain ⟨i, hi, hz0, hz1, hz2⟩ := info_parts Try.infoO
  have hlp := cntO_ge ps
  go_enter Try.func40, Try.ntmps40
  go_wp2_with (at_make; refine wpList_make_full _ rfl _ _ 47 rfl w.heap.size 89 i (.agg #[.int .i64 0, .int .i64 0, .slice none 0 0]) 3 Try.underlying47 hi hz0 hz1 _ _ _ _ ps.length rfl rfl rfl rfl (by rw [hz2]; omega) (by unfold maxLen; omega) (by simp) ?_)
  intro w1 hown hgrow
  have hch : Chg 0 0 w w1 := Chg.ofGrown hgrow (by simp)
  have hO : OwnOx w1 w.heap.size 89 5 (.slice (some ⟨w.heap.size, 0, none⟩) ps.length ps.length) (ps.take 0 ++ List.replicate (ps.length - 0) Opx.zero) (madeCells #[.int .i64 0, .int .i64 0, .slice none 0 0] (ps.length * 3)).toList (fun _ => .slice none 0 0) := by
    simp only [List.take_zero, List.nil_append, Nat.sub_zero]
    refine ⟨by rw [List.length_replicate]; exact hown, ?_, ?_, ?_, ?_, ?_⟩
    · intro i hi
      rw [List.length_replicate] at hi
      rw [(made3_get _ _ _ _ _ hi).1]; simp [List.getD_eq_getElem?_getD, hi]
    · intro i hi
      rw [List.length_replicate] at hi
      rw [(made3_get _ _ _ _ _ hi).2.1]; simp [List.getD_eq_getElem?_getD, hi]
    · intro i hi
      rw [List.length_replicate] at hi
      exact (made3_get _ _ _ _ _ hi).2.2
    · intro i hi
      rw [List.length_replicate] at hi
      simp only [List.getD_eq_getElem?_getD, List.getElem?_replicate, hi, if_true, Option.getD_some]
      exact OwnB.nil _ _ _
    · intro i j g _ _ h; cases h
  clear hown hgrow
  go_wp2
  go_loopw [4] (fun i wr => ∃ k : Nat, k ≤ ps.length ∧ i = .int .i64 k ∧ (∃ cells dvs, OwnOx wr w.heap.size 89 5 (.slice (some ⟨w.heap.size, 0, none⟩) ps.length ps.length) (ps.take k ++ List.replicate (ps.length - k) Opx.zero) cells dvs) ∧ Chg 0 0 w wr) (fun i _ => ps.length - (intOf i).toNat)
  case atStart => exact ⟨0, Nat.zero_le _, rfl, ⟨_, _, hO⟩, hch⟩
  case round =>
    obtain ⟨k, hk, rfl, ⟨cells, dvs, hown⟩, hc⟩ := hrel
    clear hO hch
    have hlen : (ps.take k ++ List.replicate (ps.length - k) (Opx.zero : Opx)).length = ps.length := by simp; omega
    by_cases hlt : k < ps.length
    · obtain ⟨d1, c1, c2, c3, v1⟩ := h1 k hlt
      clear h1
      have Hput := op_take_set ps k hlt
      have hxl : (ps.getD k Opx.zero).2.2.length ≤ 1048576 := by have := cntO_data hlt; omega
      have HP : Hid ((ps.take k ++ List.replicate (ps.length - k) Opx.zero).set k ((ps.getD k Opx.zero).1, (ps.getD k Opx.zero).2.1, (ps.getD k Opx.zero).2.2) = ps.take (k + 1) ++ List.replicate (ps.length - (k + 1)) Opx.zero) := Hput
      clear Hput
      generalize (ps.getD k Opx.zero).1 = q at *
      generalize (ps.getD k Opx.zero).2.1 = p at *
      generalize (ps.getD k Opx.zero).2.2 = xs at *
      have c1 := hc.cell c1 (by omega)
      have c2 := hc.cell c2 (by omega)
      have c3 := hc.cell c3 (by omega)
      have v1 := v1.chg hc (by omega)
      have hik : (k : Int) < (ps.length : Int) := by omega
      go_wp2_with fail
      refine (toOp_calls _ q p hxl v1).mono ?_
      rintro e w2 ⟨g, rfl, ho, hs⟩
      have hsz := hc.size
      have hgb := (ho.lt g rfl).1
      have hown2 := hown.chg hs (by intro g _; omega) (by intro i g _ _; omega)
      have hrow2 := hown2.row
      rw [hlen] at hrow2
      have hcl : cells.length = ps.length * 3 := hrow2.1
      have e0 : ∃ u, w2.cell? ⟨w.heap.size, k * 3, none⟩ = some u := ⟨_, (World.ownsRow.cellAt hrow2 (k * 3) (by omega)).trans (List.getElem?_eq_getElem (by omega))⟩
      have e1 : ∃ u, w2.cell? ⟨w.heap.size, k * 3 + 1, none⟩ = some u := ⟨_, (World.ownsRow.cellAt hrow2 (k * 3 + 1) (by omega)).trans (List.getElem?_eq_getElem (by omega))⟩
      have e2 : ∃ u, w2.cell? ⟨w.heap.size, k * 3 + 2, none⟩ = some u := ⟨_, (World.ownsRow.cellAt hrow2 (k * 3 + 2) (by omega)).trans (List.getElem?_eq_getElem (by omega))⟩
      obtain ⟨u0, e0⟩ := e0
      obtain ⟨u1, e1⟩ := e1
      obtain ⟨u2, e2⟩ := e2
      have f0 := World.ownsRow.frozenAt hrow2 (k * 3)
      have f1 := World.ownsRow.frozenAt hrow2 (k * 3 + 1)
      have f2 := World.ownsRow.frozenAt hrow2 (k * 3 + 2)
      have hp := hown2.put hlen hlt (by decide) q p xs _ (ho.base (fun g' hg' => by cases hg'; show w.heap.size ≤ g; omega)) (by
        intro i g' hi hg' e
        have := ((hown.data i (by rw [hlen]; exact hi)).lt g' hg').2
        cases e
        simp at this hgb; omega)
      rw [HP.out] at hp
      have HR : Hid (∃ cells' dvs', OwnOx (((w2.setCell ⟨w.heap.size, k * 3, none⟩ (.int .i64 q)).setCell ⟨w.heap.size, k * 3 + 1, none⟩ (.int .i64 p)).setCell ⟨w.heap.size, k * 3 + 2, none⟩ (.slice (some ⟨g, 0, none⟩) xs.length xs.length)) w.heap.size 89 5 (.slice (some ⟨w.heap.size, 0, none⟩) ps.length ps.length) (ps.take (k + 1) ++ List.replicate (ps.length - (k + 1)) Opx.zero) cells' dvs') := ⟨_, _, hp⟩
      have HR2 : Hid (Chg 0 0 w (((w2.setCell ⟨w.heap.size, k * 3, none⟩ (.int .i64 q)).setCell ⟨w.heap.size, k * 3 + 1, none⟩ (.int .i64 p)).setCell ⟨w.heap.size, k * 3 + 2, none⟩ (.slice (some ⟨g, 0, none⟩) xs.length xs.length))) :=
        (((hc.trans hs).setCell (Or.inr (Nat.le_refl _)) _).setCell (Or.inr (Nat.le_refl _)) _).setCell (Or.inr (Nat.le_refl _)) _
      clear hp hown hown2 hrow2 hcl ho hs hc v1 c1 c2 c3 HP hlen
      go_wp2
      go_roundw
      case rel => exact ⟨k + 1, by omega, by go_num, HR.out, HR2.out⟩
      case measure => simp [intOf]; omega
    · obtain rfl : k = ps.length := by omega
      have HR : Hid (∃ cells dvs, OwnOx wr w.heap.size 89 5 (.slice (some ⟨w.heap.size, 0, none⟩) ps.length ps.length) ps cells dvs) := by
        have := hown; rw [List.take_length, Nat.sub_self, List.replicate_zero, List.append_nil] at this; exact ⟨_, _, this⟩
      clear hown hlen h1
      go_wp2
      go_ret
      exact ⟨_, rfl, HR.out, hc⟩

set_option maxRecDepth 20000 in
set_option maxHeartbeats 400000 in
theorem toOpS_none (w : World) (ao : Option Addr) (cap : Nat) :
    Calls Try.prog 40 #[.slice ao 0 cap] w fun e w' => ∃ g, e = .returned (.slice (some ⟨g, 0, none⟩) 0 0) ∧
      (∃ cells dvs, OwnOx w' w.heap.size 89 5 (.slice (some ⟨g, 0, none⟩) 0 0) [] cells dvs) ∧ Chg 0 0 w w' := by
  obtain ⟨i, hi, hz0, hz1, hz2⟩ := info_parts Try.infoO
  go_enter Try.func40, Try.ntmps40
  go_wp2_with (at_make; refine wpList_make_full _ rfl _ _ 47 rfl w.heap.size 89 i (.agg #[.int .i64 0, .int .i64 0, .slice none 0 0]) 3 Try.underlying47 hi hz0 hz1 _ _ _ _ 0 rfl rfl rfl rfl (by omega) (by unfold maxLen; omega) (by simp) ?_)
  intro w1 hown hgrow
  have hch : Chg 0 0 w w1 := Chg.ofGrown hgrow (by simp)
  have HO : Hid (∃ cells dvs, OwnOx w1 w.heap.size 89 5 (.slice (some ⟨w.heap.size, 0, none⟩) 0 0) [] cells dvs) :=
    ⟨_, fun _ => .slice none 0 0, hown, by simp, by simp, by simp, by simp, by simp⟩
  clear hown hgrow
  go_wp2
  refine wp_loop_rounds 1 ?_; rw [rounds_succ]
  go_wp2
  go_ret
  exact ⟨_, rfl, HO.out, hch⟩

theorem toOpS_calls (w : World) {lo hi : Nat} {a : Value} {ps : List Opx} (hl : cntO ps ≤ 1048576) (h1 : OView w lo hi a ps) :
    Calls Try.prog 40 #[a] w fun e w' => ∃ g, e = .returned (.slice (some ⟨g, 0, none⟩) ps.length ps.length) ∧
      (∃ cells dvs, OwnOx w' w.heap.size 89 5 (.slice (some ⟨g, 0, none⟩) ps.length ps.length) ps cells dvs) ∧ Chg 0 0 w w' := by
  obtain ⟨ao, cap, rfl, _, _, h1⟩ := h1
  rcases h1 with rfl | ⟨x, off, rfl, _, _, h1⟩
  · exact toOpS_none w ao cap
  · exact toOpS_some w ps lo hi x off cap hl h1

set_option maxRecDepth 20000 in
set_option maxHeartbeats 1000000 in
theorem markOpS_some (w : World) (base : Nat) (ps : List Opx) (k0 g cap lo hi : Nat) (hl : cntO ps ≤ 1048576) (hk0 : k0 ≤ 1073741824)
    (cells : List Value) (dvs : Nat → Value) (h1 : OwnOx w base 89 5 (.slice (some ⟨g, 0, none⟩) ps.length cap) ps cells dvs) (hg : lo ≤ g ∧ g < hi)
    (hb : ∀ i g', i < ps.length → (dvs i).ownBlock = some g' → lo ≤ g' ∧ g' < hi) :
    Calls Try.prog 42 #[.slice (some ⟨g, 0, none⟩) ps.length cap, .int .i64 k0] w fun r w' => (∃ n : Nat, r = .returned (.int .i64 n)) ∧ Chg lo hi w w' := by
  have hlp := cntO_ge ps
  obtain ⟨gcur, hgcur⟩ := h1.row_elem
  have hap := h1.apart
  go_enter Try.func42, Try.ntmps42
  go_wp2
  go_loopw [1, 5] (fun q i wr => ∃ k n : Nat, k ≤ ps.length ∧ i = .int .i64 k ∧ q = .int .i64 n ∧ n ≤ k0 + 2 * cntO (ps.take k) ∧
      (∃ cells', wr.ownsRow base 89 3 (.slice (some ⟨g, 0, none⟩) ps.length cap) ps.length cells' ∧ (∀ j, j < ps.length → cells'[j * 3 + 2]? = some (dvs j))) ∧ (∀ j, k ≤ j → j < ps.length → OwnB wr base 5 (dvs j) (ps.getD j Opx.zero).2.2) ∧ Chg lo hi w wr) (fun _ i _ => ps.length - (intOf i).toNat)
  case atStart => exact ⟨0, k0, Nat.zero_le _, rfl, rfl, by omega, ⟨cells, h1.row, h1.at2⟩, fun j _ hj => h1.data j hj, Chg.refl _ _ _⟩
  case round =>
    obtain ⟨k, n, hk, rfl, rfl, hn, ⟨cells', hrow, hat⟩, hdat, hch⟩ := hrel
    clear h1
    by_cases hlt : k < ps.length
    · have hlen : cells'.length = ps.length * 3 := hrow.1
      obtain ⟨cur, hcur⟩ : ∃ cur, wr.heap[g]? = some (.cells cur 89 (0, 0)) := by
        rcases hrow.2 with ⟨h', _⟩ | ⟨g', cap', cur, h', hb', hg', _⟩
        · cases h'
        · simp only [Value.slice.injEq, Option.some.injEq, Addr.mk.injEq, and_true] at h'
          obtain ⟨rfl, _⟩ := h'
          exact ⟨cur, hg'⟩
      have e0 : ∃ u, wr.cell? ⟨g, k * 3, none⟩ = some u := ⟨_, (World.ownsRow.cellAt hrow (k * 3) (by omega)).trans (List.getElem?_eq_getElem (by omega))⟩
      have e1 : ∃ u, wr.cell? ⟨g, k * 3 + 1, none⟩ = some u := ⟨_, (World.ownsRow.cellAt hrow (k * 3 + 1) (by omega)).trans (List.getElem?_eq_getElem (by omega))⟩
      have c2 : wr.cell? ⟨g, k * 3 + 2, none⟩ = some (dvs k) := (World.ownsRow.cellAt hrow (k * 3 + 2) (by omega)).trans (hat k hlt)
      obtain ⟨u0, e0⟩ := e0
      obtain ⟨u1, e1⟩ := e1
      have f0 := World.ownsRow.frozenAt hrow (k * 3)
      have f1 := World.ownsRow.frozenAt hrow (k * 3 + 1)
      have hik : (k : Int) < (ps.length : Int) := by omega
      have hcs := cntO_take_succ ps k hlt
      have hcl := cntO_take_le ps (k + 1)
      have st := (World.ownsRow.stored (World.ownsRow.stored hrow (k * 3) (.int .i64 n)).1 (k * 3 + 1) (.int .i64 ((n : Int) + 1))).1
      have C2 : Chg g (g + 1) wr ((wr.setCell ⟨g, k * 3, none⟩ (.int .i64 n)).setCell ⟨g, k * 3 + 1, none⟩ (.int .i64 ((n : Int) + 1))) := Chg.setCell (p := ⟨g, k * 3 + 1, none⟩) (Chg.setCell (p := ⟨g, k * 3, none⟩) (Chg.refl _ _ _) (Or.inl ⟨Nat.le_refl _, Nat.lt_succ_self _⟩) _) (Or.inl ⟨Nat.le_refl _, Nat.lt_succ_self _⟩) _
      have ned : ∀ j, k ≤ j → j < ps.length → ∀ g', (dvs j).ownBlock = some g' → g' ≠ g := by
        intro j hj1 hj2 g' hg' e
        exact (hdat j hj1 hj2).ne_row hcur (by decide) (by rw [hg', e])
      have hdat2 : ∀ j, k ≤ j → j < ps.length → OwnB ((wr.setCell ⟨g, k * 3, none⟩ (.int .i64 n)).setCell ⟨g, k * 3 + 1, none⟩ (.int .i64 ((n : Int) + 1))) base 5 (dvs j) (ps.getD j Opx.zero).2.2 :=
        fun j hj1 hj2 => (hdat j hj1 hj2).chg C2 (fun g' hg' => by have := ned j hj1 hj2 g' hg'; omega)
      have hM := markByteS_calls ((wr.setCell ⟨g, k * 3, none⟩ (.int .i64 n)).setCell ⟨g, k * 3 + 1, none⟩ (.int .i64 ((n : Int) + 1))) base 5 (dvs k) (ps.getD k Opx.zero).2.2 (n + 2) lo hi (by omega) (by omega) (hdat2 k (Nat.le_refl _) hlt) (hb k · hlt)
      have HC2 : Hid (Chg lo hi w ((wr.setCell ⟨g, k * 3, none⟩ (.int .i64 n)).setCell ⟨g, k * 3 + 1, none⟩ (.int .i64 ((n : Int) + 1)))) := hch.step C2 (Or.inl ⟨hg.1, by omega⟩)
      have Hst : Hid (((wr.setCell ⟨g, k * 3, none⟩ (.int .i64 n)).setCell ⟨g, k * 3 + 1, none⟩ (.int .i64 ((n : Int) + 1))).ownsRow base 89 3 (.slice (some ⟨g, 0, none⟩) ps.length cap) ps.length ((cells'.set (k * 3) (.int .i64 n)).set (k * 3 + 1) (.int .i64 ((n : Int) + 1)))) := st
      have Hat : Hid (∀ j, j < ps.length → ((cells'.set (k * 3) (.int .i64 n)).set (k * 3 + 1) (.int .i64 ((n : Int) + 1)))[j * 3 + 2]? = some (dvs j)) := by
        intro j hj
        rw [List.getElem?_set_ne (by omega), List.getElem?_set_ne (by omega)]; exact hat j hj
      have Hd2 : Hid (∀ j, k ≤ j → j < ps.length → OwnB ((wr.setCell ⟨g, k * 3, none⟩ (.int .i64 n)).setCell ⟨g, k * 3 + 1, none⟩ (.int .i64 ((n : Int) + 1))) base 5 (dvs j) (ps.getD j Opx.zero).2.2) := hdat2
      have Hned : Hid (∀ j, k ≤ j → j < ps.length → ∀ g', (dvs j).ownBlock = some g' → g' ≠ g) := ned
      have Hcs : Hid (cntO (ps.take (k + 1)) = cntO (ps.take k) + ((ps.getD k Opx.zero).2.2.length + 1)) := hcs
      have E2 : Hid ((n : Int) + 1 + 1 = ((n + 2 : Nat) : Int)) := by show _ = _; omega
      have hnb : n ≤ 1099511627776 := by omega
      generalize hxs : (ps.getD k Opx.zero).2.2.length = m at *
      clear hxs hrow hat hdat hch st hdat2 ned hlen hcs hcl C2
      go_wp2_with fail
      rw [E2.out]
      refine hM.mono ?_
      rintro e w2 ⟨rfl, ho, hc1, hcg, hc0⟩
      have R1 : Hid (∃ cells'', w2.ownsRow base 89 3 (.slice (some ⟨g, 0, none⟩) ps.length cap) ps.length cells'' ∧ (∀ j, j < ps.length → cells''[j * 3 + 2]? = some (dvs j))) := by
        refine ⟨_, ?_, Hat.out⟩
        cases hob : (dvs k).ownBlock with
        | none => rw [hc0 hob]; exact Hst.out
        | some g' =>
          have hne := Hned.out k (Nat.le_refl _) hlt g' hob
          obtain ⟨h1, h2⟩ := Hst.out
          refine ⟨h1, ?_⟩
          rcases h2 with h2 | ⟨j, cp, cr, hv, hj, hh, r⟩
          · exact Or.inl h2
          · refine Or.inr ⟨j, cp, cr, hv, hj, ?_, r⟩
            simp only [Value.slice.injEq, Option.some.injEq, Addr.mk.injEq, and_true] at hv
            rw [(hcg g' hob).block j (Array.getElem?_eq_some_iff.1 hh).1 (by omega)]; exact hh
      have R2 : Hid (∀ j, k + 1 ≤ j → j < ps.length → OwnB w2 base 5 (dvs j) (ps.getD j Opx.zero).2.2) := by
        intro j hj1 hj2
        cases hob : (dvs k).ownBlock with
        | none => rw [hc0 hob]; exact Hd2.out j (by omega) hj2
        | some g' => exact (Hd2.out j (by omega) hj2).chg (hcg g' hob) (fun g'' hg'' => by
            have : g'' ≠ g' := fun e => hap k j g' (by omega) hj2 hob (by rw [hg'', e])
            omega)
      have R3 : Hid (Chg lo hi w w2) := HC2.out.trans hc1
      clear ho hc1 hcg hc0 hM HC2 Hst Hat Hd2 Hned e0 e1 c2 f0 f1
      have hnm : n + 2 + m ≤ 1099511627776 + 1048578 := by have := Hcs.out; have := cntO_take_le ps (k + 1); omega
      go_wp2
      go_roundw
      case rel => exact ⟨k + 1, n + 2 + m, by omega, by go_num, by go_num, by have := Hcs.out; omega, R1.out, R2.out, R3.out⟩
      case measure => simp [intOf]; omega
    · clear hrow hat hdat
      go_wp2
      go_ret
      exact ⟨⟨n, rfl⟩, hch⟩

set_option maxRecDepth 20000 in
set_option maxHeartbeats 400000 in
theorem markOpS_none (w : World) (ao : Option Addr) (k0 cap : Nat) :
    Calls Try.prog 42 #[.slice ao 0 cap, .int .i64 k0] w fun r w' => r = .returned (.int .i64 (k0 : Int)) ∧ w' = w := by
  go_enter Try.func42, Try.ntmps42
  go_wp2
  refine wp_loop_rounds 1 ?_; rw [rounds_succ]
  go_wp2
  go_ret
  exact ⟨rfl, rfl⟩

end Go.Proofs.Ytplfehjaakkldaa
