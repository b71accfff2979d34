/- What survives, in the program: lastRevokes. -/
import Derived.Test.YtmfcaiadcmgjbaaSurvMap
namespace Go.Proofs.Ytmfcaiadcmgjbaa
open Go.RowKit

/-- A map of revokes that is one's own. -/
def RevM (w w' : World) (ts : List Tx) : Prop := ∃ n D, w'.ownsMap Try.prog 2 (plainElem (H := Unit) Try.prog 3) w.heap.size n D ∧ n ≤ 20000 ∧ SaysF (.lit (.int .i64 0)) D (fun x => (revsL ts x).map fun p => .lit (.int .i64 (p : Nat)))

set_option maxRecDepth 20000 in
set_option maxHeartbeats 4000000 in
theorem lastRevokes_some (w : World) (ts : List Tx) (lo hi b off cap : Nat) (hn : numT ts ≤ 10000) (hL : ts.length ≤ 512) (hbw : b < w.heap.size) (hwf : ∀ i, i < ts.length → ∀ x ∈ (ts.getD i Tx.none).revs, (Lit.int .i64 x).wf = true) (h1 : ∀ i, i < ts.length → TAt w lo hi b (off + i * 3) (ts.getD i Tx.none)) :
    Calls Try.prog 19 #[.slice (some ⟨b, off, none⟩) ts.length cap] w fun e w' => e = .returned (.map (some w.heap.size)) ∧ RevM w w' ts ∧ Chg 0 0 w w' := by
  have K := Maps.int_keyed (P := Try.prog) (k := 2) Try.underlying2
  have H1 : Hid (∀ i, i < ts.length → TAt w lo hi b (off + i * 3) (ts.getD i Tx.none)) := h1
  have HW : Hid (∀ i, i < ts.length → ∀ x ∈ (ts.getD i Tx.none).revs, (Lit.int .i64 x).wf = true) := hwf
  have hmk : ∀ x : World, (Instr.makeMap 49 none).run Try.prog x = .ok (.map (some x.heap.size)) (x.alloc (.map #[] 0)) := fun _ => rfl
  have hM0 := World.ownsMap_made w Try.prog 2 (plainElem (H := Unit) Try.prog 3)
  have hC0 : Chg 0 0 w (w.alloc (.map #[] 0)) := Chg.alloc (Chg.refl 0 0 w) _
  have hs0 : w.heap.size < (w.alloc (.map #[] 0)).heap.size := by simp
  clear h1 hwf
  go_enter Try.func19, Try.ntmps19
  go_wp2
  generalize w.alloc (.map #[] 0) = w1 at *
  go_loopw [11, 4, 5, 7] (fun x _ _ _ wr => ∃ (k n : Nat) (D : DataW Unit), k ≤ ts.length ∧ x = .int .i64 k ∧ wr.ownsMap Try.prog 2 (plainElem Try.prog 3) w.heap.size n D ∧ n ≤ numT (ts.take k) ∧ SaysF (.lit (.int .i64 0)) D (fun x => (revsL (ts.take k) x).map fun p => .lit (.int .i64 (p : Nat))) ∧ w.heap.size < wr.heap.size ∧ Chg 0 0 w wr) (fun x _ _ _ _ => ts.length - (RowKit.intOf x).toNat)
  case atStart => exact ⟨0, 0, _, Nat.zero_le _, rfl, hM0, Nat.zero_le _, SaysF.nil _, hs0, hC0⟩
  case round =>
    clear hM0 hC0 hs0
    obtain ⟨k, n, D, hk, rfl, hm, hnn, hsy, hsz, hch⟩ := hrel
    by_cases hlt : k < ts.length
    · have hi' : (k : Int) < (ts.length : Int) := by omega
      obtain ⟨hv, rv, c0, c1, c2, p1, v1⟩ := H1.out k hlt
      replace c0 := hch.cell c0 (by omega)
      replace c1 := hch.cell c1 (by omega)
      replace c2 := hch.cell c2 (by omega)
      have hwr := HW.out k hlt
      have HU : Hid (numT (ts.take (k + 1)) = numT (ts.take k) + ((ts.getD k Tx.none).homes.length + (ts.getD k Tx.none).revs.length)) := numT_succ ts k hlt
      have hb1 : numT (ts.take k) + ((ts.getD k Tx.none).homes.length + (ts.getD k Tx.none).revs.length) ≤ 10000 := by have := numT_le ts (k + 1); rw [HU.out] at this; omega
      have HT : Hid (∀ x, revsAt (ts.take k) k (ts.getD k Tx.none).revs x = (revsL (ts.take (k + 1)) x).map fun p => .lit (.int .i64 (p : Nat))) := by
        intro x
        have := revsAt_done (ts.take k) (ts.getD k Tx.none) x
        rw [List.length_take, Nat.min_eq_left hk] at this
        rw [this, List.take_succ_eq_append_getElem hlt, List.getD_eq_getElem?_getD, List.getElem?_eq_getElem hlt]; rfl
      have hs' := hsy.congr (fun x => (revsAt_nil (ts.take k) k x).symm)
      obtain ⟨pa, pc, rfl, _⟩ := p1
      obtain ⟨va, vc, rfl, _, _, v1⟩ := v1
      generalize (ts.getD k Tx.none).homes = hs at *
      generalize (ts.getD k Tx.none).revs = rs at *
      generalize (ts.getD k Tx.none).seq = sq at *
      generalize numT (ts.take k) = nn at *
      have hgw : b < wr.heap.size := by have := hch.size; omega
      have CA : Chg 0 0 wr (wr.alloc (.cells #[.int .i64 sq, .slice pa hs.length pc, .slice va rs.length vc] 39)) := Chg.alloc (Chg.refl 0 0 wr) _
      have hmA := hm.alloc (.cells #[.int .i64 sq, .slice pa hs.length pc, .slice va rs.length vc] 39)
      have hcA := hch.trans CA
      have hsA : w.heap.size < (wr.alloc (.cells #[.int .i64 sq, .slice pa hs.length pc, .slice va rs.length vc] 39)).heap.size := by have := CA.size; omega
      clear hm hch CA
      go_wp2
      generalize wr.alloc (.cells #[.int .i64 sq, .slice pa hs.length pc, .slice va rs.length vc] 39) = wA at *
      go_loopw [19, 7] (fun x _ w3 => ∃ (j n : Nat) (D : DataW Unit), j ≤ rs.length ∧ x = .int .i64 j ∧ w3.ownsMap Try.prog 2 (plainElem Try.prog 3) w.heap.size n D ∧ n ≤ nn + j ∧ SaysF (.lit (.int .i64 0)) D (revsAt (ts.take k) k (rs.take j)) ∧ w.heap.size < w3.heap.size ∧ Chg 0 0 w w3) (fun x _ _ => rs.length - (RowKit.intOf x).toNat)
      case atStart => exact ⟨0, n, D, Nat.zero_le _, rfl, hmA, by omega, hs', hsA, hcA⟩
      case round =>
        clear hmA hcA hsA hs' hsy c0 c1 c2
        obtain ⟨j, n2, D2, hj, rfl, hm2, hn2, hs2, hz2, hch2⟩ := hrel
        by_cases hlt2 : j < rs.length
        · have hj' : (j : Int) < (rs.length : Int) := by omega
          obtain ⟨vb, vo, rfl, _, _, vce⟩ := v1.resolve_left (fun h => by rw [h] at hlt2; exact absurd hlt2 (Nat.not_lt_zero j))
          have c3 := hch2.cell (vce j hlt2) (by omega)
          have hwx := hwr (rs.getD j 0) (by rw [List.getD_eq_getElem?_getD, List.getElem?_eq_getElem hlt2]; exact List.getElem_mem hlt2)
          have HF : Hid (rs.take (j + 1) = rs.take j ++ [rs.getD j 0]) := by
            show _ = _
            rw [List.take_succ_eq_append_getElem hlt2, List.getD_eq_getElem?_getD, List.getElem?_eq_getElem hlt2]; rfl
          generalize rs.getD j 0 = r at *
          have hs3 := (hs2.put r (.lit (.int .i64 (k : Nat)))).congr (fun x => (revsAt_snoc (ts.take k) k (rs.take j) r x).symm)
          rw [← HF.out] at hs3
          have HS3 : Hid (SaysF (.lit (.int .i64 0)) (D2.put (kI r) (.lit (.int .i64 (k : Nat)))) (revsAt (ts.take k) k (rs.take (j + 1)))) := hs3
          have hvk := plainElem_int (H := Unit) (P := Try.prog) Try.underlying3 (a := (k : Int)) (by
            show (decide (IntKind.i64.min ≤ (k : Int)) && decide ((k : Int) ≤ IntKind.i64.max)) = true
            rw [decide_eq_true (show IntKind.i64.min ≤ (k : Int) from Int.le_trans (by decide : IntKind.i64.min ≤ 0) (by omega)), decide_eq_true (show (k : Int) ≤ IntKind.i64.max from Int.le_trans (by omega : (k : Int) ≤ 512) (by decide))]
            rfl)
          have HM : Hid (wr.ownsMap Try.prog 2 (plainElem Try.prog 3) w.heap.size n2 D2) := hm2
          have HC : Hid (Chg 0 0 w wr) := hch2
          clear hm2 hs2 hs3 hch2 vce
          go_wp2_with (first
            | (at_mapUpdate; refine wpList_mapUpdate_own _ rfl _ _ _ 49 rfl 2 3 K Try.underlying49 _ w.heap.size n2 D2 rfl HM.out (by unfold maxLen; omega) _ _ (kI r) rfl rfl (kI_of hwx) (.lit (.int .i64 (k : Nat))) [] hvk ?_))
          intro w5 hm5 hg5
          have HC5 : Hid (Chg 0 0 w w5) := ⟨hg5.os.trans HC.out.os, hg5.tape.trans HC.out.tape, hg5.output.trans HC.out.output, Nat.le_trans HC.out.size hg5.size, fun i hi _ => (hg5.block i (Nat.lt_of_lt_of_le hi HC.out.size) (by intro e; injection e with e; omega)).trans (HC.out.block i hi (by omega))⟩
          have HM5 : Hid (w5.ownsMap Try.prog 2 (plainElem Try.prog 3) w.heap.size (n2 + 1) (D2.put (kI r) (.lit (.int .i64 (k : Nat))))) := hm5
          have hz5 : w.heap.size < w5.heap.size := by have := hg5.size; omega
          clear hm5 hg5 c3
          go_wp2
          go_roundw
          case rel => exact ⟨j + 1, n2 + 1, _, by omega, by go_num, HM5.out, by omega, HS3.out, hz5, HC5.out⟩
          case measure => simp [RowKit.intOf]; omega
        · obtain rfl : j = rs.length := by omega
          rw [List.take_length] at hs2
          have HS2 : Hid (SaysF (.lit (.int .i64 0)) D2 (fun x => (revsL (ts.take (k + 1)) x).map fun p => .lit (.int .i64 (p : Nat)))) := hs2.congr HT.out
          have HM : Hid (wr.ownsMap Try.prog 2 (plainElem Try.prog 3) w.heap.size n2 D2) := hm2
          have HC : Hid (Chg 0 0 w wr) := hch2
          have hj' : ¬ ((rs.length : Int) < (rs.length : Int)) := by omega
          have hn3 : n2 ≤ numT (ts.take (k + 1)) := by rw [HU.out]; omega
          clear hm2 hs2 hch2
          go_wp2
          go_roundw
          case rel => exact ⟨k + 1, n2, D2, by omega, by go_num, HM.out, hn3, HS2.out, hz2, HC.out⟩
          case measure => simp [RowKit.intOf]; omega
    · obtain rfl : k = ts.length := by omega
      rw [List.take_length] at hsy hnn
      have HM : Hid (wr.ownsMap Try.prog 2 (plainElem Try.prog 3) w.heap.size n D) := hm
      have HS : Hid (SaysF (.lit (.int .i64 0)) D (fun x => (revsL ts x).map fun p => .lit (.int .i64 (p : Nat)))) := hsy
      have HC : Hid (Chg 0 0 w wr) := hch
      have hi' : ¬ ((ts.length : Int) < (ts.length : Int)) := by omega
      clear hm hsy hch
      go_wp2
      go_ret
      exact ⟨rfl, ⟨n, D, HM.out, by omega, HS.out⟩, HC.out⟩

theorem lastRevokes_none (w : World) (ao : Option Addr) (cap : Nat) :
    Calls Try.prog 19 #[.slice ao 0 cap] w fun e w' => e = .returned (.map (some w.heap.size)) ∧ RevM w w' [] ∧ Chg 0 0 w w' := by
  have hmk : ∀ x : World, (Instr.makeMap 49 none).run Try.prog x = .ok (.map (some x.heap.size)) (x.alloc (.map #[] 0)) := fun _ => rfl
  have HM0 : Hid (RevM w (w.alloc (.map #[] 0)) []) := ⟨0, _, World.ownsMap_made w Try.prog 2 (plainElem (H := Unit) Try.prog 3), by omega, SaysF.nil _⟩
  have HC0 : Hid (Chg 0 0 w (w.alloc (.map #[] 0))) := Chg.alloc (Chg.refl 0 0 w) _
  go_enter Try.func19, Try.ntmps19
  go_wp2
  go_loopw [11, 4, 5, 7] (fun x _ _ _ wr => x = .int .i64 0 ∧ wr = w.alloc (.map #[] 0)) (fun _ _ _ _ _ => 0)
  case atStart => exact ⟨rfl, rfl⟩
  case round =>
    obtain ⟨rfl, rfl⟩ := hrel
    go_wp2
    go_ret
    exact ⟨rfl, HM0.out, HC0.out⟩
/-- lastRevokes of the program. -/
theorem lastRevokes_calls (w : World) {lo hi : Nat} {a : Value} {ts : List Tx} (hn : numT ts ≤ 10000) (hL : ts.length ≤ 512) (hwf : ∀ i, i < ts.length → ∀ x ∈ (ts.getD i Tx.none).revs, (Lit.int .i64 x).wf = true) (h1 : TSView w lo hi a ts) :
    Calls Try.prog 19 #[a] w fun e w' => e = .returned (.map (some w.heap.size)) ∧ RevM w w' ts ∧ Chg 0 0 w w' := by
  obtain ⟨ao, cap, rfl, _, _, h1⟩ := h1
  rcases h1 with rfl | ⟨b, off, rfl, _, _, h1⟩
  · exact lastRevokes_none w ao cap
  · by_cases h0 : ts = []
    · subst h0; exact lastRevokes_none w _ cap
    · have hpos : 0 < ts.length := List.length_pos_iff.2 h0
      obtain ⟨_, _, c0, _⟩ := h1 0 hpos
      exact lastRevokes_some w ts lo hi b off cap hn hL (lt_of_cell c0) hwf h1

end Go.Proofs.Ytmfcaiadcmgjbaa
