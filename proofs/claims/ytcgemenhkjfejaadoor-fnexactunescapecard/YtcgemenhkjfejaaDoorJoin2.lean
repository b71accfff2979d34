/- l2Zero, l2Join of the model. -/
import Derived.Test.YtcgemenhkjfejaaDoorCopy
namespace Go.Proofs.YtcgemenhkjfejaaDoor
open Go.RowKit

set_option maxRecDepth 20000 in
set_option maxHeartbeats 400000 in
theorem l2Zero_calls (w : World) (n : Nat) (hn : n ≤ 1048576) :
    Calls Tryd.prog 13 #[.int .i64 n] w fun e w' => ∃ g, e = .returned (.slice (some ⟨g, 0, none⟩) n n) ∧ OwnB w' w.heap.size 5 (.slice (some ⟨g, 0, none⟩) n n) (List.replicate n 0) ∧ Chg 0 0 w w' := by
  obtain ⟨i, hi, hz0, hz1, hz2⟩ := info_parts Tryd.infoU
  go_enter Tryd.func13, Tryd.ntmps13
  go_wp2_with (at_make; refine wpList_make_full _ rfl _ _ 22 rfl w.heap.size 5 i (.int .u8 0) 1 Tryd.underlying22 hi hz0 hz1 _ _ _ _ n rfl rfl (by omega) (by omega) (by rw [hz2]; omega) (by unfold maxLen; omega) (by omega) ?_)
  intro w1 hown hgrow
  have HO : Hid (OwnB w1 w.heap.size 5 (.slice (some ⟨w.heap.size, 0, none⟩) n n) (List.replicate n 0)) := by
    show OwnB _ _ _ _ _
    unfold OwnB
    simpa [toList_madeCells_one] using hown
  have HC : Hid (Chg 0 0 w w1) := Chg.ofGrown hgrow (by simp)
  clear hown hgrow
  go_wp2
  go_ret
  exact ⟨_, rfl, HO.out, HC.out⟩

set_option maxRecDepth 20000 in
set_option maxHeartbeats 1000000 in
theorem l2Join_any (w : World) {lo hi lo' : Nat} {a : Value} {xs ys : List Int} {b off n cap : Nat} (hl : xs.length ≤ 1048576) (hl' : ys.length ≤ 1048576) (h1 : View w lo hi .u8 a xs) (h2 : View w lo' w.heap.size .u8 (.slice (some ⟨b, off, none⟩) n cap) ys) :
    Calls Tryd.prog 14 #[a, .slice (some ⟨b, off, none⟩) n cap] w fun e w' => ∃ v, e = .returned v ∧ OwnB w' w.heap.size 5 v (xs ++ ys) ∧ Chg 0 0 w w' := by
  obtain ⟨i, hi, hz0, hz1, hz2⟩ := info_parts Tryd.infoU
  have hN := l1Copy_calls w hl h1
  obtain ⟨_, _, e, _, _, hcell⟩ := h2
  simp only [Value.slice.injEq] at e
  obtain ⟨rfl, rfl, rfl⟩ := e
  have hc : ∀ i, i < ys.length → w.cell? ⟨b, off + i, none⟩ = some (.int .u8 (ys.getD i 0)) := by
    rcases hcell with e | ⟨_, _, e, _, h3, h4⟩
    · intro i hi; rw [e] at hi; exact absurd hi (Nat.not_lt_zero i)
    · cases e; exact h4
  have Hc : Hid (∀ i, i < ys.length → w.cell? ⟨b, off + i, none⟩ = some (.int .u8 (ys.getD i 0))) := hc
  have hay : ∃ ao n c, a = .slice ao n c := by obtain ⟨ao, c, rfl, _⟩ := h1; exact ⟨ao, _, c, rfl⟩
  obtain ⟨ao, an, ac, rfl⟩ := hay
  clear hcell hc h1
  go_enter Tryd.func14, Tryd.ntmps14
  go_wp2_with fail
  refine hN.mono ?_
  rintro e w1 ⟨v1, rfl, o1, hc1⟩
  have hrow : w1.ownsRow w.heap.size 5 1 v1 xs.length (xs.map (Value.int .u8)) := o1
  obtain ⟨so, sn, sc, rfl⟩ := row_slice hrow
  have HO1 : Hid (w1.ownsRow w.heap.size 5 1 (.slice so sn sc) xs.length (xs.map (Value.int .u8))) := hrow
  have hs1 := hc1.size
  have HC1 : Hid (Chg 0 0 w w1) := hc1
  have HNW : Hid (∀ j u, (ys.map (Value.int .u8))[j]? = some u → w1.cell? ((⟨b, off, none⟩ : Addr).add j) = some u) := by
    intro j u hj
    have hjl : j < ys.length := by have := (List.getElem?_eq_some_iff.1 hj).1; simpa using this
    rw [Addr.add_mid, hc1.cell (Hc.out j hjl) (by omega), ← hj]
    simp [List.getD_eq_getElem?_getD, hjl]
  clear hN o1 hc1 hrow
  go_wp2_with (at_builtin; refine wpList_append_own _ rfl (.tmp 8) (.tmp 9) 22 rfl w.heap.size 5 i (.int .u8 0) 1 1 Tryd.underlying22 hi hz0 hz1 hz2 rfl (by decide) _ xs.length (xs.map (Value.int .u8)) rfl HO1.out ⟨b, off, none⟩ ys.length cap (ys.map (Value.int .u8)) rfl (by simp) HNW.out (ints_oneCell _ _) (by unfold maxLen; omega) (by omega) (by omega) ?_)
  intro v' w2 hown hgrow _
  have HO : Hid (OwnB w2 w.heap.size 5 v' (xs ++ ys)) := by
    show OwnB _ _ _ _ _
    unfold OwnB
    rw [List.length_append, List.map_append]
    exact hown
  have hrb : ∀ k, (Value.slice so sn sc).ownBlock = some k → w.heap.size ≤ k ∧ k < w1.heap.size := fun k hk => World.ownsRow.lt HO1.out k hk
  have HC : Hid (Chg 0 0 w w2) := HC1.out.step (Chg.ofGrown (lo := w.heap.size) (hi := w1.heap.size) hgrow (fun k hk _ => hrb k hk)) (Or.inr (Or.inl (Nat.le_refl _)))
  clear hown hgrow HO1 HC1 HNW hrb
  go_wp2
  go_ret
  exact ⟨_, rfl, HO.out, HC.out⟩

theorem l2Join_calls (w : World) {lo hi lo' : Nat} {a : Value} {xs ys : List Int} {b off n cap : Nat} (hl : xs.length ≤ 1048576) (hl' : ys.length ≤ 1048576) (h1 : View w lo hi .u8 a xs) (h2 : View w lo' w.heap.size .u8 (.slice (some ⟨b, off, none⟩) n cap) ys) (_hy : 0 < ys.length) :
    Calls Tryd.prog 14 #[a, .slice (some ⟨b, off, none⟩) n cap] w fun e w' => ∃ v, e = .returned v ∧ OwnB w' w.heap.size 5 v (xs ++ ys) ∧ Chg 0 0 w w' := l2Join_any w hl hl' h1 h2

end Go.Proofs.YtcgemenhkjfejaaDoor
