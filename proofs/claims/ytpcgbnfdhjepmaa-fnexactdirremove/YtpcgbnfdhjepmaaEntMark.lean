/- markEntryS, heldEntryS of the laws. -/
import Derived.Test.YtpcgbnfdhjepmaaEntTo
import Derived.Test.YtpcgbnfdhjepmaaMarkText
namespace Go.Proofs.Ytpcgbnfdhjepmaa
open Go.RowKit

/-- Entries that are marks. -/
def mkE (k0 n : Nat) : List Ent := (List.range n).map fun i => (((k0 + 2 * i : Nat) : Int), mtext (k0 + 2 * i + 1))
theorem mkE_len (k0 n : Nat) : (mkE k0 n).length = n := by simp [mkE]
theorem mkE_succ (k0 n : Nat) : mkE k0 (n + 1) = mkE k0 n ++ [(((k0 + 2 * n : Nat) : Int), mtext (k0 + 2 * n + 1))] := by simp [mkE, List.range_succ]
theorem mkE_getD (k0 n i : Nat) (h : i < n) : (mkE k0 n).getD i Ent.none = (((k0 + 2 * i : Nat) : Int), mtext (k0 + 2 * i + 1)) := by simp [mkE, List.getD_eq_getElem?_getD, h]
theorem mkE_set (k0 k : Nat) (ts : List Ent) (h : k < ts.length) : (mkE k0 k ++ ts.drop k).set k (((k0 + 2 * k : Nat) : Int), mtext (k0 + 2 * k + 1)) = mkE k0 (k + 1) ++ ts.drop (k + 1) := by
  rw [List.set_append, mkE_len, if_neg (by omega), Nat.sub_self, List.drop_eq_getElem_cons h, List.set_cons_zero, mkE_succ, List.append_assoc]; rfl

set_option maxRecDepth 20000 in
set_option maxHeartbeats 1000000 in
theorem markEntryS_some (w : World) (base : Nat) (e : TypeId) (ts : List Ent) (k0 g cap : Nat) (hl : ts.length ≤ 1048576) (hk0 : 0 < k0) (hk1 : k0 ≤ 1048576) (h1 : OwnE w base e (.slice (some ⟨g, 0, none⟩) ts.length cap) ts) :
    Calls Try.prog 9 #[.slice (some ⟨g, 0, none⟩) ts.length cap, .int .i64 k0] w fun r w' => r = .returned (.int .i64 ((k0 + 2 * ts.length : Nat) : Int)) ∧ OwnE w' base e (.slice (some ⟨g, 0, none⟩) ts.length cap) (mkE k0 ts.length) ∧ Chg g (g + 1) w w' := by
  have hg0 := (h1.lt g rfl).2
  go_enter Try.func9, Try.ntmps9
  go_wp2
  go_loopw [1, 5] (fun q i wr => ∃ k : Nat, k ≤ ts.length ∧ i = .int .i64 k ∧ q = .int .i64 ((k0 + 2 * k : Nat) : Int) ∧ OwnE wr base e (.slice (some ⟨g, 0, none⟩) ts.length cap) (mkE k0 k ++ ts.drop k) ∧ Chg g (g + 1) w wr) (fun _ i _ => ts.length - (intOf i).toNat)
  case atStart => exact ⟨0, Nat.zero_le _, rfl, by simp, by simpa [mkE] using h1, Chg.refl _ _ _⟩
  case round =>
    obtain ⟨k, hk, rfl, rfl, hown, hch⟩ := hrel
    clear h1
    have hlen : (mkE k0 k ++ ts.drop k).length = ts.length := by simp [mkE_len]; omega
    by_cases hlt : k < ts.length
    · have hrow : wr.ownsRow base e 2 (.slice (some ⟨g, 0, none⟩) ts.length cap) ts.length (cellsE (mkE k0 k ++ ts.drop k)) := by
        have := hown; unfold OwnE at this; rw [hlen] at this; exact this
      have hcl := hrow.1
      obtain ⟨u0, c0⟩ : ∃ u, wr.cell? ⟨g, k * 2, none⟩ = some u := ⟨_, (World.ownsRow.cellAt hrow (k * 2) (by omega)).trans (List.getElem?_eq_getElem (by omega))⟩
      obtain ⟨u1, c1⟩ : ∃ u, wr.cell? ⟨g, k * 2 + 1, none⟩ = some u := ⟨_, (World.ownsRow.cellAt hrow (k * 2 + 1) (by omega)).trans (List.getElem?_eq_getElem (by omega))⟩
      have f0 := World.ownsRow.frozenAt hrow (k * 2)
      have f1 := World.ownsRow.frozenAt hrow (k * 2 + 1)
      have hi : (k : Int) < (ts.length : Int) := by omega
      obtain ⟨Q, HQ⟩ : ∃ Q : Nat, Hid (k0 + 2 * k = Q) := ⟨_, rfl⟩
      have hQb : Q ≤ 10000000 - 1 := by have := HQ.out; omega
      have hQ0 : 0 < Q := by have := HQ.out; omega
      have sz := hch.size
      have hfin : ∀ w2 : World, Chg 0 0 (wr.setCell ⟨g, k * 2, none⟩ (.int .i64 (Q : Int))) w2 → OwnE (w2.setCell ⟨g, k * 2 + 1, none⟩ (.string (mtext (Q + 1)))) base e (.slice (some ⟨g, 0, none⟩) ts.length cap) (mkE k0 (k + 1) ++ ts.drop (k + 1)) ∧ Chg g (g + 1) w (w2.setCell ⟨g, k * 2 + 1, none⟩ (.string (mtext (Q + 1)))) ∧ (∃ u, w2.cell? ⟨g, k * 2 + 1, none⟩ = some u) ∧ w2.frozen? ⟨g, k * 2 + 1, none⟩ = false := by
        intro w2 hs
        have st := (World.ownsRow.stored hrow (k * 2) (.int .i64 (Q : Int))).1
        have st2 : w2.ownsRow base e 2 (.slice (some ⟨g, 0, none⟩) ts.length cap) ts.length ((cellsE (mkE k0 k ++ ts.drop k)).set (k * 2) (.int .i64 (Q : Int))) := by
          obtain ⟨a1, a2⟩ := st
          refine ⟨a1, ?_⟩
          rcases a2 with a2 | ⟨g', cap', cur, hv, hg, hh, r⟩
          · exact Or.inl a2
          · refine Or.inr ⟨g', cap', cur, hv, hg, ?_, r⟩
            rw [hs.block g' (Array.getElem?_eq_some_iff.1 hh).1 (by omega)]; exact hh
        have st3 := (World.ownsRow.stored st2 (k * 2 + 1) (.string (mtext (Q + 1)))).1
        refine ⟨?_, ?_, ⟨_, (World.ownsRow.cellAt st2 (k * 2 + 1) (by omega)).trans (List.getElem?_eq_getElem (by rw [List.length_set]; omega))⟩, World.ownsRow.frozenAt st2 (k * 2 + 1)⟩
        · unfold OwnE
          rw [show (mkE k0 (k + 1) ++ ts.drop (k + 1)).length = ts.length by simp [mkE_len]; omega, ← mkE_set k0 k ts hlt, ← cellsE_set _ k _ (by rw [hlen]; exact hlt), HQ.out]
          exact st3
        · exact ((hch.setCell (Or.inl ⟨Nat.le_refl _, Nat.lt_succ_self _⟩) _).step hs (by omega)).setCell (Or.inl ⟨Nat.le_refl _, Nat.lt_succ_self _⟩) _
      have Hfin : Hid (∀ w2 : World, Chg 0 0 (wr.setCell ⟨g, k * 2, none⟩ (.int .i64 (Q : Int))) w2 → OwnE (w2.setCell ⟨g, k * 2 + 1, none⟩ (.string (mtext (Q + 1)))) base e (.slice (some ⟨g, 0, none⟩) ts.length cap) (mkE k0 (k + 1) ++ ts.drop (k + 1)) ∧ Chg g (g + 1) w (w2.setCell ⟨g, k * 2 + 1, none⟩ (.string (mtext (Q + 1)))) ∧ (∃ u, w2.cell? ⟨g, k * 2 + 1, none⟩ = some u) ∧ w2.frozen? ⟨g, k * 2 + 1, none⟩ = false) := hfin
      have hN := markText_calls (wr.setCell ⟨g, k * 2, none⟩ (.int .i64 (Q : Int))) (Q + 1) (by omega) (by omega)
      rw [show ((Q + 1 : Nat) : Int) = (Q : Int) + 1 by omega] at hN
      rw [HQ.out]
      clear hfin hown hrow hcl hlen hch
      go_wp2_with fail
      refine hN.mono ?_
      rintro r w2 ⟨rfl, hs⟩
      obtain ⟨t1, t2, ⟨u2, c2⟩, f2⟩ := Hfin.out w2 hs
      have T1 : Hid (OwnE (w2.setCell ⟨g, k * 2 + 1, none⟩ (.string (mtext (Q + 1)))) base e (.slice (some ⟨g, 0, none⟩) ts.length cap) (mkE k0 (k + 1) ++ ts.drop (k + 1))) := t1
      have T2 : Hid (Chg g (g + 1) w (w2.setCell ⟨g, k * 2 + 1, none⟩ (.string (mtext (Q + 1))))) := t2
      clear t1 t2 hs hN c0 c1 f0 f1 Hfin
      go_wp2
      go_roundw
      case rel => exact ⟨k + 1, by omega, by go_num, by have := HQ.out; congr 1; omega, T1.out, T2.out⟩
      case measure => simp [intOf]; omega
    · obtain rfl : k = ts.length := by omega
      have HR : Hid (OwnE wr base e (.slice (some ⟨g, 0, none⟩) ts.length cap) (mkE k0 ts.length)) := by
        have := hown; rw [List.drop_length, List.append_nil] at this; exact this
      clear hown hlen
      go_wp2
      go_ret
      exact ⟨ret_int (by omega), HR.out, hch⟩

set_option maxRecDepth 20000 in
set_option maxHeartbeats 400000 in
theorem markEntryS_none (w : World) (ao : Option Addr) (k0 cap : Nat) :
    Calls Try.prog 9 #[.slice ao 0 cap, .int .i64 k0] w fun r w' => r = .returned (.int .i64 (k0 : Int)) ∧ w' = w := by
  go_enter Try.func9, Try.ntmps9
  go_wp2
  refine wp_loop_rounds 1 ?_; rw [rounds_succ]
  go_wp2
  go_ret
  exact ⟨rfl, rfl⟩

theorem markEntryS_calls (w : World) (base : Nat) (e : TypeId) (v : Value) (ts : List Ent) (k0 lo hi : Nat) (hl : ts.length ≤ 1048576) (hk0 : 0 < k0) (hk1 : k0 ≤ 1048576) (h1 : OwnE w base e v ts) (hb : ∀ g, v.ownBlock = some g → lo ≤ g ∧ g < hi) :
    Calls Try.prog 9 #[v, .int .i64 k0] w fun r w' => r = .returned (.int .i64 ((k0 + 2 * ts.length : Nat) : Int)) ∧ OwnE w' base e v (mkE k0 ts.length) ∧ Chg lo hi w w' := by
  have h0 := h1
  obtain ⟨_, h2⟩ := h1
  rcases h2 with ⟨rfl, hn⟩ | ⟨g, cap, cur, rfl, _⟩
  · obtain rfl : ts = [] := List.eq_nil_of_length_eq_zero hn
    refine (markEntryS_none w none k0 0).mono ?_
    rintro r w' ⟨rfl, rfl⟩
    exact ⟨by simp, by simpa [mkE] using h0, Chg.refl _ _ _⟩
  · refine (markEntryS_some w base e ts k0 g cap hl hk0 hk1 h0).mono ?_
    rintro r w' ⟨rfl, ho, hc⟩
    have := hb g rfl
    exact ⟨rfl, ho, hc.widen (Or.inl this.1) (Or.inl (by omega))⟩

set_option maxRecDepth 20000 in
set_option maxHeartbeats 1000000 in
theorem heldEntryS_some (w : World) (K k0 : Nat) (b off cap : Nat) (hl : K ≤ 1048576) (hk0 : 0 < k0) (hk1 : k0 ≤ 1048576)
    (h1 : ∀ i, i < K → EAt w b (off + i * 2) (((k0 + 2 * i : Nat) : Int), mtext (k0 + 2 * i + 1))) :
    Calls Try.prog 10 #[.slice (some ⟨b, off, none⟩) K cap, .int .i64 k0] w fun e w' => e = .returned (.int .i64 ((k0 + 2 * K : Nat) : Int)) ∧ Chg 0 0 w w' := by
  go_enter Try.func10, Try.ntmps10
  go_wp2
  go_loopw [1, 5] (fun q i wr => Chg 0 0 w wr ∧ ∃ k : Nat, k ≤ K ∧ i = .int .i64 k ∧ q = .int .i64 ((k0 + 2 * k : Nat) : Int)) (fun _ i _ => K - (intOf i).toNat)
  case atStart => exact ⟨Chg.refl _ _ _, 0, Nat.zero_le _, rfl, by simp⟩
  case round =>
    obtain ⟨hch, k, hk, rfl, rfl⟩ := hrel
    by_cases hlt : k < K
    · obtain ⟨c0, c1⟩ := h1 k hlt
      have c0 := hch.cell c0 (by omega)
      have c1 := hch.cell c1 (by omega)
      have hi : (k : Int) < (K : Int) := by omega
      obtain ⟨Q, HQ⟩ : ∃ Q : Nat, Hid (k0 + 2 * k = Q) := ⟨_, rfl⟩
      rw [HQ.out] at c0 c1 ⊢
      have c0 : wr.cell? ⟨b, off + k * 2, none⟩ = some (.int .i64 (Q : Int)) := c0
      have c1 : wr.cell? ⟨b, off + k * 2 + 1, none⟩ = some (.string (mtext (Q + 1))) := c1
      have hQb : Q ≤ 10000000 - 1 := by have := HQ.out; omega
      have n0 : ((Q : Int) != (Q : Int)) = false := by simp
      have hN := markText_calls wr.drew (Q + 1) (by omega) (by omega)
      rw [show ((Q + 1 : Nat) : Int) = (Q : Int) + 1 by omega] at hN
      clear h1
      go_wp2
      go_region_with (go_at_call 16; refine hN.mono ?_; rintro e w2 ⟨rfl, hs⟩; have c2 := hs.cell (show wr.drew.cell? ⟨b, off + k * 2 + 1, none⟩ = _ from c1) (by omega))
      all_goals
        have HC : Hid (Chg 0 0 w w2) := hch.drew.trans hs
        clear hs hN hch
        go_wp2
        go_roundw
        case rel => exact ⟨HC.out, k + 1, by omega, by go_num, by have := HQ.out; congr 1; omega⟩
        case measure => simp [intOf]; omega
    · obtain rfl : k = K := by omega
      clear h1
      go_wp2
      go_ret
      exact ⟨ret_int (by omega), hch⟩

set_option maxRecDepth 20000 in
set_option maxHeartbeats 400000 in
theorem heldEntryS_none (w : World) (ao : Option Addr) (k0 cap : Nat) :
    Calls Try.prog 10 #[.slice ao 0 cap, .int .i64 k0] w fun e w' => e = .returned (.int .i64 (k0 : Int)) ∧ w' = w := by
  go_enter Try.func10, Try.ntmps10
  go_wp2
  refine wp_loop_rounds 1 ?_; rw [rounds_succ]
  go_wp2
  go_ret
  exact ⟨rfl, rfl⟩

theorem heldEntryS_calls (w : World) {lo hi : Nat} {a : Value} (k0 K : Nat) (hl : K ≤ 1048576) (hk0 : 0 < k0) (hk1 : k0 ≤ 1048576) (h1 : EView w lo hi a (mkE k0 K)) :
    Calls Try.prog 10 #[a, .int .i64 k0] w fun e w' => e = .returned (.int .i64 ((k0 + 2 * K : Nat) : Int)) ∧ Chg 0 0 w w' := by
  obtain ⟨ao, cap, rfl, _, _, h1⟩ := h1
  rw [mkE_len] at *
  rcases h1 with h1 | ⟨x, off, rfl, _, _, h1⟩
  · obtain rfl : K = 0 := by have := congrArg List.length h1; simpa [mkE_len] using this
    exact (heldEntryS_none w ao k0 cap).mono fun _ _ ⟨he, hw⟩ => ⟨by simpa using he, by rw [hw]; exact Chg.refl _ _ _⟩
  · exact heldEntryS_some w K k0 x off cap hl hk0 hk1 (fun i hi => by rw [← mkE_getD k0 K i hi]; exact h1 i hi)

end Go.Proofs.Ytpcgbnfdhjepmaa
