/- Lists of texts as they are seen in memory; eqStringS, markStringS, heldStringS of the laws. -/
import Derived.Test.YtlbiaennccionaaStrSpec
import Derived.Test.YtlbiaennccionaaMarkText
import Derived.Deep.RegionWith
namespace Go.Proofs.Ytlbiaennccionaa
open Go.RowKit

def noText : ByteArray := ⟨#[]⟩
def SView (w : World) (lo hi : Nat) (v : Value) (ps : List ByteArray) : Prop :=
  ∃ ao cap, v = .slice ao ps.length cap ∧ ps.length ≤ 9223372036854775807 ∧ ps.length ≤ cap ∧
    (ps = [] ∨ ∃ b off, ao = some ⟨b, off, none⟩ ∧ lo ≤ b ∧ b < hi ∧ ∀ i, i < ps.length → w.cell? ⟨b, off + i, none⟩ = some (.string (ps.getD i noText)))
theorem SView.chg {w w' : World} {lo hi l r : Nat} {v : Value} {ps : List ByteArray} (h : SView w lo hi v ps) (c : Chg l r w w') (d : hi ≤ l ∨ r ≤ lo ∨ r ≤ l) : SView w' lo hi v ps := by
  obtain ⟨ao, cap, hv, h1, h2, h3⟩ := h
  refine ⟨ao, cap, hv, h1, h2, ?_⟩
  rcases h3 with h3 | ⟨b, off, hao, hb, hb', h3⟩
  · exact Or.inl h3
  · exact Or.inr ⟨b, off, hao, hb, hb', fun i hi => c.cell (h3 i hi) (by show b < l ∨ r ≤ b; omega)⟩
theorem SView.slice {w : World} {lo hi : Nat} {v : Value} {ps : List ByteArray} (h : SView w lo hi v ps) : ∃ ao cap, v = .slice ao ps.length cap := by
  obtain ⟨ao, cap, rfl, _⟩ := h; exact ⟨ao, cap, rfl⟩
theorem SView.nil (w : World) (lo hi : Nat) : SView w lo hi (.slice none 0 0) [] := ⟨none, 0, rfl, by simp, by simp, Or.inl rfl⟩
theorem OwnS.view {w : World} {base : Nat} {e : TypeId} {v : Value} {ps : List ByteArray} (h : OwnS w base e v ps) (hl : ps.length ≤ 9223372036854775807) {hi : Nat} (hb : ∀ g, v.ownBlock = some g → g < hi) : SView w base hi v ps := by
  have h' := h
  obtain ⟨_, h2⟩ := h
  rcases h2 with ⟨rfl, h0⟩ | ⟨g, cap, cur, rfl, hg, hh, hc, hm, hs, ht⟩
  · obtain rfl : ps = [] := List.eq_nil_of_length_eq_zero h0
    exact SView.nil _ _ _
  · refine ⟨_, cap, rfl, hl, hc, Or.inr ⟨g, 0, rfl, hg, hb g rfl, fun i hi => ?_⟩⟩
    rw [Nat.zero_add, World.ownsRow.cellAt h' i (by omega), List.getElem?_map, List.getElem?_eq_getElem hi]
    simp [List.getD_eq_getElem?_getD, List.getElem?_eq_getElem hi]

set_option maxRecDepth 20000 in
set_option maxHeartbeats 1000000 in
theorem eqStringS_some (w : World) (ps : List ByteArray) (b off b' off' cap cap' : Nat) (hl : ps.length ≤ 9223372036854775807)
    (h1 : ∀ i, i < ps.length → w.cell? ⟨b, off + i, none⟩ = some (.string (ps.getD i noText))) (h2 : ∀ i, i < ps.length → w.cell? ⟨b', off' + i, none⟩ = some (.string (ps.getD i noText))) :
    Calls Try.prog 8 #[.slice (some ⟨b, off, none⟩) ps.length cap, .slice (some ⟨b', off', none⟩) ps.length cap'] w fun e w' => e = .returned (.bool true) ∧ Chg 0 0 w w' := by
  have hne : ((ps.length : Int) != (ps.length : Int)) = false := by simp
  go_enter Try.func8, Try.ntmps8
  go_wp2
  go_loopw [5] (fun i wr => Chg 0 0 w wr ∧ ∃ k : Nat, k ≤ ps.length ∧ i = .int .i64 k) (fun i _ => ps.length - (intOf i).toNat)
  case atStart => exact ⟨Chg.refl _ _ _, 0, Nat.zero_le _, rfl⟩
  case round =>
    obtain ⟨hch, k, hk, rfl⟩ := hrel
    by_cases hlt : k < ps.length
    · have c1 := hch.cell (h1 k hlt) (by omega)
      have c2 := hch.cell (h2 k hlt) (by omega)
      have hi : (k : Int) < (ps.length : Int) := by omega
      generalize ps.getD k noText = s at *
      have HC : Hid (Chg 0 0 w wr) := hch
      clear h1 h2 hch
      go_wp2
      go_quiet (fail)
      go_wp2
      go_roundw
      case rel => exact ⟨HC.out.drewN _, k + 1, by omega, by go_num⟩
      case measure => simp [intOf]; omega
    · clear h1 h2
      go_wp2
      go_ret
      exact ⟨rfl, hch⟩

set_option maxRecDepth 20000 in
set_option maxHeartbeats 400000 in
theorem eqStringS_none (w : World) (ao bo : Option Addr) (cap cap' : Nat) :
    Calls Try.prog 8 #[.slice ao 0 cap, .slice bo 0 cap'] w fun e w' => e = .returned (.bool true) ∧ Chg 0 0 w w' := by
  go_enter Try.func8, Try.ntmps8
  go_wp2
  refine wp_loop_rounds 1 ?_; rw [rounds_succ]
  go_wp2
  go_ret
  exact ⟨rfl, Chg.refl _ _ _⟩

theorem eqStringS_calls (w : World) {lo hi lo' hi' : Nat} {a b : Value} {ps : List ByteArray} (h1 : SView w lo hi a ps) (h2 : SView w lo' hi' b ps) :
    Calls Try.prog 8 #[a, b] w fun e w' => e = .returned (.bool true) ∧ Chg 0 0 w w' := by
  obtain ⟨ao, cap, rfl, hl, _, h1⟩ := h1
  obtain ⟨bo, cap', rfl, _, _, h2⟩ := h2
  rcases h1 with rfl | ⟨x, off, rfl, _, _, h1⟩
  · exact eqStringS_none w ao bo cap cap'
  · rcases h2 with rfl | ⟨y, off', rfl, _, _, h2⟩
    · exact eqStringS_none w _ bo cap cap'
    · exact eqStringS_some w ps x off y off' cap cap' hl h1 h2

/-- Texts that are marks. -/
def mkT (k0 n : Nat) : List ByteArray := (List.range n).map fun i => mtext (k0 + i)
theorem mkT_len (k0 n : Nat) : (mkT k0 n).length = n := by simp [mkT]
theorem mkT_getD (k0 n i : Nat) (h : i < n) : (mkT k0 n).getD i noText = mtext (k0 + i) := by simp [mkT, List.getD_eq_getElem?_getD, h]
theorem mkT_set (k0 k : Nat) (ps : List ByteArray) (h : k < ps.length) : ((mkT k0 k ++ ps.drop k).map Value.string).set k (.string (mtext (k0 + k))) = (mkT k0 (k + 1) ++ ps.drop (k + 1)).map Value.string := by
  rw [← List.map_set]
  congr 1
  rw [List.set_append, mkT_len, if_neg (by omega), Nat.sub_self, List.drop_eq_getElem_cons h, List.set_cons_zero]
  have : mkT k0 (k + 1) = mkT k0 k ++ [mtext (k0 + k)] := by simp [mkT, List.range_succ]
  rw [this, List.append_assoc]; rfl

set_option maxRecDepth 20000 in
set_option maxHeartbeats 1000000 in
theorem markStringS_some (w : World) (base : Nat) (e : TypeId) (ps : List ByteArray) (k0 g cap : Nat) (hl : ps.length ≤ 1048576) (hk0 : 0 < k0) (hk1 : k0 ≤ 1048576) (h1 : OwnS w base e (.slice (some ⟨g, 0, none⟩) ps.length cap) ps) :
    Calls Try.prog 11 #[.slice (some ⟨g, 0, none⟩) ps.length cap, .int .i64 k0] w fun r w' => r = .returned (.int .i64 ((k0 + 1 * ps.length : Nat) : Int)) ∧ OwnS w' base e (.slice (some ⟨g, 0, none⟩) ps.length cap) (mkT k0 ps.length) ∧ Chg g (g + 1) w w' := by
  have hg0 := (h1.lt g rfl).2
  go_enter Try.func11, Try.ntmps11
  go_wp2
  go_loopw [1, 5] (fun q i wr => ∃ k : Nat, k ≤ ps.length ∧ i = .int .i64 k ∧ q = .int .i64 ((k0 + k : Nat) : Int) ∧ OwnS wr base e (.slice (some ⟨g, 0, none⟩) ps.length cap) (mkT k0 k ++ ps.drop k) ∧ Chg g (g + 1) w wr) (fun _ i _ => ps.length - (intOf i).toNat)
  case atStart => exact ⟨0, Nat.zero_le _, rfl, by simp, by simpa [mkT] using h1, Chg.refl _ _ _⟩
  case round =>
    obtain ⟨k, hk, rfl, rfl, hown, hch⟩ := hrel
    clear h1
    have hlen : (mkT k0 k ++ ps.drop k).length = ps.length := by simp [mkT_len]; omega
    by_cases hlt : k < ps.length
    · have hrow : wr.ownsRow base e 1 (.slice (some ⟨g, 0, none⟩) ps.length cap) ps.length ((mkT k0 k ++ ps.drop k).map Value.string) := by
        have := hown; unfold OwnS at this; rw [hlen] at this; exact this
      have hi : (k : Int) < (ps.length : Int) := by omega
      obtain ⟨Q, HQ⟩ : ∃ Q : Nat, Hid (k0 + k = Q) := ⟨_, rfl⟩
      have hQb : Q ≤ 10000000 - 1 := by have := HQ.out; omega
      have hQ0 : 0 < Q := by have := HQ.out; omega
      have sz := hch.size
      have Hfin : Hid (∀ w2 : World, Chg 0 0 wr w2 → OwnS (w2.setCell ⟨g, k, none⟩ (.string (mtext Q))) base e (.slice (some ⟨g, 0, none⟩) ps.length cap) (mkT k0 (k + 1) ++ ps.drop (k + 1)) ∧ Chg g (g + 1) w (w2.setCell ⟨g, k, none⟩ (.string (mtext Q))) ∧ (∃ u, w2.cell? ⟨g, k, none⟩ = some u) ∧ w2.frozen? ⟨g, k, none⟩ = false) := by
        intro w2 hs
        have st2 : w2.ownsRow base e 1 (.slice (some ⟨g, 0, none⟩) ps.length cap) ps.length ((mkT k0 k ++ ps.drop k).map Value.string) := by
          obtain ⟨a1, a2⟩ := hrow
          refine ⟨a1, ?_⟩
          rcases a2 with a2 | ⟨g', cap', cur, hv, hg, hh, r⟩
          · exact Or.inl a2
          · refine Or.inr ⟨g', cap', cur, hv, hg, ?_, r⟩
            rw [hs.block g' (Array.getElem?_eq_some_iff.1 hh).1 (by omega)]; exact hh
        have st3 := (World.ownsRow.stored st2 k (.string (mtext Q))).1
        refine ⟨?_, ?_, ⟨_, (World.ownsRow.cellAt st2 k (by omega)).trans (List.getElem?_eq_getElem (by rw [List.length_map, hlen]; exact hlt))⟩, World.ownsRow.frozenAt st2 k⟩
        · unfold OwnS
          rw [show (mkT k0 (k + 1) ++ ps.drop (k + 1)).length = ps.length by simp [mkT_len]; omega, ← mkT_set k0 k ps hlt, HQ.out]
          exact st3
        · exact (hch.step hs (by omega)).setCell (Or.inl ⟨Nat.le_refl _, Nat.lt_succ_self _⟩) _
      have hN := markText_calls wr Q (by omega) (by omega)
      rw [HQ.out]
      clear hown hrow hlen hch
      go_wp2_with fail
      refine hN.mono ?_
      rintro r w2 ⟨rfl, hs⟩
      obtain ⟨t1, t2, ⟨u2, c2⟩, f2⟩ := Hfin.out w2 hs
      have T1 : Hid (OwnS (w2.setCell ⟨g, k, none⟩ (.string (mtext Q))) base e (.slice (some ⟨g, 0, none⟩) ps.length cap) (mkT k0 (k + 1) ++ ps.drop (k + 1))) := t1
      have T2 : Hid (Chg g (g + 1) w (w2.setCell ⟨g, k, none⟩ (.string (mtext Q)))) := t2
      clear t1 t2 hs hN Hfin
      go_wp2
      go_roundw
      case rel => exact ⟨k + 1, by omega, by go_num, by have := HQ.out; congr 1; omega, T1.out, T2.out⟩
      case measure => simp [intOf]; omega
    · obtain rfl : k = ps.length := by omega
      have HR : Hid (OwnS wr base e (.slice (some ⟨g, 0, none⟩) ps.length cap) (mkT k0 ps.length)) := by
        have := hown; rw [List.drop_length, List.append_nil] at this; exact this
      clear hown hlen
      go_wp2
      go_ret
      exact ⟨by rw [Nat.one_mul]; exact ret_int (by omega), HR.out, hch⟩

set_option maxRecDepth 20000 in
set_option maxHeartbeats 400000 in
theorem markStringS_none (w : World) (ao : Option Addr) (k0 cap : Nat) :
    Calls Try.prog 11 #[.slice ao 0 cap, .int .i64 k0] w fun r w' => r = .returned (.int .i64 (k0 : Int)) ∧ w' = w := by
  go_enter Try.func11, Try.ntmps11
  go_wp2
  refine wp_loop_rounds 1 ?_; rw [rounds_succ]
  go_wp2
  go_ret
  exact ⟨rfl, rfl⟩

theorem markStringS_calls (w : World) (base : Nat) (e : TypeId) (v : Value) (ps : List ByteArray) (k0 lo hi : Nat) (hl : ps.length ≤ 1048576) (hk0 : 0 < k0) (hk1 : k0 ≤ 1048576) (h1 : OwnS w base e v ps) (hb : ∀ g, v.ownBlock = some g → lo ≤ g ∧ g < hi) :
    Calls Try.prog 11 #[v, .int .i64 k0] w fun r w' => r = .returned (.int .i64 ((k0 + 1 * ps.length : Nat) : Int)) ∧ OwnS w' base e v (mkT k0 ps.length) ∧ Chg lo hi w w' := by
  have h0 := h1
  obtain ⟨_, h2⟩ := h1
  rcases h2 with ⟨rfl, hn⟩ | ⟨g, cap, cur, rfl, _⟩
  · obtain rfl : ps = [] := List.eq_nil_of_length_eq_zero hn
    refine (markStringS_none w none k0 0).mono ?_
    rintro r w' ⟨rfl, rfl⟩
    exact ⟨by simp, by simpa [mkT] using h0, Chg.refl _ _ _⟩
  · refine (markStringS_some w base e ps k0 g cap hl hk0 hk1 h0).mono ?_
    rintro r w' ⟨rfl, ho, hc⟩
    have := hb g rfl
    exact ⟨rfl, ho, hc.widen (Or.inl this.1) (Or.inl (by omega))⟩

set_option maxRecDepth 20000 in
set_option maxHeartbeats 1000000 in
theorem heldStringS_some (w : World) (K k0 : Nat) (b off cap : Nat) (hl : K ≤ 1048576) (hk0 : 0 < k0) (hk1 : k0 ≤ 1048576)
    (h1 : ∀ i, i < K → w.cell? ⟨b, off + i, none⟩ = some (.string (mtext (k0 + i)))) :
    Calls Try.prog 12 #[.slice (some ⟨b, off, none⟩) K cap, .int .i64 k0] w fun e w' => e = .returned (.int .i64 ((k0 + 1 * K : Nat) : Int)) ∧ Chg 0 0 w w' := by
  go_enter Try.func12, Try.ntmps12
  go_wp2
  go_loopw [1, 5] (fun q i wr => Chg 0 0 w wr ∧ ∃ k : Nat, k ≤ K ∧ i = .int .i64 k ∧ q = .int .i64 ((k0 + k : Nat) : Int)) (fun _ i _ => K - (intOf i).toNat)
  case atStart => exact ⟨Chg.refl _ _ _, 0, Nat.zero_le _, rfl, by simp⟩
  case round =>
    obtain ⟨hch, k, hk, rfl, rfl⟩ := hrel
    by_cases hlt : k < K
    · have c1 := hch.cell (h1 k hlt) (by omega)
      have hi : (k : Int) < (K : Int) := by omega
      obtain ⟨Q, HQ⟩ : ∃ Q : Nat, Hid (k0 + k = Q) := ⟨_, rfl⟩
      rw [HQ.out] at c1 ⊢
      have hQb : Q ≤ 10000000 - 1 := by have := HQ.out; omega
      have hQ0 : 0 < Q := by have := HQ.out; omega
      have hN := markText_calls wr.drew Q (by omega) (by omega)
      clear h1
      go_wp2
      go_region_with (go_at_call 18; refine hN.mono ?_; rintro e w2 ⟨rfl, hs⟩; have c2 := hs.cell (show wr.drew.cell? ⟨b, off + k, none⟩ = _ from c1) (by omega))
      all_goals
        have HC : Hid (Chg 0 0 w w2) := hch.drew.trans hs
        clear hs hN hch
        go_wp2
        go_roundw
        case rel => exact ⟨HC.out, k + 1, by omega, by go_num, by have := HQ.out; congr 1; omega⟩
        case measure => simp [intOf]; omega
    · obtain rfl : k = K := by omega
      clear h1
      go_wp2
      go_ret
      exact ⟨by rw [Nat.one_mul]; exact ret_int (by omega), hch⟩

set_option maxRecDepth 20000 in
set_option maxHeartbeats 400000 in
theorem heldStringS_none (w : World) (ao : Option Addr) (k0 cap : Nat) :
    Calls Try.prog 12 #[.slice ao 0 cap, .int .i64 k0] w fun e w' => e = .returned (.int .i64 (k0 : Int)) ∧ w' = w := by
  go_enter Try.func12, Try.ntmps12
  go_wp2
  refine wp_loop_rounds 1 ?_; rw [rounds_succ]
  go_wp2
  go_ret
  exact ⟨rfl, rfl⟩

theorem heldStringS_calls (w : World) {lo hi : Nat} {a : Value} (k0 K : Nat) (hl : K ≤ 1048576) (hk0 : 0 < k0) (hk1 : k0 ≤ 1048576) (h1 : SView w lo hi a (mkT k0 K)) :
    Calls Try.prog 12 #[a, .int .i64 k0] w fun e w' => e = .returned (.int .i64 ((k0 + 1 * K : Nat) : Int)) ∧ Chg 0 0 w w' := by
  obtain ⟨ao, cap, rfl, _, _, h1⟩ := h1
  rw [mkT_len] at *
  rcases h1 with h1 | ⟨x, off, rfl, _, _, h1⟩
  · obtain rfl : K = 0 := by have := congrArg List.length h1; simpa [mkT_len] using this
    exact (heldStringS_none w ao k0 cap).mono fun _ _ ⟨he, hw⟩ => ⟨by simpa using he, by rw [hw]; exact Chg.refl _ _ _⟩
  · exact heldStringS_some w K k0 x off cap hl hk0 hk1 (fun i hi => by rw [h1 i hi, mkT_getD k0 K i hi])

end Go.Proofs.Ytlbiaennccionaa
