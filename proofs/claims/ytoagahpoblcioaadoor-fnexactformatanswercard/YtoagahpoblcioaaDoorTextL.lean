/- Lists of texts as they are seen in memory; eqStringS, markStringS, heldStringS of the laws. -/
import Derived.Test.YtoagahpoblcioaaDoorStrSpec
import Derived.Test.YtoagahpoblcioaaDoorMarkText
import Derived.Deep.RegionWith
namespace Go.Proofs.YtoagahpoblcioaaDoor
open Go.RowKit

def noText : ByteArray := ⟨#[]⟩
def SView (w : World) (lo hi : Nat) (v : Value) (ps : List ByteArray) : Prop :=
  ∃ ao cap, v = .slice ao ps.length cap ∧ ps.length ≤ 9223372036854775807 ∧ ps.length ≤ cap ∧
    (ps = [] ∨ ∃ b off, ao = some ⟨b, off, none⟩ ∧ lo ≤ b ∧ b < hi ∧ ∀ i, i < ps.length → w.cell? ⟨b, off + i, none⟩ = some (.string (ps.getD i noText)))
theorem SView.chg {w w' : World} {lo hi l r : Nat} {v : Value} {ps : List ByteArray} (h : SView w lo hi v ps) (c : Chg l r w w') (d : hi ≤ l ∨ r ≤ lo ∨ r ≤ l) : SView w' lo hi v ps := by
  obtain ⟨ao, cap, hv, h1, h2, h3⟩ := h
  refine ⟨ao, cap, hv, h1, h2, ?_⟩
  rcases h3 with h3 | ⟨b, off, hao, hb, hb', h3⟩
  · exact Or.inl h3
  · exact Or.inr ⟨b, off, hao, hb, hb', fun i hi => c.cell (h3 i hi) (by show b < l ∨ r ≤ b; omega)⟩
theorem SView.slice {w : World} {lo hi : Nat} {v : Value} {ps : List ByteArray} (h : SView w lo hi v ps) : ∃ ao cap, v = .slice ao ps.length cap := by
  obtain ⟨ao, cap, rfl, _⟩ := h; exact ⟨ao, cap, rfl⟩
theorem SView.nil (w : World) (lo hi : Nat) : SView w lo hi (.slice none 0 0) [] := ⟨none, 0, rfl, by simp, by simp, Or.inl rfl⟩
theorem OwnS.view {w : World} {base : Nat} {e : TypeId} {v : Value} {ps : List ByteArray} (h : OwnS w base e v ps) (hl : ps.length ≤ 9223372036854775807) {hi : Nat} (hb : ∀ g, v.ownBlock = some g → g < hi) : SView w base hi v ps := by
  have h' := h
  obtain ⟨_, h2⟩ := h
  rcases h2 with ⟨rfl, h0⟩ | ⟨g, cap, cur, rfl, hg, hh, hc, hm, hs, ht⟩
  · obtain rfl : ps = [] := List.eq_nil_of_length_eq_zero h0
    exact SView.nil _ _ _
  · refine ⟨_, cap, rfl, hl, hc, Or.inr ⟨g, 0, rfl, hg, hb g rfl, fun i hi => ?_⟩⟩
    rw [Nat.zero_add, World.ownsRow.cellAt h' i (by omega), List.getElem?_map, List.getElem?_eq_getElem hi]
    simp [List.getD_eq_getElem?_getD, List.getElem?_eq_getElem hi]

set_option maxRecDepth 20000 in
set_option maxHeartbeats 1000000 in
theorem eqStringS_some (w : World) (ps : List ByteArray) (b off b' off' cap cap' : Nat) (hl : ps.length ≤ 9223372036854775807)
    (h1 : ∀ i, i < ps.length → w.cell? ⟨b, off + i, none⟩ = some (.string (ps.getD i noText))) (h2 : ∀ i, i < ps.length → w.cell? ⟨b', off' + i, none⟩ = some (.string (ps.getD i noText))) :
    Calls Tryd.prog 20 #[.slice (some ⟨b, off, none⟩) ps.length cap, .slice (some ⟨b', off', none⟩) ps.length cap'] w fun e w' => e = .returned (.bool true) ∧ Chg 0 0 w w' := by
  have hne : ((ps.length : Int) != (ps.length : Int)) = false := by simp
  go_enter Tryd.func20, Tryd.ntmps20
  go_wp2
  go_loopw [5] (fun i wr => Chg 0 0 w wr ∧ ∃ k : Nat, k ≤ ps.length ∧ i = .int .i64 k) (fun i _ => ps.length - (intOf i).toNat)
  case atStart => exact ⟨Chg.refl _ _ _, 0, Nat.zero_le _, rfl⟩
  case round =>
    obtain ⟨hch, k, hk, rfl⟩ := hrel
    by_cases hlt : k < ps.length
    · have c1 := hch.cell (h1 k hlt) (by omega)
      have c2 := hch.cell (h2 k hlt) (by omega)
      have hi : (k : Int) < (ps.length : Int) := by omega
      generalize ps.getD k noText = s at *
      have HC : Hid (Chg 0 0 w wr) := hch
      clear h1 h2 hch
      go_wp2
      go_quiet (fail)
      go_wp2
      go_roundw
      case rel => exact ⟨HC.out.drewN _, k + 1, by omega, by go_num⟩
      case measure => simp [intOf]; omega
    · clear h1 h2
      go_wp2
      go_ret
      exact ⟨rfl, hch⟩

set_option maxRecDepth 20000 in
set_option maxHeartbeats 400000 in
theorem eqStringS_none (w : World) (ao bo : Option Addr) (cap cap' : Nat) :
    Calls Tryd.prog 20 #[.slice ao 0 cap, .slice bo 0 cap'] w fun e w' => e = .returned (.bool true) ∧ Chg 0 0 w w' := by
  go_enter Tryd.func20, Tryd.ntmps20
  go_wp2
  refine wp_loop_rounds 1 ?_; rw [rounds_succ]
  go_wp2
  go_ret
  exact ⟨rfl, Chg.refl _ _ _⟩

theorem eqStringS_calls (w : World) {lo hi lo' hi' : Nat} {a b : Value} {ps : List ByteArray} (h1 : SView w lo hi a ps) (h2 : SView w lo' hi' b ps) :
    Calls Tryd.prog 20 #[a, b] w fun e w' => e = .returned (.bool true) ∧ Chg 0 0 w w' := by
  obtain ⟨ao, cap, rfl, hl, _, h1⟩ := h1
  obtain ⟨bo, cap', rfl, _, _, h2⟩ := h2
  rcases h1 with rfl | ⟨x, off, rfl, _, _, h1⟩
  · exact eqStringS_none w ao bo cap cap'
  · rcases h2 with rfl | ⟨y, off', rfl, _, _, h2⟩
    · exact eqStringS_none w _ bo cap cap'
    · exact eqStringS_some w ps x off y off' cap cap' hl h1 h2

/-- Texts that are marks. -/
def mkT (k0 n : Nat) : List ByteArray := (List.range n).map fun i => mtext (k0 + i)
theorem mkT_len (k0 n : Nat) : (mkT k0 n).length = n := by simp [mkT]
theorem mkT_getD (k0 n i : Nat) (h : i < n) : (mkT k0 n).getD i noText = mtext (k0 + i) := by simp [mkT, List.getD_eq_getElem?_getD, h]
theorem mkT_set (k0 k : Nat) (ps : List ByteArray) (h : k < ps.length) : ((mkT k0 k ++ ps.drop k).map Value.string).set k (.string (mtext (k0 + k))) = (mkT k0 (k + 1) ++ ps.drop (k + 1)).map Value.string := by
  rw [← List.map_set]
  congr 1
  rw [List.set_append, mkT_len, if_neg (by omega), Nat.sub_self, List.drop_eq_getElem_cons h, List.set_cons_zero]
  have : mkT k0 (k + 1) = mkT k0 k ++ [mtext (k0 + k)] := by simp [mkT, List.range_succ]
  rw [this, List.append_assoc]; rfl

end Go.Proofs.YtoagahpoblcioaaDoor
