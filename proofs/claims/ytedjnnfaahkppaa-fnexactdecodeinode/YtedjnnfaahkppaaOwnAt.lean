/- Several short texts in one: FlatInt64F, OwnAt. -/
import Derived.Test.YtedjnnfaahkppaaInoSpec
namespace Go.Proofs.Ytedjnnfaahkppaa
open Go.RowKit

theorem FView.ints {w : World} {lo hi : Nat} {v : Value} {k : Nat} {fs : List Int} (h : FView 1 w lo hi v k fs) : View w lo hi .i64 v fs := by
  obtain ⟨ao, cap, rfl, h1, h2, h3, h4⟩ := h
  rw [Nat.mul_one] at h1
  refine ⟨ao, cap, by rw [h1], by omega, by rw [h1]; exact h3, ?_⟩
  rcases h4 with rfl | ⟨b, off, hao, hb, hb', h4⟩
  · exact Or.inl (List.eq_nil_of_length_eq_zero h1)
  · exact Or.inr ⟨b, off, hao, hb, hb', fun i hi => h4 i (by omega)⟩

theorem eqInt64FS_calls (w : World) {lo hi lo' hi' : Nat} {a b : Value} {k : Nat} {fs : List Int} (h1 : FView 1 w lo hi a k fs) (h2 : FView 1 w lo' hi' b k fs) :
    Calls Try.prog 28 #[a, b] w fun e w' => e = .returned (.bool true) ∧ Chg 0 0 w w' :=
  (eqInt64S_calls w h1.ints h2.ints).mono fun _ _ ⟨he, hw⟩ => ⟨he, hw.chg 0 0⟩

theorem OwnF.intsI {w : World} {base : Nat} {e : TypeId} {v : Value} {k : Nat} {fs : List Int} (h : OwnF 1 w base e v k fs) : OwnI w base e v fs := by
  have hl := h.len
  rw [Nat.mul_one] at hl
  unfold OwnI; rw [hl]; exact h
theorem OwnI.flat {w : World} {base : Nat} {e : TypeId} {v : Value} {fs : List Int} (h : OwnI w base e v fs) : OwnF 1 w base e v fs.length fs := h

theorem markInt64FS_calls (w : World) (base : Nat) (e : TypeId) (v : Value) (fs : List Int) (K k0 lo hi : Nat) (hl : K ≤ 1048576) (hk0 : k0 ≤ 1048576) (h1 : OwnF 1 w base e v K fs) (hb : ∀ g, v.ownBlock = some g → lo ≤ g ∧ g < hi) :
    Calls Try.prog 29 #[v, .int .i64 k0] w fun r w' => r = .returned (.int .i64 ((k0 + K * 1 : Nat) : Int)) ∧ OwnF 1 w' base e v K (marksF k0 (K * 1)) ∧ Chg lo hi w w' := by
  have hlen := h1.len
  rw [Nat.mul_one] at hlen ⊢
  subst hlen
  refine (markInt64S_calls w base e v fs k0 lo hi (by omega) (by omega) h1.intsI hb).mono ?_
  rintro r w' ⟨rfl, ho, hc, _⟩
  refine ⟨rfl, ?_, hc⟩
  have := ho.flat
  rw [marksI_length] at this
  exact this

set_option maxRecDepth 20000 in
set_option maxHeartbeats 400000 in
theorem heldInt64FS_some (w : World) (K k0 : Nat) (b off cap : Nat) (hl : K ≤ 1048576) (hk0 : k0 ≤ 1048576)
    (h1 : ∀ j, j < K → w.cell? ⟨b, off + j, none⟩ = some (.int .i64 ((k0 + j : Nat) : Int))) :
    Calls Try.prog 30 #[.slice (some ⟨b, off, none⟩) K cap, .int .i64 k0] w fun e w' => e = .returned (.int .i64 ((k0 + K : Nat) : Int)) ∧ w' = w := by
  go_enter Try.func30, Try.ntmps30
  go_wp2
  go_loopw [1, 5] (fun q i wr => wr = w ∧ ∃ k : Nat, k ≤ K ∧ i = .int .i64 k ∧ q = .int .i64 ((k0 + k : Nat) : Int)) (fun _ i _ => K - (intOf i).toNat)
  case atStart => exact ⟨rfl, 0, Nat.zero_le _, rfl, by simp⟩
  case round =>
    obtain ⟨rfl, k, hk, rfl, rfl⟩ := hrel
    by_cases hlt : k < K
    · have c0 := h1 k hlt
      have hi : (k : Int) < (K : Int) := by omega
      obtain ⟨Q, HQ⟩ : ∃ Q : Nat, Hid (k0 + k = Q) := ⟨_, rfl⟩
      rw [HQ.out] at c0 ⊢
      have hQb : Q ≤ 10000000 := by have := HQ.out; omega
      have n0 : ((Q : Int) != (Q : Int)) = false := by simp
      clear h1
      go_wp2
      go_roundw
      case rel => exact ⟨trivial, k + 1, by omega, by go_num, by have := HQ.out; congr 1; omega⟩
      case measure => simp [intOf]; omega
    · obtain rfl : k = K := by omega
      clear h1
      go_wp2
      go_ret
      exact ⟨ret_int (by omega), rfl⟩

set_option maxRecDepth 20000 in
set_option maxHeartbeats 400000 in
theorem heldInt64FS_none (w : World) (ao : Option Addr) (k0 cap : Nat) :
    Calls Try.prog 30 #[.slice ao 0 cap, .int .i64 k0] w fun e w' => e = .returned (.int .i64 (k0 : Int)) ∧ w' = w := by
  go_enter Try.func30, Try.ntmps30
  go_wp2
  refine wp_loop_rounds 1 ?_; rw [rounds_succ]
  go_wp2
  go_ret
  exact ⟨rfl, rfl⟩

theorem heldInt64FS_calls (w : World) {lo hi : Nat} {a : Value} (k0 K : Nat) (hl : K ≤ 1048576) (hk0 : k0 ≤ 1048576) (h1 : FView 1 w lo hi a K (marksF k0 (K * 1))) :
    Calls Try.prog 30 #[a, .int .i64 k0] w fun e w' => e = .returned (.int .i64 ((k0 + K * 1 : Nat) : Int)) ∧ w' = w := by
  rw [Nat.mul_one] at h1 ⊢
  obtain ⟨ao, cap, rfl, _, _, _, h1⟩ := h1
  rcases h1 with rfl | ⟨x, off, rfl, _, _, h1⟩
  · simpa using heldInt64FS_none w ao k0 cap
  · exact heldInt64FS_some w K k0 x off cap hl hk0 (fun j hj => by rw [h1 j (by omega), marksF_getD _ _ _ hj])

end Go.Proofs.Ytedjnnfaahkppaa

namespace Go.Proofs.Ytedjnnfaahkppaa
open Go.RowKit

def OwnW (w : World) (base : Nat) (v : Value) (xs : List Int) : Prop :=
  (v = .slice none 0 0 ∧ xs = []) ∨ ∃ g off cap, v = .slice (some ⟨g, off, none⟩) xs.length cap ∧ xs.length ≤ cap ∧ base ≤ g ∧ g < w.heap.size ∧
    ∀ j, j < xs.length → w.cell? ⟨g, off + j, none⟩ = some (.int .i64 (xs.getD j 0)) ∧ w.frozen? ⟨g, off + j, none⟩ = false
theorem OwnW.nil (w : World) (base : Nat) : OwnW w base (.slice none 0 0) [] := Or.inl ⟨rfl, rfl⟩
theorem OwnW.lt {w : World} {base : Nat} {v : Value} {xs : List Int} (h : OwnW w base v xs) : ∀ g, v.ownBlock = some g → base ≤ g ∧ g < w.heap.size := by
  rcases h with ⟨rfl, _⟩ | ⟨g, off, cap, rfl, _, h1, h2, _⟩
  · intro g hg; cases hg
  · intro g' hg; cases hg; exact ⟨h1, h2⟩
theorem OwnW.chg {w w' : World} {base l r : Nat} {v : Value} {xs : List Int} (h : OwnW w base v xs) (c : Chg l r w w') (d : ∀ g, v.ownBlock = some g → g < l ∨ r ≤ g) : OwnW w' base v xs := by
  rcases h with h | ⟨g, off, cap, rfl, h0, h1, h2, h3⟩
  · exact Or.inl h
  · refine Or.inr ⟨g, off, cap, rfl, h0, h1, Nat.lt_of_lt_of_le h2 c.size, fun j hj => ?_⟩
    have hb := c.block g h2 (d g rfl)
    exact ⟨(World.cell?_of_block (a := ⟨g, off + j, none⟩) hb).trans (h3 j hj).1, (World.frozen?_of_block (a := ⟨g, off + j, none⟩) hb).trans (h3 j hj).2⟩
theorem OwnW.seen {w : World} {base : Nat} {v : Value} {xs : List Int} (h : OwnW w base v xs) (hl : xs.length ≤ 1048576) : View w base w.heap.size .i64 v xs := by
  rcases h with ⟨rfl, rfl⟩ | ⟨g, off, cap, rfl, h0, h1, h2, h3⟩
  · exact ⟨none, 0, rfl, by simp, ⟨by simp, by simp⟩, Or.inl rfl⟩
  · exact ⟨_, cap, rfl, by omega, ⟨h0, by simp⟩, Or.inr ⟨g, off, rfl, h1, h2, fun j hj => (h3 j hj).1⟩⟩
theorem OwnW.slc {w : World} {base : Nat} {v : Value} {xs : List Int} (h : OwnW w base v xs) : ∃ a c, v = .slice a xs.length c := by
  rcases h with ⟨rfl, rfl⟩ | ⟨g, off, cap, rfl, _⟩
  · exact ⟨_, _, rfl⟩
  · exact ⟨_, _, rfl⟩

set_option maxRecDepth 20000 in
set_option maxHeartbeats 1000000 in
theorem markInt64W_some (w : World) (xs : List Int) (k0 g off cap : Nat) (hl : xs.length ≤ 1048576) (hk0 : k0 ≤ 1048576)
    (h1 : ∀ j, j < xs.length → w.cell? ⟨g, off + j, none⟩ = some (.int .i64 (xs.getD j 0)) ∧ w.frozen? ⟨g, off + j, none⟩ = false) :
    Calls Try.prog 29 #[.slice (some ⟨g, off, none⟩) xs.length cap, .int .i64 k0] w fun r w' => r = .returned (.int .i64 ((k0 + xs.length : Nat) : Int)) ∧
      (∀ j, j < xs.length → w'.cell? ⟨g, off + j, none⟩ = some (.int .i64 ((k0 + j : Nat) : Int)) ∧ w'.frozen? ⟨g, off + j, none⟩ = false) ∧ Chg g (g + 1) w w' := by
  go_enter Try.func29, Try.ntmps29
  go_wp2
  go_loopw [1, 5] (fun q i wr => ∃ k : Nat, k ≤ xs.length ∧ i = .int .i64 k ∧ q = .int .i64 ((k0 + k : Nat) : Int) ∧ (∀ j, j < xs.length → wr.cell? ⟨g, off + j, none⟩ = some (.int .i64 (if j < k then ((k0 + j : Nat) : Int) else xs.getD j 0)) ∧ wr.frozen? ⟨g, off + j, none⟩ = false) ∧ Chg g (g + 1) w wr) (fun _ i _ => xs.length - (intOf i).toNat)
  case atStart => exact ⟨0, Nat.zero_le _, rfl, rfl, fun j hj => by rw [if_neg (Nat.not_lt_zero j)]; exact h1 j hj, Chg.refl _ _ _⟩
  case round =>
    obtain ⟨k, hk, rfl, rfl, hown, hch⟩ := hrel
    clear h1
    by_cases hlt : k < xs.length
    · obtain ⟨c1, f1⟩ := hown k hlt
      have hi : (k : Int) < (xs.length : Int) := by omega
      have R2 : Chg g (g + 1) w (wr.setCell ⟨g, off + k, none⟩ (.int .i64 ((k0 + k : Nat) : Int))) := hch.setCell (Or.inl ⟨Nat.le_refl _, Nat.lt_succ_self _⟩) _
      have HR : Hid (∀ j, j < xs.length → (wr.setCell ⟨g, off + k, none⟩ (.int .i64 ((k0 + k : Nat) : Int))).cell? ⟨g, off + j, none⟩ = some (.int .i64 (if j < k + 1 then ((k0 + j : Nat) : Int) else xs.getD j 0)) ∧ (wr.setCell ⟨g, off + k, none⟩ (.int .i64 ((k0 + k : Nat) : Int))).frozen? ⟨g, off + j, none⟩ = false) := fun j hj => by
        obtain ⟨d1, d2⟩ := hown j hj
        refine ⟨?_, by rw [World.frozen?_setCell]; exact d2⟩
        by_cases e : j = k
        · subst e
          rw [if_pos (Nat.lt_succ_self j)]
          exact World.cell?_setCell_same' _ _ _ (by rw [c1]; rfl)
        · rw [World.cell?_setCell_other (w := wr) (a := ⟨g, off + k, none⟩) (b := ⟨g, off + j, none⟩) (v := .int .i64 ((k0 + k : Nat) : Int)) (by intro h; injection h with _ h; omega), d1]
          by_cases e2 : j < k
          · rw [if_pos e2, if_pos (by omega)]
          · rw [if_neg e2, if_neg (by omega)]
      clear hown hch
      go_wp2
      go_roundw
      case rel => exact ⟨k + 1, by omega, by go_num, by go_num, HR.out, R2⟩
      case measure => simp [intOf]; omega
    · obtain rfl : k = xs.length := by omega
      have HR : Hid (∀ j, j < xs.length → wr.cell? ⟨g, off + j, none⟩ = some (.int .i64 ((k0 + j : Nat) : Int)) ∧ wr.frozen? ⟨g, off + j, none⟩ = false) := fun j hj => by
        have := hown j hj
        rw [if_pos hj] at this
        exact this
      clear hown
      go_wp2
      go_ret
      exact ⟨ret_int (by omega), HR.out, hch⟩

theorem markInt64W_calls (w : World) (base : Nat) (v : Value) (xs : List Int) (k0 lo hi : Nat) (hl : xs.length ≤ 1048576) (hk0 : k0 ≤ 1048576) (h1 : OwnW w base v xs) (hb : ∀ g, v.ownBlock = some g → lo ≤ g ∧ g < hi) :
    Calls Try.prog 29 #[v, .int .i64 k0] w fun r w' => r = .returned (.int .i64 ((k0 + xs.length : Nat) : Int)) ∧ OwnW w' base v (marksI k0 xs.length) ∧ Chg lo hi w w' := by
  rcases h1 with ⟨rfl, rfl⟩ | ⟨g, off, cap, rfl, h0, h1, h2, h3⟩
  · refine (markInt64S_none w none k0 0).mono ?_
    rintro r w' ⟨rfl, rfl⟩
    exact ⟨rfl, OwnW.nil _ _, Chg.refl _ _ _⟩
  · refine (markInt64W_some w xs k0 g off cap hl hk0 h3).mono ?_
    rintro r w' ⟨rfl, ho, hc⟩
    have := hb g rfl
    refine ⟨rfl, Or.inr ⟨g, off, cap, by rw [marksI_length], by rw [marksI_length]; exact h0, h1, Nat.lt_of_lt_of_le h2 hc.size, fun j hj => ?_⟩, hc.widen (Or.inl this.1) (Or.inl (by omega))⟩
    rw [marksI_length] at hj
    refine ⟨?_, (ho j hj).2⟩
    rw [(ho j hj).1]
    simp [marksI, List.getD_eq_getElem?_getD, hj]

/-- The marks, found again. -/
theorem heldInt64W_calls (w : World) (base : Nat) (v : Value) (k0 K : Nat) (hl : K ≤ 1048576) (hk0 : k0 ≤ 1048576) (h1 : OwnW w base v (marksI k0 K)) :
    Calls Try.prog 30 #[v, .int .i64 k0] w fun e w' => e = .returned (.int .i64 ((k0 + K : Nat) : Int)) ∧ Chg 0 0 w w' := by
  have hv := h1.seen (by rw [marksI_length]; exact hl)
  have e1 : marksI k0 K = marksF k0 (K * 1) := by rw [Nat.mul_one]; rfl
  have hf : FView 1 w base w.heap.size v K (marksF k0 (K * 1)) := by
    rw [← e1]
    obtain ⟨ao, cap, rfl, h2, h3, h4⟩ := hv
    rw [marksI_length] at h2 h3 h4 ⊢
    refine ⟨ao, cap, rfl, by rw [marksI_length, Nat.mul_one], h2, h3, ?_⟩
    rcases h4 with h4 | ⟨b, off, rfl, h5, h6, h7⟩
    · exact Or.inl (by have := congrArg List.length h4; rw [marksI_length] at this; exact this)
    · exact Or.inr ⟨b, off, rfl, h5, h6, fun j hj => h7 j (by omega)⟩
  refine (heldInt64FS_calls w k0 K hl hk0 hf).mono ?_
  rintro e w' h
  exact ⟨by have h1 := h.1; rw [Nat.mul_one] at h1; exact h1, by have h2 := h.2; first | exact h2 | (rw [h2]; exact Chg.refl 0 0 _) | exact h2.chg 0 0⟩

end Go.Proofs.Ytedjnnfaahkppaa
