/- eqInt64S, markInt64S, heldInt64S of the laws, over what is owned as flat structs of one number. -/
import Derived.Test.YtdfpllijijaeiaaFlat
import Derived.Test.YtdfpllijijaeiaaInts
namespace Go.Proofs.Ytdfpllijijaeiaa
open Go.RowKit

theorem FView.ints {w : World} {lo hi : Nat} {v : Value} {k : Nat} {fs : List Int} (h : FView 1 w lo hi v k fs) : View w lo hi .i64 v fs := by
  obtain ⟨ao, cap, rfl, h1, h2, h3, h4⟩ := h
  rw [Nat.mul_one] at h1
  refine ⟨ao, cap, by rw [h1], by omega, by rw [h1]; exact h3, ?_⟩
  rcases h4 with rfl | ⟨b, off, hao, hb, hb', h4⟩
  · exact Or.inl (List.eq_nil_of_length_eq_zero h1)
  · exact Or.inr ⟨b, off, hao, hb, hb', fun i hi => h4 i (by omega)⟩

theorem eqInt64FS_calls (w : World) {lo hi lo' hi' : Nat} {a b : Value} {k : Nat} {fs : List Int} (h1 : FView 1 w lo hi a k fs) (h2 : FView 1 w lo' hi' b k fs) :
    Calls Try.prog 7 #[a, b] w fun e w' => e = .returned (.bool true) ∧ Chg 0 0 w w' :=
  (eqInt64S_calls w h1.ints h2.ints).mono fun _ _ ⟨he, hw⟩ => ⟨he, hw.chg 0 0⟩

theorem OwnF.intsI {w : World} {base : Nat} {e : TypeId} {v : Value} {k : Nat} {fs : List Int} (h : OwnF 1 w base e v k fs) : OwnI w base e v fs := by
  have hl := h.len
  rw [Nat.mul_one] at hl
  unfold OwnI; rw [hl]; exact h
theorem OwnI.flat {w : World} {base : Nat} {e : TypeId} {v : Value} {fs : List Int} (h : OwnI w base e v fs) : OwnF 1 w base e v fs.length fs := h

theorem markInt64FS_calls (w : World) (base : Nat) (e : TypeId) (v : Value) (fs : List Int) (K k0 lo hi : Nat) (hl : K ≤ 1048576) (hk0 : k0 ≤ 1048576) (h1 : OwnF 1 w base e v K fs) (hb : ∀ g, v.ownBlock = some g → lo ≤ g ∧ g < hi) :
    Calls Try.prog 10 #[v, .int .i64 k0] w fun r w' => r = .returned (.int .i64 ((k0 + K * 1 : Nat) : Int)) ∧ OwnF 1 w' base e v K (marksF k0 (K * 1)) ∧ Chg lo hi w w' := by
  have hlen := h1.len
  rw [Nat.mul_one] at hlen ⊢
  subst hlen
  refine (markInt64S_calls w base e v fs k0 lo hi (by omega) (by omega) h1.intsI hb).mono ?_
  rintro r w' ⟨rfl, ho, hc, _⟩
  refine ⟨rfl, ?_, hc⟩
  have := ho.flat
  rw [marksI_length] at this
  exact this

set_option maxRecDepth 20000 in
set_option maxHeartbeats 400000 in
theorem heldInt64FS_some (w : World) (K k0 : Nat) (b off cap : Nat) (hl : K ≤ 1048576) (hk0 : k0 ≤ 1048576)
    (h1 : ∀ j, j < K → w.cell? ⟨b, off + j, none⟩ = some (.int .i64 ((k0 + j : Nat) : Int))) :
    Calls Try.prog 11 #[.slice (some ⟨b, off, none⟩) K cap, .int .i64 k0] w fun e w' => e = .returned (.int .i64 ((k0 + K : Nat) : Int)) ∧ w' = w := by
  go_enter Try.func11, Try.ntmps11
  go_wp2
  go_loopw [1, 5] (fun q i wr => wr = w ∧ ∃ k : Nat, k ≤ K ∧ i = .int .i64 k ∧ q = .int .i64 ((k0 + k : Nat) : Int)) (fun _ i _ => K - (intOf i).toNat)
  case atStart => exact ⟨rfl, 0, Nat.zero_le _, rfl, by simp⟩
  case round =>
    obtain ⟨rfl, k, hk, rfl, rfl⟩ := hrel
    by_cases hlt : k < K
    · have c0 := h1 k hlt
      have hi : (k : Int) < (K : Int) := by omega
      obtain ⟨Q, HQ⟩ : ∃ Q : Nat, Hid (k0 + k = Q) := ⟨_, rfl⟩
      rw [HQ.out] at c0 ⊢
      have hQb : Q ≤ 10000000 := by have := HQ.out; omega
      have n0 : ((Q : Int) != (Q : Int)) = false := by simp
      clear h1
      go_wp2
      go_roundw
      case rel => exact ⟨trivial, k + 1, by omega, by go_num, by have := HQ.out; congr 1; omega⟩
      case measure => simp [intOf]; omega
    · obtain rfl : k = K := by omega
      clear h1
      go_wp2
      go_ret
      exact ⟨ret_int (by omega), rfl⟩

set_option maxRecDepth 20000 in
set_option maxHeartbeats 400000 in
theorem heldInt64FS_none (w : World) (ao : Option Addr) (k0 cap : Nat) :
    Calls Try.prog 11 #[.slice ao 0 cap, .int .i64 k0] w fun e w' => e = .returned (.int .i64 (k0 : Int)) ∧ w' = w := by
  go_enter Try.func11, Try.ntmps11
  go_wp2
  refine wp_loop_rounds 1 ?_; rw [rounds_succ]
  go_wp2
  go_ret
  exact ⟨rfl, rfl⟩

theorem heldInt64FS_calls (w : World) {lo hi : Nat} {a : Value} (k0 K : Nat) (hl : K ≤ 1048576) (hk0 : k0 ≤ 1048576) (h1 : FView 1 w lo hi a K (marksF k0 (K * 1))) :
    Calls Try.prog 11 #[a, .int .i64 k0] w fun e w' => e = .returned (.int .i64 ((k0 + K * 1 : Nat) : Int)) ∧ w' = w := by
  rw [Nat.mul_one] at h1 ⊢
  obtain ⟨ao, cap, rfl, _, _, _, h1⟩ := h1
  rcases h1 with rfl | ⟨x, off, rfl, _, _, h1⟩
  · simpa using heldInt64FS_none w ao k0 cap
  · exact heldInt64FS_some w K k0 x off cap hl hk0 (fun j hj => by rw [h1 j (by omega), marksF_getD _ _ _ hj])

end Go.Proofs.Ytdfpllijijaeiaa
