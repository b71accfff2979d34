/- Several short texts in one: FlatInt64F, LineMark, LineF. -/
import Derived.Test.YteaeikmgkmpkiaaGreatDoorInts
import Derived.Test.YteaeikmgkmpkiaaGreatDoorImplParse
import Derived.Test.YteaeikmgkmpkiaaGreatDoorLineLong
import Derived.Test.YteaeikmgkmpkiaaGreatDoorLineNum
import Derived.Test.YteaeikmgkmpkiaaGreatDoorUnqSpec
import Derived.Test.YteaeikmgkmpkiaaGreatDoorTakeC
import Derived.Lib.SlicesS
namespace Go.Proofs.YteaeikmgkmpkiaaGreatDoor
open Go.RowKit

theorem FView.ints {w : World} {lo hi : Nat} {v : Value} {k : Nat} {fs : List Int} (h : FView 1 w lo hi v k fs) : View w lo hi .i64 v fs := by
  obtain ⟨ao, cap, rfl, h1, h2, h3, h4⟩ := h
  rw [Nat.mul_one] at h1
  refine ⟨ao, cap, by rw [h1], by omega, by rw [h1]; exact h3, ?_⟩
  rcases h4 with rfl | ⟨b, off, hao, hb, hb', h4⟩
  · exact Or.inl (List.eq_nil_of_length_eq_zero h1)
  · exact Or.inr ⟨b, off, hao, hb, hb', fun i hi => h4 i (by omega)⟩

theorem eqInt64FS_calls (w : World) {lo hi lo' hi' : Nat} {a b : Value} {k : Nat} {fs : List Int} (h1 : FView 1 w lo hi a k fs) (h2 : FView 1 w lo' hi' b k fs) :
    Calls Tryz.prog 21 #[a, b] w fun e w' => e = .returned (.bool true) ∧ Chg 0 0 w w' :=
  (eqInt64S_calls w h1.ints h2.ints).mono fun _ _ ⟨he, hw⟩ => ⟨he, hw.chg 0 0⟩

theorem OwnF.intsI {w : World} {base : Nat} {e : TypeId} {v : Value} {k : Nat} {fs : List Int} (h : OwnF 1 w base e v k fs) : OwnI w base e v fs := by
  have hl := h.len
  rw [Nat.mul_one] at hl
  unfold OwnI; rw [hl]; exact h
theorem OwnI.flat {w : World} {base : Nat} {e : TypeId} {v : Value} {fs : List Int} (h : OwnI w base e v fs) : OwnF 1 w base e v fs.length fs := h

theorem markInt64FS_calls (w : World) (base : Nat) (e : TypeId) (v : Value) (fs : List Int) (K k0 lo hi : Nat) (hl : K ≤ 1048576) (hk0 : k0 ≤ 1048576) (h1 : OwnF 1 w base e v K fs) (hb : ∀ g, v.ownBlock = some g → lo ≤ g ∧ g < hi) :
    Calls Tryz.prog 22 #[v, .int .i64 k0] w fun r w' => r = .returned (.int .i64 ((k0 + K * 1 : Nat) : Int)) ∧ OwnF 1 w' base e v K (marksF k0 (K * 1)) ∧ Chg lo hi w w' := by
  have hlen := h1.len
  rw [Nat.mul_one] at hlen ⊢
  subst hlen
  refine (markInt64S_calls w base e v fs k0 lo hi (by omega) (by omega) h1.intsI hb).mono ?_
  rintro r w' ⟨rfl, ho, hc, _⟩
  refine ⟨rfl, ?_, hc⟩
  have := ho.flat
  rw [marksI_length] at this
  exact this

set_option maxRecDepth 20000 in
set_option maxHeartbeats 400000 in
theorem heldInt64FS_some (w : World) (K k0 : Nat) (b off cap : Nat) (hl : K ≤ 1048576) (hk0 : k0 ≤ 1048576)
    (h1 : ∀ j, j < K → w.cell? ⟨b, off + j, none⟩ = some (.int .i64 ((k0 + j : Nat) : Int))) :
    Calls Tryz.prog 23 #[.slice (some ⟨b, off, none⟩) K cap, .int .i64 k0] w fun e w' => e = .returned (.int .i64 ((k0 + K : Nat) : Int)) ∧ w' = w := by
  go_enter Tryz.func23, Tryz.ntmps23
  go_wp2
  go_loopw [1, 5] (fun q i wr => wr = w ∧ ∃ k : Nat, k ≤ K ∧ i = .int .i64 k ∧ q = .int .i64 ((k0 + k : Nat) : Int)) (fun _ i _ => K - (intOf i).toNat)
  case atStart => exact ⟨rfl, 0, Nat.zero_le _, rfl, by simp⟩
  case round =>
    obtain ⟨rfl, k, hk, rfl, rfl⟩ := hrel
    by_cases hlt : k < K
    · have c0 := h1 k hlt
      have hi : (k : Int) < (K : Int) := by omega
      obtain ⟨Q, HQ⟩ : ∃ Q : Nat, Hid (k0 + k = Q) := ⟨_, rfl⟩
      rw [HQ.out] at c0 ⊢
      have hQb : Q ≤ 10000000 := by have := HQ.out; omega
      have n0 : ((Q : Int) != (Q : Int)) = false := by simp
      clear h1
      go_wp2
      go_roundw
      case rel => exact ⟨trivial, k + 1, by omega, by go_num, by have := HQ.out; congr 1; omega⟩
      case measure => simp [intOf]; omega
    · obtain rfl : k = K := by omega
      clear h1
      go_wp2
      go_ret
      exact ⟨ret_int (by omega), rfl⟩

set_option maxRecDepth 20000 in
set_option maxHeartbeats 400000 in
theorem heldInt64FS_none (w : World) (ao : Option Addr) (k0 cap : Nat) :
    Calls Tryz.prog 23 #[.slice ao 0 cap, .int .i64 k0] w fun e w' => e = .returned (.int .i64 (k0 : Int)) ∧ w' = w := by
  go_enter Tryz.func23, Tryz.ntmps23
  go_wp2
  refine wp_loop_rounds 1 ?_; rw [rounds_succ]
  go_wp2
  go_ret
  exact ⟨rfl, rfl⟩

theorem heldInt64FS_calls (w : World) {lo hi : Nat} {a : Value} (k0 K : Nat) (hl : K ≤ 1048576) (hk0 : k0 ≤ 1048576) (h1 : FView 1 w lo hi a K (marksF k0 (K * 1))) :
    Calls Tryz.prog 23 #[a, .int .i64 k0] w fun e w' => e = .returned (.int .i64 ((k0 + K * 1 : Nat) : Int)) ∧ w' = w := by
  rw [Nat.mul_one] at h1 ⊢
  obtain ⟨ao, cap, rfl, _, _, _, h1⟩ := h1
  rcases h1 with rfl | ⟨x, off, rfl, _, _, h1⟩
  · simpa using heldInt64FS_none w ao k0 cap
  · exact heldInt64FS_some w K k0 x off cap hl hk0 (fun j hj => by rw [h1 j (by omega), marksF_getD _ _ _ hj])

end Go.Proofs.YteaeikmgkmpkiaaGreatDoor

namespace Go.Proofs.YteaeikmgkmpkiaaGreatDoor
open Go.RowKit

set_option maxRecDepth 20000 in
set_option maxHeartbeats 2000000 in
theorem eqCall_calls (w : World) (s : Lst) : Calls Tryz.prog 20 #[.agg (cCall s), .agg (cCall s)] w fun e w' => e = .returned (.bool true) ∧ Chg 0 0 w w' := by
  have HA : Hid (Chg 0 0 w ((w.alloc (.cells (cCall s) 24)).alloc (.cells (cCall s) 24))) := (Chg.alloc (Chg.refl 0 0 w) _).alloc _
  have b1 : (s.path.toList == s.path.toList) = true := tl_yes2 _
  have b2 : (s.to'.toList == s.to'.toList) = true := tl_yes2 _
  have b3 : (s.data.toList == s.data.toList) = true := tl_yes2 _
  go_enter Tryz.func20, Tryz.ntmps20
  go_wp2
  go_ret
  exact ⟨rfl, HA.out⟩

set_option maxRecDepth 20000 in
set_option maxHeartbeats 2000000 in
theorem eqLine_calls (w : World) {lo hi lo' hi' : Nat} (s : Lst) (a b : Option Addr) (c d : Nat) (h1 : View w lo hi .i64 (.slice a s.nums.length c) s.nums) (h2 : View w lo' hi' .i64 (.slice b s.nums.length d) s.nums) :
    Calls Tryz.prog 7 #[.agg #[.int .i64 s.kind, .int .i64 s.ck, .string s.path, .string s.to', .int .i64 s.han, .int .i64 s.off, .int .i64 s.siz, .string s.data, .slice a s.nums.length c], .agg #[.int .i64 s.kind, .int .i64 s.ck, .string s.path, .string s.to', .int .i64 s.han, .int .i64 s.off, .int .i64 s.siz, .string s.data, .slice b s.nums.length d]] w fun e w' => e = .returned (.bool true) ∧ Chg 0 0 w w' := by
  have hA : Chg 0 0 w ((w.alloc (.cells #[.int .i64 s.kind, .int .i64 s.ck, .string s.path, .string s.to', .int .i64 s.han, .int .i64 s.off, .int .i64 s.siz, .string s.data, .slice a s.nums.length c] 27)).alloc (.cells #[.int .i64 s.kind, .int .i64 s.ck, .string s.path, .string s.to', .int .i64 s.han, .int .i64 s.off, .int .i64 s.siz, .string s.data, .slice b s.nums.length d] 27)) := (Chg.alloc (Chg.refl 0 0 w) _).alloc _
  have HA : Hid (Chg 0 0 w ((w.alloc (.cells #[.int .i64 s.kind, .int .i64 s.ck, .string s.path, .string s.to', .int .i64 s.han, .int .i64 s.off, .int .i64 s.siz, .string s.data, .slice a s.nums.length c] 27)).alloc (.cells #[.int .i64 s.kind, .int .i64 s.ck, .string s.path, .string s.to', .int .i64 s.han, .int .i64 s.off, .int .i64 s.siz, .string s.data, .slice b s.nums.length d] 27))) := hA
  have cA : Chg 0 0 (w.alloc (.cells #[.int .i64 s.kind, .int .i64 s.ck, .string s.path, .string s.to', .int .i64 s.han, .int .i64 s.off, .int .i64 s.siz, .string s.data, .slice a s.nums.length c] 27)) ((w.alloc (.cells #[.int .i64 s.kind, .int .i64 s.ck, .string s.path, .string s.to', .int .i64 s.han, .int .i64 s.off, .int .i64 s.siz, .string s.data, .slice a s.nums.length c] 27)).alloc (.cells #[.int .i64 s.kind, .int .i64 s.ck, .string s.path, .string s.to', .int .i64 s.han, .int .i64 s.off, .int .i64 s.siz, .string s.data, .slice b s.nums.length d] 27)) := Chg.alloc (Chg.refl 0 0 _) _
  have HR : Hid (((w.alloc (.cells #[.int .i64 s.kind, .int .i64 s.ck, .string s.path, .string s.to', .int .i64 s.han, .int .i64 s.off, .int .i64 s.siz, .string s.data, .slice a s.nums.length c] 27)).alloc (.cells #[.int .i64 s.kind, .int .i64 s.ck, .string s.path, .string s.to', .int .i64 s.han, .int .i64 s.off, .int .i64 s.siz, .string s.data, .slice b s.nums.length d] 27)).heap[w.heap.size + 1]? = some (.cells #[.int .i64 s.kind, .int .i64 s.ck, .string s.path, .string s.to', .int .i64 s.han, .int .i64 s.off, .int .i64 s.siz, .string s.data, .slice b s.nums.length d] 27 (0, 0))) := by
    have h := heap_new (w.alloc (.cells #[.int .i64 s.kind, .int .i64 s.ck, .string s.path, .string s.to', .int .i64 s.han, .int .i64 s.off, .int .i64 s.siz, .string s.data, .slice a s.nums.length c] 27)) (.cells #[.int .i64 s.kind, .int .i64 s.ck, .string s.path, .string s.to', .int .i64 s.han, .int .i64 s.off, .int .i64 s.siz, .string s.data, .slice b s.nums.length d] 27)
    rw [show (w.alloc (.cells #[.int .i64 s.kind, .int .i64 s.ck, .string s.path, .string s.to', .int .i64 s.han, .int .i64 s.off, .int .i64 s.siz, .string s.data, .slice a s.nums.length c] 27)).heap.size = w.heap.size + 1 by simp] at h
    exact h
  have HT : Hid (((w.alloc (.cells #[.int .i64 s.kind, .int .i64 s.ck, .string s.path, .string s.to', .int .i64 s.han, .int .i64 s.off, .int .i64 s.siz, .string s.data, .slice a s.nums.length c] 27)).alloc (.cells #[.int .i64 s.kind, .int .i64 s.ck, .string s.path, .string s.to', .int .i64 s.han, .int .i64 s.off, .int .i64 s.siz, .string s.data, .slice b s.nums.length d] 27)).heap[w.heap.size]? = some (.cells #[.int .i64 s.kind, .int .i64 s.ck, .string s.path, .string s.to', .int .i64 s.han, .int .i64 s.off, .int .i64 s.siz, .string s.data, .slice a s.nums.length c] 27 (0, 0))) := (cA.block w.heap.size (by simp) (by omega)).trans (heap_new w _)
  have hs0 : w.heap.size + 2 ≤ ((w.alloc (.cells #[.int .i64 s.kind, .int .i64 s.ck, .string s.path, .string s.to', .int .i64 s.han, .int .i64 s.off, .int .i64 s.siz, .string s.data, .slice a s.nums.length c] 27)).alloc (.cells #[.int .i64 s.kind, .int .i64 s.ck, .string s.path, .string s.to', .int .i64 s.han, .int .i64 s.off, .int .i64 s.siz, .string s.data, .slice b s.nums.length d] 27)).heap.size := by simp
  have hE1 := fun W => eqCall_calls W s
  have HE2 : Hid (∀ W, Chg 0 0 w W → Calls Tryz.prog 21 #[.slice a s.nums.length c, .slice b s.nums.length d] W fun e w' => e = .returned (.bool true) ∧ Chg 0 0 W w') := fun W cW => (eqInt64S_calls W (h1.chg cW (by omega)) (h2.chg cW (by omega))).mono fun _ _ ⟨he, hw⟩ => ⟨he, hw.chg 0 0⟩
  clear hA h1 h2 cA
  go_enter Tryz.func7, Tryz.ntmps7
  go_wp2_with fail
  generalize (w.alloc (.cells #[.int .i64 s.kind, .int .i64 s.ck, .string s.path, .string s.to', .int .i64 s.han, .int .i64 s.off, .int .i64 s.siz, .string s.data, .slice a s.nums.length c] 27)).alloc (.cells #[.int .i64 s.kind, .int .i64 s.ck, .string s.path, .string s.to', .int .i64 s.han, .int .i64 s.off, .int .i64 s.siz, .string s.data, .slice b s.nums.length d] 27) = w0 at *
  refine (hE1 w0).mono ?_
  rintro e w1 ⟨rfl, c1⟩
  have HA1 : Hid (Chg 0 0 w w1) := HA.out.trans c1
  have hs1 := c1.size
  obtain ⟨⟨r0, r1, r2, r3, r4, r5, r6, r7, r8⟩, _⟩ := nine_all ((c1.block _ (by omega) (by omega)).trans HR.out)
  obtain ⟨⟨t0, t1, t2, t3, t4, t5, t6, t7, t8⟩, _⟩ := nine_all ((c1.block _ (by omega) (by omega)).trans HT.out)
  clear c1 HA HR HT
  go_wp2_with fail
  refine (HE2.out w1 HA1.out).mono ?_
  rintro e w2 ⟨rfl, c2⟩
  have HA2 : Hid (Chg 0 0 w w2) := HA1.out.trans c2
  clear c2
  go_wp2
  go_ret
  exact ⟨rfl, HA2.out⟩

set_option maxRecDepth 20000 in
set_option maxHeartbeats 1000000 in
theorem markLine_calls (w : World) (s : Lst) (base : Nat) (a : Option Addr) (c k0 lo hi : Nat) (hl : s.nums.length ≤ 1048576) (hk0 : k0 ≤ 1048576) (h1 : OwnI w base 2 (.slice a s.nums.length c) s.nums) (hb : ∀ g, (Value.slice a s.nums.length c).ownBlock = some g → lo ≤ g ∧ g < hi) :
    Calls Tryz.prog 10 #[.agg #[.int .i64 s.kind, .int .i64 s.ck, .string s.path, .string s.to', .int .i64 s.han, .int .i64 s.off, .int .i64 s.siz, .string s.data, .slice a s.nums.length c], .int .i64 k0] w fun e w' => e = .returned (.int .i64 ((k0 + s.nums.length : Nat) : Int)) ∧ OwnI w' base 2 (.slice a s.nums.length c) (marksI k0 s.nums.length) ∧ Chg lo hi w w' := by
  have C0 : Chg 0 0 w (w.alloc (.cells #[.int .i64 s.kind, .int .i64 s.ck, .string s.path, .string s.to', .int .i64 s.han, .int .i64 s.off, .int .i64 s.siz, .string s.data, .slice a s.nums.length c] 27)) := Chg.alloc (Chg.refl 0 0 w) _
  have C1 : Chg lo hi w (w.alloc (.cells #[.int .i64 s.kind, .int .i64 s.ck, .string s.path, .string s.to', .int .i64 s.han, .int .i64 s.off, .int .i64 s.siz, .string s.data, .slice a s.nums.length c] 27)) := Chg.alloc (Chg.refl lo hi w) _
  have hM := markInt64S_calls (w.alloc (.cells #[.int .i64 s.kind, .int .i64 s.ck, .string s.path, .string s.to', .int .i64 s.han, .int .i64 s.off, .int .i64 s.siz, .string s.data, .slice a s.nums.length c] 27)) base 2 (.slice a s.nums.length c) s.nums k0 lo hi (by omega) (by omega) (h1.chg C0 (by intro g _; omega)) hb
  obtain ⟨⟨r0, r1, r2, r3, r4, r5, r6, r7, r8⟩, _⟩ := nine_all (heap_new w (.cells #[.int .i64 s.kind, .int .i64 s.ck, .string s.path, .string s.to', .int .i64 s.han, .int .i64 s.off, .int .i64 s.siz, .string s.data, .slice a s.nums.length c] 27))
  clear C0 h1 hb
  go_enter Tryz.func10, Tryz.ntmps10
  go_wp2_with fail
  generalize w.alloc (.cells #[.int .i64 s.kind, .int .i64 s.ck, .string s.path, .string s.to', .int .i64 s.han, .int .i64 s.off, .int .i64 s.siz, .string s.data, .slice a s.nums.length c] 27) = w0 at *
  refine hM.mono ?_
  rintro e w1 ⟨rfl, o1, h1', _⟩
  have HR : Hid (OwnI w1 base 2 (.slice a s.nums.length c) (marksI k0 s.nums.length) ∧ Chg lo hi w w1) := ⟨o1, C1.trans h1'⟩
  clear hM o1 h1' C1 r0 r1 r2 r3 r4 r5 r6 r7 r8
  go_wp2
  go_ret
  exact ⟨rfl, HR.out⟩

/-- The marks, found again. -/
theorem heldMarks_calls (w : World) (base : Nat) (v : Value) (k0 K : Nat) (hl : K ≤ 1048576) (hk0 : k0 ≤ 1048576) (h1 : OwnI w base 2 v (marksI k0 K)) :
    Calls Tryz.prog 23 #[v, .int .i64 k0] w fun e w' => e = .returned (.int .i64 ((k0 + K : Nat) : Int)) ∧ Chg 0 0 w w' := by
  have hf : OwnF 1 w base 2 v (marksI k0 K).length (marksI k0 K) := h1.flat
  rw [marksI_length] at hf
  have e1 : marksI k0 K = marksF k0 (K * 1) := by rw [Nat.mul_one]; rfl
  rw [e1] at hf
  refine (heldInt64FS_calls w k0 K hl hk0 (hf.view (by omega) (hi := w.heap.size) (fun g hg => (hf.lt g hg).2))).mono ?_
  rintro e w' h
  exact ⟨by have h1 := h.1; rw [Nat.mul_one] at h1; exact h1, by have h2 := h.2; first | exact h2 | (rw [h2]; exact Chg.refl 0 0 _) | exact h2.chg 0 0⟩

set_option maxRecDepth 20000 in
set_option maxHeartbeats 1000000 in
theorem heldLine_calls (w : World) (s : Lst) (base : Nat) (a : Option Addr) (c k0 : Nat) (hl : s.nums.length ≤ 1048576) (hk1 : k0 ≤ 1048576) (h1 : OwnI w base 2 (.slice a s.nums.length c) (marksI k0 s.nums.length)) :
    Calls Tryz.prog 11 #[.agg #[.int .i64 s.kind, .int .i64 s.ck, .string s.path, .string s.to', .int .i64 s.han, .int .i64 s.off, .int .i64 s.siz, .string s.data, .slice a s.nums.length c], .int .i64 k0] w fun e w' => e = .returned (.int .i64 ((k0 + s.nums.length : Nat) : Int)) ∧ Chg 0 0 w w' := by
  have C0 : Chg 0 0 w (w.alloc (.cells #[.int .i64 s.kind, .int .i64 s.ck, .string s.path, .string s.to', .int .i64 s.han, .int .i64 s.off, .int .i64 s.siz, .string s.data, .slice a s.nums.length c] 27)) := Chg.alloc (Chg.refl 0 0 w) _
  have hM := heldMarks_calls (w.alloc (.cells #[.int .i64 s.kind, .int .i64 s.ck, .string s.path, .string s.to', .int .i64 s.han, .int .i64 s.off, .int .i64 s.siz, .string s.data, .slice a s.nums.length c] 27)) base (.slice a s.nums.length c) k0 s.nums.length hl hk1 (h1.chg C0 (by intro g _; omega))
  have hnn : ¬ (((k0 + s.nums.length : Nat) : Int) < 0) := by omega
  obtain ⟨⟨r0, r1, r2, r3, r4, r5, r6, r7, r8⟩, _⟩ := nine_all (heap_new w (.cells #[.int .i64 s.kind, .int .i64 s.ck, .string s.path, .string s.to', .int .i64 s.han, .int .i64 s.off, .int .i64 s.siz, .string s.data, .slice a s.nums.length c] 27))
  clear h1
  go_enter Tryz.func11, Tryz.ntmps11
  go_wp2_with fail
  generalize w.alloc (.cells #[.int .i64 s.kind, .int .i64 s.ck, .string s.path, .string s.to', .int .i64 s.han, .int .i64 s.off, .int .i64 s.siz, .string s.data, .slice a s.nums.length c] 27) = w0 at *
  refine hM.mono ?_
  rintro e w1 ⟨rfl, h1'⟩
  have HR : Hid (Chg 0 0 w w1) := C0.trans h1'
  clear hM h1' C0 r0 r1 r2 r3 r4 r5 r6 r7 r8
  go_wp2
  go_ret
  exact ⟨rfl, HR.out⟩

end Go.Proofs.YteaeikmgkmpkiaaGreatDoor

namespace Go.Proofs.YteaeikmgkmpkiaaGreatDoor
open Go.RowKit Go.Lib

def longF (F : List ByteArray) : Option Lst :=
  if (F.getD 0 noText) = ⟨#[114, 101, 110, 97, 109, 101]⟩ then (if F.length = 3 then some ⟨1, 5, (F.getD 1 noText), (F.getD 2 noText), 0, 0, 0, ⟨#[]⟩, []⟩ else none) else
  if (F.getD 0 noText) = ⟨#[108, 105, 110, 107]⟩ then (if F.length = 3 then some ⟨1, 9, (F.getD 1 noText), (F.getD 2 noText), 0, 0, 0, ⟨#[]⟩, []⟩ else none) else
  if (F.getD 0 noText) = ⟨#[115, 121, 109, 108, 105, 110, 107]⟩ then (if F.length = 3 then some ⟨1, 10, (F.getD 1 noText), (F.getD 2 noText), 0, 0, 0, ⟨#[]⟩, []⟩ else none) else
  if (F.getD 0 noText) = ⟨#[97, 112, 112, 101, 110, 100]⟩ then (if F.length = 3 then (unqD (F.getD 2 noText)).map fun d => (⟨1, 8, (F.getD 1 noText), ⟨#[]⟩, 0, 0, 0, d, []⟩ : Lst) else none) else
  if (F.getD 0 noText) = ⟨#[119, 114, 105, 116, 101]⟩ then (if F.length = 4 then (numF (F.getD 2 noText)).bind fun n => (unqD (F.getD 3 noText)).map fun d => (⟨1, 6, (F.getD 1 noText), ⟨#[]⟩, 0, n, 0, d, []⟩ : Lst) else none) else
  if (F.getD 0 noText) = ⟨#[102, 105, 108, 108]⟩ then (if F.length = 5 ∧ ((F.getD 4 noText)).size = 1 ∧ 97 ≤ chr (F.getD 4 noText) 0 ∧ chr (F.getD 4 noText) 0 ≤ 122 then (numF (F.getD 2 noText)).bind fun n => (numF (F.getD 3 noText)).bind fun m => if 0 ≤ m ∧ m ≤ 3000 then some (⟨1, 6, (F.getD 1 noText), ⟨#[]⟩, 0, n, 0, (strOfNums (letL (chr (F.getD 4 noText) 0) m.toNat)), []⟩ : Lst) else none else none) else
  if (F.getD 0 noText) = ⟨#[116, 114, 117, 110, 99]⟩ then (if F.length = 3 then (numF (F.getD 2 noText)).map fun n => (⟨1, 7, (F.getD 1 noText), ⟨#[]⟩, 0, 0, n, ⟨#[]⟩, []⟩ : Lst) else none) else
  if (F.getD 0 noText) = ⟨#[114, 101, 97, 100]⟩ then (if F.length = 4 then (numF (F.getD 2 noText)).bind fun n => (numF (F.getD 3 noText)).map fun m => (⟨1, 17, (F.getD 1 noText), ⟨#[]⟩, 0, n, m, ⟨#[]⟩, []⟩ : Lst) else none) else
  none
def hanF (F : List ByteArray) : Option Lst :=
  if (F.getD 0 noText) = ⟨#[99, 108, 111, 115, 101]⟩ then (if F.length = 2 then (numF (F.getD 1 noText)).map fun h => (⟨1, 13, ⟨#[]⟩, ⟨#[]⟩, h, 0, 0, ⟨#[]⟩, []⟩ : Lst) else none) else
  if (F.getD 0 noText) = ⟨#[102, 115, 116, 97, 116]⟩ then (if F.length = 2 then (numF (F.getD 1 noText)).map fun h => (⟨1, 16, ⟨#[]⟩, ⟨#[]⟩, h, 0, 0, ⟨#[]⟩, []⟩ : Lst) else none) else
  if (F.getD 0 noText) = ⟨#[102, 116, 114, 117, 110, 99]⟩ then (if F.length = 3 then (numF (F.getD 1 noText)).bind fun h => (numF (F.getD 2 noText)).map fun n => (⟨1, 12, ⟨#[]⟩, ⟨#[]⟩, h, 0, n, ⟨#[]⟩, []⟩ : Lst) else none) else
  if (F.getD 0 noText) = ⟨#[112, 114, 101, 97, 100]⟩ then (if F.length = 4 then (numF (F.getD 1 noText)).bind fun h => (numF (F.getD 2 noText)).bind fun n => (numF (F.getD 3 noText)).map fun m => (⟨1, 15, ⟨#[]⟩, ⟨#[]⟩, h, n, m, ⟨#[]⟩, []⟩ : Lst) else none) else
  if (F.getD 0 noText) = ⟨#[112, 119, 114, 105, 116, 101]⟩ then (if F.length = 4 then (numF (F.getD 1 noText)).bind fun h => (numF (F.getD 2 noText)).bind fun n => (unqD (F.getD 3 noText)).map fun d => (⟨1, 11, ⟨#[]⟩, ⟨#[]⟩, h, n, 0, d, []⟩ : Lst) else none) else
  none
def armF (F : List ByteArray) : Option Lst := if (numsG [] (F.drop 1)).2 = true ∧ 1 ≤ (numsG [] (F.drop 1)).1.length ∧ (numsG [] (F.drop 1)).1.length ≤ 601 ∧ 1 ≤ (numsG [] (F.drop 1)).1.getD 0 0 then some ⟨4, 0, ⟨#[]⟩, ⟨#[]⟩, 0, 0, 0, ⟨#[]⟩, (numsG [] (F.drop 1)).1⟩ else none
def crashF (F : List ByteArray) : Option Lst := if (numsG [] (F.drop 1)).2 = true ∧ (numsG [] (F.drop 1)).1.length ≤ 600 then some ⟨5, 0, ⟨#[]⟩, ⟨#[]⟩, 0, 0, 0, ⟨#[]⟩, (numsG [] (F.drop 1)).1⟩ else none
def orF (a b : Option Lst) : Option Lst := match a with
  | some s => some s
  | none => b
def restF (F : List ByteArray) : Option Lst := orF (longF F) (hanF F)
def modelF (F : List ByteArray) : Option Lst :=
  if containsS F ⟨#[]⟩ = true then none else
  if F.length = 1 ∧ (F.getD 0 noText) = ⟨#[116, 114, 101, 101]⟩ then some ⟨2, 0, ⟨#[]⟩, ⟨#[]⟩, 0, 0, 0, ⟨#[]⟩, []⟩ else
  if F.length = 1 ∧ (F.getD 0 noText) = ⟨#[99, 104, 101, 99, 107]⟩ then some ⟨3, 0, ⟨#[]⟩, ⟨#[]⟩, 0, 0, 0, ⟨#[]⟩, []⟩ else
  if F.length = 1 ∧ (F.getD 0 noText) = ⟨#[109, 111, 117, 110, 116]⟩ then some ⟨6, 0, ⟨#[]⟩, ⟨#[]⟩, 0, 0, 0, ⟨#[]⟩, []⟩ else
  if F.length = 1 ∧ 0 < loneN (F.getD 0 noText) then some ⟨1, (loneN (F.getD 0 noText)), ⟨#[]⟩, ⟨#[]⟩, 0, 0, 0, ⟨#[]⟩, []⟩ else
  if F.length = 2 ∧ 0 < wordN (F.getD 0 noText) then some ⟨1, (wordN (F.getD 0 noText)), (F.getD 1 noText), ⟨#[]⟩, 0, 0, 0, ⟨#[]⟩, []⟩ else
  if (F.getD 0 noText) = ⟨#[99, 114, 97, 115, 104]⟩ then crashF F else
  if (F.getD 0 noText) = ⟨#[97, 114, 109]⟩ then armF F else
  restF F

end Go.Proofs.YteaeikmgkmpkiaaGreatDoor
