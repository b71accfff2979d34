/- Maps of bits of the program: the runs as a function to range over. -/
import Derived.Test.YtgmpggloonkfnaaImplNext2
import Derived.Test.YtgmpggloonkfnaaSeqKit
namespace Go.Proofs.Ytgmpggloonkfnaa
open Go.RowKit Go.Shelf
attribute [local go_sem] Oper.semAt_some

/-- A run: where it begins, how long it is. -/
abbrev Rn : Type := { x : Nat × Nat // x.1 ≤ 16384 ∧ x.2 ≤ 16384 }
def encR (x : Rn) : Array Value := #[.agg #[.int .i64 (x.1.1 : Int), .int .i64 (x.1.2 : Int)]]

theorem nextAt_le (ys : List Int) (on : Bool) (E i : Nat) : nextAt ys on E i ≤ E := by
  unfold nextAt
  split
  · have := (nxtB_bounds (ys := ys) (on := on) (E - i) i).2; omega
  · exact Nat.le_refl _
theorem nextAt_ge {ys : List Int} {on : Bool} {E i : Nat} (h : i ≤ E) : i ≤ nextAt ys on E i := by
  unfold nextAt
  split
  · exact (nxtB_bounds (ys := ys) (on := on) (E - i) i).1
  · exact h
theorem nextAt_ahead {ys : List Int} {on : Bool} {E i k : Nat} (h1 : i ≤ k) (h2 : k < nextAt ys on E i) : bitN ys k ≠ on := by
  unfold nextAt at h2
  by_cases hi : i < E
  · rw [if_pos hi] at h2
    exact nxtB_ahead _ _ _ h1 h2
  · rw [if_neg hi] at h2; omega
theorem nextAt_at {ys : List Int} {on : Bool} {E i : Nat} (h : nextAt ys on E i < E) : bitN ys (nextAt ys on E i) = on := by
  unfold nextAt at h ⊢
  by_cases hi : i < E
  · rw [if_pos hi] at h ⊢
    exact nxtB_at _ _ (by omega)
  · rw [if_neg hi] at h; omega
theorem nextAt_beyond {ys : List Int} {E i : Nat} (h : nextAt ys false E i < E) : nextAt ys false E i < nextAt ys true E (nextAt ys false E i) := by
  have h1 := nextAt_at h
  have h2 := nextAt_ge (ys := ys) (on := true) (Nat.le_of_lt h)
  rcases Nat.lt_or_eq_of_le h2 with h3 | h3
  · exact h3
  · have := nextAt_at (ys := ys) (on := true) (E := E) (i := nextAt ys false E i) (by omega)
    rw [← h3, h1] at this
    cases this

/-- The runs from a on, ahead of E. -/
def runsL (ys : List Int) (E : Nat) : Nat → Nat → List Rn
  | 0, _ => []
  | k + 1, a => if h : nextAt ys false E a < E ∧ E ≤ 16384 then
      ⟨(nextAt ys false E a, nextAt ys true E (nextAt ys false E a) - nextAt ys false E a), by have := nextAt_le ys true E (nextAt ys false E a); constructor <;> show _ ≤ _ <;> simp only <;> omega⟩ ::
        runsL ys E k (nextAt ys true E (nextAt ys false E a))
    else []

theorem runsL_cons {ys : List Int} {E a : Nat} (k : Nat) (h : nextAt ys false E a < E) (hE : E ≤ 16384) :
    ∃ x : Rn, x.1 = (nextAt ys false E a, nextAt ys true E (nextAt ys false E a) - nextAt ys false E a) ∧ runsL ys E (k + 1) a = x :: runsL ys E k (nextAt ys true E (nextAt ys false E a)) :=
  ⟨⟨_, by have := nextAt_le ys true E (nextAt ys false E a); constructor <;> show _ ≤ _ <;> simp only <;> omega⟩, rfl, dif_pos ⟨h, hE⟩⟩
theorem runsL_nil {ys : List Int} {E a : Nat} (k : Nat) (h : ¬ nextAt ys false E a < E) : runsL ys E (k + 1) a = [] := dif_neg (fun h' => h h'.1)

set_option maxRecDepth 100000 in
set_option maxHeartbeats 2000000 in
theorem runs_stops (n : Nat) (hn : 1 ≤ n) (Bm Bf Bt n₀ : Nat) (ao : Option Addr) (cap : Nat) (ys : List Int) (f t : Int) (w : World) (hB : Byt ys) (hl : ys.length ≤ 2048)
    (hn0 : n₀ ≤ w.heap.size) (hV : View w 0 n₀ .u8 (.slice ao ys.length cap) ys)
    (hm : w.cell? ⟨Bm, 0, none⟩ = some (.slice ao ys.length cap)) (hf : w.cell? ⟨Bf, 0, none⟩ = some (.int .i64 f)) (ht : w.cell? ⟨Bt, 0, none⟩ = some (.int .i64 t)) :
    SeqStopsK Fence.wide n Try.prog 25 #[.pointer (some ⟨Bm, 0, none⟩), .pointer (some ⟨Bf, 0, none⟩), .pointer (some ⟨Bt, 0, none⟩)] encR (KeepK fun k => k < n₀ ∨ k = Bm)
      (fun xs => xs = runsL ys (cutE ys.length f t) (16385) (cutA ys.length f)) (fun pre => pre <+: runsL ys (cutE ys.length f t) 16385 (cutA ys.length f)) (runsL ys (cutE ys.length f t) 16385 (cutA ys.length f)).length w := fun l J Jx W hW hJ hJx hY h0 => by
  have hm2 : W.cell? ⟨Bm, 0, none⟩ = some (.slice ao ys.length cap) := (hW.cell (p := ⟨Bm, 0, none⟩) (lt_of_cell hm)).trans hm
  have hf2 : W.cell? ⟨Bf, 0, none⟩ = some (.int .i64 f) := (hW.cell (p := ⟨Bf, 0, none⟩) (lt_of_cell hf)).trans hf
  have ht2 : W.cell? ⟨Bt, 0, none⟩ = some (.int .i64 t) := (hW.cell (p := ⟨Bt, 0, none⟩) (lt_of_cell ht)).trans ht
  have hV2 : View W 0 n₀ .u8 (.slice ao ys.length cap) ys := hV.kept (K := fun k => k < n₀) (fun k hk => hW.block k (by omega)) (fun i hi => hi)
  have hAE : cutA ys.length f ≤ cutE ys.length f t := by unfold cutE; have : cutA ys.length f ≤ 8 * ys.length := by unfold cutA; omega
                                                         omega
  have hE8 : cutE ys.length f t ≤ 8 * ys.length := by unfold cutE; omega
  have hN := bwithin_calls W ao ys.length cap f t hl
  obtain ⟨R, HR⟩ : ∃ R, Hid (runsL ys (cutE ys.length f t) 16385 (cutA ys.length f) = R) := ⟨_, rfl⟩
  rw [HR.out] at hY ⊢
  generalize cutA ys.length f = A at *
  generalize cutE ys.length f t = E at *
  clear hm hf ht hV hW
  refine callsIn_of_wp Try.func25 rfl trivial ?_ rfl
  simp only [Try.ntmps25, List.size_toArray, List.length_cons, List.length_nil, Nat.reduceAdd, Nat.reduceSub, Array.replicate_succ, Array.replicate_zero, List.push_toArray, List.append_toArray, List.nil_append, List.cons_append]
  gi_wp2_with (refine ⟨trivial, ?_⟩; gi_at_call 17; refine (callsIn_wide.2 hN).mono ?_; rintro e w' ⟨rfl, rfl⟩)
  clear hN hf2 ht2
  have hE16 : E ≤ 16384 := by omega
  gi_loopw [5] (fun x wr => ∃ (pre : List Rn) (a k : Nat), x = .int .i64 a ∧ a ≤ E ∧ R = pre ++ runsL ys E k a ∧ E - a < k ∧ View wr 0 n₀ .u8 (.slice ao ys.length cap) ys ∧ wr.cell? ⟨Bm, 0, none⟩ = some (.slice ao ys.length cap) ∧ J pre wr)
    (fun x _ => E - (intOf x).toNat)
  case atStart => exact ⟨[], A, 16385, rfl, hAE, HR.out.symm, by omega, hV2, hm2, h0⟩
  case round =>
    clear hV2 hm2 h0 HR hJ hJx hAE
    obtain ⟨pre, a, k, rfl, ha, hRp, hk, hV, hm, hJp⟩ := hrel
    obtain ⟨k, rfl⟩ : ∃ j, k = j + 1 := ⟨k - 1, by omega⟩
    have hN1 := next_calls wr a E false hB hl hE8 hV
    have hN2 := next_calls wr (nextAt ys false E a) E true hB hl hE8 hV
    have hs1 := nextAt_le ys false E a
    have hs2 := nextAt_ge (ys := ys) (on := false) ha
    have hb1 := nextAt_le ys true E (nextAt ys false E a)
    by_cases hsE : nextAt ys false E a < E
    · have hsb := nextAt_beyond hsE
      obtain ⟨x, hx, hrun⟩ := runsL_cons k hsE hE16
      rw [hrun] at hRp
      obtain ⟨fn, tmps, assign, body, hy, hR⟩ := hY pre x wr hJp (by rw [hRp]; simp)
      generalize nextAt ys true E (nextAt ys false E a) = b at *
      generalize nextAt ys false E a = s at *
      have hL : (b : Int) - (s : Int) = ((b - s : Nat) : Int) := by omega
      generalize hq : b - s = L at *
      have HL : Hid (b - s = L) := hq
      have he : encR x = #[.agg #[.int .i64 (s : Int), .int .i64 (L : Int)]] := by unfold encR; rw [hx]
      rw [he] at hy
      have hne : ¬ ((s : Int) = (E : Int)) := by omega
      have HRp : Hid (R = pre ++ x :: runsL ys E k b) := hRp
      clear hRp hY hrun hq he hx
      gi_wp2_with (first | (refine ⟨trivial, ?_⟩; gi_at_call 26; refine (callsIn_wide.2 hN1).mono ?_; clear hN1; rintro e w' ⟨rfl, rfl⟩) | (refine ⟨trivial, ?_⟩; gi_at_call 26; refine (callsIn_wide.2 hN2).mono ?_; clear hN2; rintro e w' ⟨rfl, rfl⟩))
      refine hR.mono ?_
      rintro e W3 (⟨rfl, hJ3, hk3⟩ | ⟨rfl, hJx3⟩)
      · have hm3 : W3.cell? ⟨Bm, 0, none⟩ = some (.slice ao ys.length cap) := (hk3.cell (p := ⟨Bm, 0, none⟩) (Or.inr rfl)).trans hm
        have hV3 := hV.kept hk3 (fun i hi => Or.inl hi)
        gi_wp2
        go_roundw
        case rel => exact ⟨pre ++ [x], b, k, rfl, by omega, by rw [HRp.out]; simp, by omega, hV3, hm3, hJ3⟩
        case measure => simp [intOf]; omega
      · gi_wp2
        refine bodyPost_ret (results_none rfl _ _ _) rfl ?_
        exact ⟨⟨_, rfl⟩, .inr ⟨pre ++ [x], ⟨runsL ys E k b, by rw [HRp.out]; simp⟩, hJx3⟩⟩
    · rw [runsL_nil k hsE, List.append_nil] at hRp
      have hsE' : nextAt ys false E a = E := by omega
      rw [hsE'] at hN1 hN2
      generalize nextAt ys true E E = b at *
      have HRp : Hid (R = pre) := hRp
      clear hRp hY hsE hsE' hs1 hs2 hb1
      gi_wp2_with (first | (refine ⟨trivial, ?_⟩; gi_at_call 26; refine (callsIn_wide.2 hN1).mono ?_; clear hN1; rintro e w' ⟨rfl, rfl⟩) | (refine ⟨trivial, ?_⟩; gi_at_call 26; refine (callsIn_wide.2 hN2).mono ?_; clear hN2; rintro e w' ⟨rfl, rfl⟩))
      refine ⟨fun _ h => (by cases h), ?_⟩
      gi_wp2
      refine bodyPost_ret (results_none rfl _ _ _) rfl ?_
      exact ⟨⟨_, rfl⟩, .inl ⟨pre, HRp.out.symm, hJp⟩⟩

end Go.Proofs.Ytgmpggloonkfnaa
