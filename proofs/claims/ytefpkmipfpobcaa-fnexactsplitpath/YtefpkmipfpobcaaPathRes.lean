/- eqPathResult, markPathResult, heldPathResult of the laws. -/
import Derived.Test.YtefpkmipfpobcaaTextL
namespace Go.Proofs.Ytefpkmipfpobcaa
open Go.RowKit

abbrev prV (c : Int) (ao : Option Addr) (n cap : Nat) : Value := .agg #[.int .i64 c, .slice ao n cap]
abbrev prO (t : TypeId) (c : Int) (ao : Option Addr) (n cap : Nat) : Obj := .cells #[.int .i64 c, .slice ao n cap] t

theorem duo_cells {w : World} {s : Nat} {a b : Value} {t : TypeId} (h : w.heap[s]? = some (.cells #[a, b] t (0, 0))) : w.cell? ⟨s, 0, none⟩ = some a ∧ w.cell? ⟨s, 1, none⟩ = some b := by
  simp [World.cell?, h]

set_option maxRecDepth 20000 in
set_option maxHeartbeats 400000 in
theorem eqPathResult_calls (w : World) {lo hi lo' hi' : Nat} (c : Int) (ao bo : Option Addr) (cap cap' : Nat) {ps : List ByteArray} (h1 : SView w lo hi (.slice ao ps.length cap) ps) (h2 : SView w lo' hi' (.slice bo ps.length cap') ps) :
    Calls Try.prog 6 #[prV c ao ps.length cap, prV c bo ps.length cap'] w fun e w' => e = .returned (.bool true) ∧ Chg 0 0 w w' := by
  have hA : Chg 0 0 w ((w.alloc (prO 24 c ao ps.length cap)).alloc (prO 24 c bo ps.length cap')) := (Chg.alloc (Chg.refl 0 0 w) _).alloc _
  have hne : (c != c) = false := by simp
  have hN := eqStringS_calls _ (h1.chg hA (by omega)) (h2.chg hA (by omega))
  clear h1 h2
  go_enter Try.func6, Try.ntmps6
  go_wp2_with fail
  refine hN.mono ?_
  rintro e w1 ⟨rfl, hs⟩
  have HC : Hid (Chg 0 0 w w1) := hA.trans hs
  clear hs hA hN
  go_wp2
  go_ret
  exact ⟨rfl, HC.out⟩

set_option maxRecDepth 20000 in
set_option maxHeartbeats 400000 in
theorem markPathResult_calls (w : World) (base : Nat) (c : Int) (ao : Option Addr) (cap : Nat) {ps : List ByteArray} (lo hi : Nat) (hl : ps.length ≤ 1048576) (h1 : OwnS w base 9 (.slice ao ps.length cap) ps) (hb : ∀ g, (Value.slice ao ps.length cap).ownBlock = some g → lo ≤ g ∧ g < hi) :
    Calls Try.prog 7 #[prV c ao ps.length cap, .int .i64 1] w fun r w' => r = .returned (.int .i64 ((1 + ps.length : Nat) : Int)) ∧ OwnS w' base 9 (.slice ao ps.length cap) (mkT 1 ps.length) ∧ Chg lo hi w w' := by
  have hA : Chg 0 0 w (w.alloc (prO 24 c ao ps.length cap)) := Chg.alloc (Chg.refl 0 0 w) _
  have hN := markStringS_calls _ base 9 _ ps 1 lo hi hl (by omega) (by omega) (h1.chg hA (by intro g _; omega)) hb
  obtain ⟨M, HM⟩ : ∃ M : Nat, Hid (1 + ps.length = M) := ⟨_, rfl⟩
  rw [Nat.one_mul, HM.out] at hN
  have hMb : M ≤ 10000000 := by have := HM.out; omega
  go_enter Try.func7, Try.ntmps7
  go_wp2_with fail
  refine hN.mono ?_
  rintro e w1 ⟨rfl, ho, hs⟩
  have HC : Hid (Chg lo hi w w1) := (hA.widen (by omega) (by omega)).trans hs
  have HO : Hid (OwnS w1 base 9 (.slice ao ps.length cap) (mkT 1 ps.length)) := ho
  clear hs hA hN ho
  go_wp2
  go_ret
  exact ⟨by rw [HM.out]; rfl, HO.out, HC.out⟩

set_option maxRecDepth 20000 in
set_option maxHeartbeats 400000 in
theorem heldPathResult_calls (w : World) {lo hi : Nat} (c : Int) (ao : Option Addr) (n cap : Nat) (hl : n ≤ 1048576) (h1 : SView w lo hi (.slice ao n cap) (mkT 1 n)) :
    Calls Try.prog 8 #[prV c ao n cap, .int .i64 1] w fun r w' => r = .returned (.int .i64 ((1 + n : Nat) : Int)) ∧ Chg 0 0 w w' := by
  have hA : Chg 0 0 w (w.alloc (prO 24 c ao n cap)) := Chg.alloc (Chg.refl 0 0 w) _
  have hN := heldStringS_calls _ 1 n hl (by omega) (by omega) (h1.chg hA (by omega))
  obtain ⟨M, HM⟩ : ∃ M : Nat, Hid (1 + n = M) := ⟨_, rfl⟩
  rw [Nat.one_mul, HM.out] at hN
  have hMb : M ≤ 10000000 := by have := HM.out; omega
  have hM0 : ¬ ((M : Int) < 0) := by omega
  go_enter Try.func8, Try.ntmps8
  go_wp2_with fail
  refine hN.mono ?_
  rintro e w1 ⟨rfl, hs⟩
  have HC : Hid (Chg 0 0 w w1) := hA.trans hs
  clear hs hA hN
  go_wp2
  go_ret
  exact ⟨by rw [HM.out]; rfl, HC.out⟩

end Go.Proofs.Ytefpkmipfpobcaa
