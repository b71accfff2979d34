/- Several short texts in one: TxnSpec, BytSeen. -/
import Derived.Test.YteligghapkleaaaGreatDoorGoodBlk
import Derived.Deep.DeepCutAuto
import Derived.Laws.AppendOwnNone
import Derived.Test.YteligghapkleaaaGreatDoorBytesOf
namespace Go.Proofs.YteligghapkleaaaGreatDoor
open Go.RowKit

/-- v may follow last. -/
def fol (last v : Int) : Bool := decide (last < v) && decide (v < 2048)
/-- What stands ahead. -/
def prevI (xs : List Int) (i : Nat) : Int := if i = 0 then -1 else xs.getD (i - 1) 0
def Rises (xs : List Int) (n : Nat) : Prop := ∀ i, i < n → fol (prevI xs i) (xs.getD i 0) = true
def risesB (xs : List Int) : Bool := decide (∀ i, i < xs.length → fol (prevI xs i) (xs.getD i 0) = true)

theorem fol_iff {a v : Int} : fol a v = true ↔ a < v ∧ v < 2048 := by unfold fol; simp
theorem risesB_true {xs : List Int} : risesB xs = true ↔ Rises xs xs.length := decide_eq_true_iff
theorem risesB_false {xs : List Int} {k : Nat} (hk : k < xs.length) (h : ¬ fol (prevI xs k) (xs.getD k 0) = true) : risesB xs = false := by
  rw [Bool.eq_false_iff]; intro e; exact h (risesB_true.1 e k hk)
theorem Rises.zero (xs : List Int) : Rises xs 0 := fun i h => absurd h (Nat.not_lt_zero i)
theorem Rises.succ {xs : List Int} {n : Nat} (h : Rises xs n) (hn : fol (prevI xs n) (xs.getD n 0) = true) : Rises xs (n + 1) := by
  intro i hi
  by_cases e : i = n
  · subst e; exact hn
  · exact h i (by omega)
/-- What rises is not below 0. -/
theorem Rises.pos {xs : List Int} {n : Nat} (h : Rises xs n) : ∀ i, i < n → 0 ≤ xs.getD i 0 := by
  intro i
  induction i with
  | zero => intro hi; have := (fol_iff.1 (h 0 hi)).1; simp only [prevI, if_true] at this; omega
  | succ i ih =>
    intro hi
    have := (fol_iff.1 (h (i + 1) hi)).1
    rw [show prevI xs (i + 1) = xs.getD i 0 from by unfold prevI; rw [if_neg (by omega)]; rfl] at this
    have := ih (by omega)
    omega

set_option maxRecDepth 20000 in
set_option maxHeartbeats 1000000 in
theorem l4Rising_some (w : World) (xs : List Int) (b off cap : Nat) (hl : xs.length ≤ 9223372036854775807)
    (h1 : ∀ i, i < xs.length → w.cell? ⟨b, off + i, none⟩ = some (.int .i64 (xs.getD i 0))) :
    Calls Tryz.prog 29 #[.slice (some ⟨b, off, none⟩) xs.length cap] w fun e w' => e = .returned (.bool (risesB xs)) ∧ Same w w' := by
  go_enter Tryz.func29, Tryz.ntmps29
  go_wp2
  go_loopw [3] (fun i wr => Same w wr ∧ ∃ k : Nat, k ≤ xs.length ∧ i = .int .i64 k ∧ Rises xs k) (fun i _ => xs.length - (intOf i).toNat)
  case atStart => exact ⟨Same.refl _, 0, Nat.zero_le _, rfl, Rises.zero _⟩
  case round =>
    obtain ⟨hal, k, hk, rfl, hR⟩ := hrel
    by_cases hlt : k < xs.length
    · have c1 : wr.cell? ⟨b, off + k, none⟩ = some (.int .i64 (xs.getD k 0)) := (hal.cell _).trans (h1 k hlt)
      have hi : (k : Int) < (xs.length : Int) := by omega
      have HR : Hid (Rises xs k) := hR
      have HA : Hid (Same w wr) := hal
      by_cases hk0 : k = 0
      · subst hk0
        rw [Nat.add_zero] at c1
        have hp : prevI xs 0 = -1 := rfl
        have hF : ¬ fol (-1) (xs.getD 0 0) = true → risesB xs = false := fun h => risesB_false hlt (by rw [hp]; exact h)
        have hS : fol (-1) (xs.getD 0 0) = true → Rises xs 1 := fun h => HR.out.succ (by rw [hp]; exact h)
        generalize xs.getD 0 0 = x at *
        clear hR hal h1 hp
        go_wp2_with fail
        refine (l3GoodBlock_calls _ x).mono ?_
        rintro e w1 ⟨rfl, rfl⟩
        by_cases hg : 0 ≤ x ∧ x < 2048
        · have hg' : (decide (0 ≤ x) && decide (x < 2048)) = true := by simpa using hg
          rw [hg']
          have Hn : Hid (Rises xs 1) := hS (fol_iff.2 ⟨by omega, hg.2⟩)
          clear hF hS hg' hg
          go_wp2
          go_quiet (fail)
          go_wp2
          go_roundw
          case rel => exact ⟨HA.out.drewN _, 1, by omega, by go_num, Hn.out⟩
          case measure => simp [intOf]; omega
        · have hg' : (decide (0 ≤ x) && decide (x < 2048)) = false := by rw [Bool.eq_false_iff]; simpa using hg
          rw [hg']
          have Hn : Hid (risesB xs = false) := hF (fun h => hg (by have := fol_iff.1 h; omega))
          clear hF hS hg' hg
          go_wp2
          go_quiet (fail)
          go_wp2
          go_ret
          exact ⟨by rw [Hn.out]; rfl, HA.out.drewN _⟩
      · obtain ⟨j, rfl⟩ : ∃ j, k = j + 1 := ⟨k - 1, by omega⟩
        have c0 : wr.cell? ⟨b, off + j, none⟩ = some (.int .i64 (xs.getD j 0)) := (hal.cell _).trans (h1 j (by omega))
        have hp : prevI xs (j + 1) = xs.getD j 0 := by unfold prevI; rw [if_neg (by omega)]; rfl
        have hpos := HR.out.pos j (by omega)
        have hF : ¬ fol (xs.getD j 0) (xs.getD (j + 1) 0) = true → risesB xs = false := fun h => risesB_false hlt (by rw [hp]; exact h)
        have hS : fol (xs.getD j 0) (xs.getD (j + 1) 0) = true → Rises xs (j + 1 + 1) := fun h => HR.out.succ (by rw [hp]; exact h)
        generalize xs.getD (j + 1) 0 = x at *
        generalize xs.getD j 0 = y at *
        clear hR hal h1 hp
        go_wp2_with fail
        refine (l3GoodBlock_calls _ x).mono ?_
        rintro e w1 ⟨rfl, rfl⟩
        by_cases hg : 0 ≤ x ∧ x < 2048
        · have hg' : (decide (0 ≤ x) && decide (x < 2048)) = true := by simpa using hg
          rw [hg']
          have hj1 : (0 : Int) < (j : Int) + 1 := by omega
          have hj2 : (j : Int) < (xs.length : Int) := by omega
          by_cases hy : x ≤ y
          · have Hn : Hid (risesB xs = false) := hF (fun h => by have := fol_iff.1 h; omega)
            clear hF hS hg' hg
            go_wp2
            go_quiet (fail)
            go_wp2
            go_ret
            exact ⟨by rw [Hn.out]; rfl, HA.out.drewN _⟩
          · have Hn : Hid (Rises xs (j + 1 + 1)) := hS (fol_iff.2 ⟨by omega, hg.2⟩)
            clear hF hS hg' hg
            go_wp2
            go_quiet (fail)
            go_wp2
            go_roundw
            case rel => exact ⟨HA.out.drewN _, j + 1 + 1, by omega, by go_num, Hn.out⟩
            case measure => simp [intOf]; omega
        · have hg' : (decide (0 ≤ x) && decide (x < 2048)) = false := by rw [Bool.eq_false_iff]; simpa using hg
          rw [hg']
          have Hn : Hid (risesB xs = false) := hF (fun h => hg (by have := fol_iff.1 h; omega))
          clear hF hS hg' hg
          go_wp2
          go_quiet (fail)
          go_wp2
          go_ret
          exact ⟨by rw [Hn.out]; rfl, HA.out.drewN _⟩
    · obtain rfl : k = xs.length := by omega
      have hr := risesB_true.2 hR
      have Hr : Hid (risesB xs = true) := hr
      clear h1 hR hr
      go_wp2
      go_ret
      exact ⟨by rw [Hr.out]; rfl, hal⟩

set_option maxRecDepth 20000 in
set_option maxHeartbeats 400000 in
theorem l4Rising_none (w : World) (ao : Option Addr) (cap : Nat) :
    Calls Tryz.prog 29 #[.slice ao 0 cap] w fun e w' => e = .returned (.bool true) ∧ Same w w' := by
  go_enter Tryz.func29, Tryz.ntmps29
  go_wp2
  refine wp_loop_rounds 1 ?_; rw [rounds_succ]
  go_wp2
  go_ret
  exact ⟨rfl, Same.refl _⟩

theorem l4Rising_calls (w : World) {lo hi : Nat} {a : Value} {xs : List Int} (h1 : View w lo hi .i64 a xs) :
    Calls Tryz.prog 29 #[a] w fun e w' => e = .returned (.bool (risesB xs)) ∧ Same w w' := by
  obtain ⟨ao, cap, rfl, hl, _, h1⟩ := h1
  rcases h1 with rfl | ⟨x, off, rfl, _, _, h1⟩
  · rw [risesB_true.2 (Rises.zero _)]; exact l4Rising_none w ao cap
  · exact l4Rising_some w xs x off cap hl h1

set_option maxRecDepth 20000 in
set_option maxHeartbeats 400000 in
theorem l4Has_some (w : World) (xs : List Int) (v : Int) (b off cap : Nat) (hl : xs.length ≤ 9223372036854775807)
    (h1 : ∀ i, i < xs.length → w.cell? ⟨b, off + i, none⟩ = some (.int .i64 (xs.getD i 0))) :
    Calls Tryz.prog 30 #[.slice (some ⟨b, off, none⟩) xs.length cap, .int .i64 v] w fun e w' => e = .returned (.bool (decide (v ∈ xs))) ∧ w' = w := by
  go_enter Tryz.func30, Tryz.ntmps30
  go_wp2
  go_loopw [5] (fun i wr => wr = w ∧ ∃ k : Nat, k ≤ xs.length ∧ i = .int .i64 k ∧ v ∉ xs.take k) (fun i _ => xs.length - (intOf i).toNat)
  case atStart => exact ⟨rfl, 0, Nat.zero_le _, rfl, by simp⟩
  case round =>
    obtain ⟨rfl, k, hk, rfl, hR⟩ := hrel
    by_cases hlt : k < xs.length
    · have c1 : wr.cell? ⟨b, off + k, none⟩ = some (.int .i64 (xs.getD k 0)) := h1 k hlt
      have hi : (k : Int) < (xs.length : Int) := by omega
      have hx : xs.getD k 0 = xs[k] := by simp [List.getD_eq_getElem?_getD, hlt]
      by_cases he : xs.getD k 0 = v
      · have Hn : Hid (decide (v ∈ xs) = true) := by show _ = _; rw [decide_eq_true_eq, ← he, hx]; exact List.getElem_mem hlt
        have hv : (xs.getD k 0 == v) = true := by simpa using he
        generalize xs.getD k 0 = x at *
        clear h1 hx hR
        go_wp2
        go_ret
        exact ⟨by rw [Hn.out]; rfl, rfl⟩
      · have Hn : Hid (v ∉ xs.take (k + 1)) := by
          show v ∉ _
          rw [List.take_succ_eq_append_getElem hlt, List.mem_append, not_or]
          exact ⟨hR, by simp; rw [← hx]; exact fun e => he e.symm⟩
        have hv : (xs.getD k 0 == v) = false := by simpa using he
        generalize xs.getD k 0 = x at *
        clear h1 hx hR
        go_wp2
        go_roundw
        case rel => exact ⟨trivial, k + 1, by omega, by go_num, Hn.out⟩
        case measure => simp [intOf]; omega
    · obtain rfl : k = xs.length := by omega
      rw [List.take_length] at hR
      have Hn : Hid (decide (v ∈ xs) = false) := decide_eq_false hR
      clear h1 hR
      go_wp2
      go_ret
      exact ⟨by rw [Hn.out]; rfl, rfl⟩

set_option maxRecDepth 20000 in
set_option maxHeartbeats 400000 in
theorem l4Has_none (w : World) (v : Int) (ao : Option Addr) (cap : Nat) :
    Calls Tryz.prog 30 #[.slice ao 0 cap, .int .i64 v] w fun e w' => e = .returned (.bool false) ∧ w' = w := by
  go_enter Tryz.func30, Tryz.ntmps30
  go_wp2
  refine wp_loop_rounds 1 ?_; rw [rounds_succ]
  go_wp2
  go_ret
  exact ⟨rfl, rfl⟩

theorem l4Has_calls (w : World) {lo hi : Nat} {a : Value} {xs : List Int} (v : Int) (h1 : View w lo hi .i64 a xs) :
    Calls Tryz.prog 30 #[a, .int .i64 v] w fun e w' => e = .returned (.bool (decide (v ∈ xs))) ∧ w' = w := by
  obtain ⟨ao, cap, rfl, hl, _, h1⟩ := h1
  rcases h1 with rfl | ⟨x, off, rfl, _, _, h1⟩
  · exact l4Has_none w v ao cap
  · exact l4Has_some w xs v x off cap hl h1

end Go.Proofs.YteligghapkleaaaGreatDoor

namespace Go.Proofs.YteligghapkleaaaGreatDoor
open Go.RowKit

/-- A slice of bytes of one's own that is not empty. -/
theorem OwnB.some_of {w : World} {base : Nat} {e : TypeId} {v : Value} {xs : List Int} (h : OwnB w base e v xs) (h0 : 0 < xs.length) : ∃ g c, v = .slice (some ⟨g, 0, none⟩) xs.length c := by
  rcases h.2 with ⟨_, h'⟩ | ⟨g, gc, cur, rfl, _⟩
  · omega
  · exact ⟨g, gc, rfl⟩

theorem OwnB.seen {w : World} {base : Nat} {e : TypeId} {v : Value} {xs : List Int} (h : OwnB w base e v xs) (hl : xs.length ≤ 1048576) : View w base w.heap.size .u8 v xs :=
  h.view (by omega) (fun g hg => (h.lt g hg).2)

theorem OwnB.bnil (w : World) (base : Nat) (h : base ≤ w.heap.size) : OwnB (w.alloc (.cells #[] 5)) base 5 (.slice (some ⟨w.heap.size, 0, none⟩) 0 0) [] := by
  have := World.ownsRow_lit (base := base) (e := 5) (size := 1) w #[] 0 h (by unfold maxLen; omega) rfl
  simpa [OwnB] using this

end Go.Proofs.YteligghapkleaaaGreatDoor
