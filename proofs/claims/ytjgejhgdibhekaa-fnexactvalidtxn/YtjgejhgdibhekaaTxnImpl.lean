/- follows, cmp.Less, slices.BinarySearch of numbers. -/
import Derived.Test.YtjgejhgdibhekaaTxnSpec
namespace Go.Proofs.Ytjgejhgdibhekaa
open Go.RowKit

set_option maxHeartbeats 400000 in
theorem follows_calls (w : World) (l v : Int) : Calls Try.prog 18 #[.int .i64 l, .int .i64 v] w fun e w' => e = .returned (.bool (fol l v)) ∧ w' = w := by
  unfold fol
  by_cases h1 : l < v
  · by_cases h2 : v < 2048
    · rw [decide_eq_true h1, decide_eq_true h2]
      go_enter Try.func18, Try.ntmps18
      go_wp2
      go_ret
      exact ⟨rfl, rfl⟩
    · rw [decide_eq_true h1, decide_eq_false h2]
      go_enter Try.func18, Try.ntmps18
      go_wp2
      go_ret
      exact ⟨rfl, rfl⟩
  · rw [decide_eq_false h1]
    go_enter Try.func18, Try.ntmps18
    go_wp2
    go_ret
    exact ⟨rfl, rfl⟩

set_option maxHeartbeats 400000 in
theorem nan_calls (w : World) (x : Int) : Calls Try.prog 26 #[.int .i64 x] w fun e w' => e = .returned (.bool false) ∧ w' = w := by
  have hne : (x != x) = false := by simp
  go_enter Try.func26, Try.ntmps26
  go_wp2
  go_ret
  exact ⟨rfl, rfl⟩
set_option maxHeartbeats 400000 in
theorem nan2_calls (w : World) (x : Int) : Calls Try.prog 30 #[.int .i64 x] w fun e w' => e = .returned (.bool false) ∧ w' = w := by
  have hne : (x != x) = false := by simp
  go_enter Try.func30, Try.ntmps30
  go_wp2
  go_ret
  exact ⟨rfl, rfl⟩
set_option maxHeartbeats 400000 in
theorem less_calls (w : World) (x y : Int) : Calls Try.prog 25 #[.int .i64 x, .int .i64 y] w fun e w' => e = .returned (.bool (decide (x < y))) ∧ w' = w := by
  go_enter Try.func25, Try.ntmps25
  go_wp2_with fail
  refine (nan2_calls _ x).mono ?_
  rintro e w1 ⟨rfl, rfl⟩
  go_wp2
  go_ret
  exact ⟨rfl, rfl⟩

/-- What the search keeps. -/
def Bs (xs : List Int) (v : Int) (i j : Nat) : Prop := i ≤ j ∧ j ≤ xs.length ∧ (∀ m, m < i → xs.getD m 0 < v) ∧ ∀ m, j ≤ m → m < xs.length → v ≤ xs.getD m 0

theorem Rises.lt {xs : List Int} (h : Rises xs xs.length) : ∀ d m : Nat, m + d + 1 < xs.length → xs.getD m 0 < xs.getD (m + d + 1) 0 := by
  intro d
  induction d with
  | zero =>
    intro m hm
    have := (fol_iff.1 (h (m + 1) (by omega))).1
    rwa [show prevI xs (m + 1) = xs.getD m 0 from by unfold prevI; rw [if_neg (by omega)]; rfl] at this
  | succ d ih =>
    intro m hm
    have h1 := ih m (by omega)
    have h2 := (fol_iff.1 (h (m + (d + 1) + 1) (by omega))).1
    rw [show prevI xs (m + (d + 1) + 1) = xs.getD (m + d + 1) 0 from by unfold prevI; rw [if_neg (by omega)]; rfl] at h2
    omega

theorem Bs.start (xs : List Int) (v : Int) : Bs xs v 0 xs.length := ⟨Nat.zero_le _, Nat.le_refl _, fun m h => absurd h (Nat.not_lt_zero m), fun m h1 h2 => by omega⟩
theorem Rises.le {xs : List Int} (h : Rises xs xs.length) {a b : Nat} (hab : a ≤ b) (hb : b < xs.length) : xs.getD a 0 ≤ xs.getD b 0 := by
  by_cases e : a = b
  · subst e; exact Int.le_refl _
  · obtain ⟨d, rfl⟩ : ∃ d, b = a + d + 1 := ⟨b - a - 1, by omega⟩
    exact Int.le_of_lt (h.lt d a hb)
theorem Bs.up {xs : List Int} {v : Int} {i j m : Nat} (h : Bs xs v i j) (hr : Rises xs xs.length) (_ : i ≤ m) (h2 : m < j) (hx : xs.getD m 0 < v) : Bs xs v (m + 1) j :=
  ⟨by omega, h.2.1, fun k hk => Int.lt_of_le_of_lt (hr.le (by omega) (by have := h.2.1; omega)) hx, h.2.2.2⟩
theorem Bs.down {xs : List Int} {v : Int} {i j m : Nat} (h : Bs xs v i j) (hr : Rises xs xs.length) (h1 : i ≤ m) (h2 : m < j) (hx : ¬ xs.getD m 0 < v) : Bs xs v i m :=
  ⟨h1, by have := h.2.1; omega, h.2.2.1, fun k hk hk2 => Int.le_trans (Int.not_lt.1 hx) (hr.le hk hk2)⟩
theorem Bs.found {xs : List Int} {v : Int} {i : Nat} (h : Bs xs v i i) (hr : Rises xs xs.length) : v ∈ xs ↔ i < xs.length ∧ xs.getD i 0 = v := by
  constructor
  · intro hm
    obtain ⟨m, hm, he⟩ := List.mem_iff_getElem.1 hm
    have he' : xs.getD m 0 = v := by rw [← he]; simp [List.getD_eq_getElem?_getD, hm]
    have h1 : ¬ m < i := fun hl => by have := h.2.2.1 m hl; omega
    have hil : i < xs.length := by omega
    have h2 := h.2.2.2 i (Nat.le_refl _) hil
    have h3 := hr.le (a := i) (b := m) (by omega) hm
    exact ⟨hil, by omega⟩
  · rintro ⟨hl, he⟩
    rw [← he]
    simp [List.getD_eq_getElem?_getD, hl]

set_option maxRecDepth 20000 in
set_option maxHeartbeats 1000000 in
theorem search_some (w : World) (xs : List Int) (v : Int) (b off cap : Nat) (hl : xs.length ≤ 1048576) (hr : Rises xs xs.length)
    (h1 : ∀ i, i < xs.length → w.cell? ⟨b, off + i, none⟩ = some (.int .i64 (xs.getD i 0))) :
    Calls Try.prog 19 #[.slice (some ⟨b, off, none⟩) xs.length cap, .int .i64 v] w fun e w' => ∃ p, e = .returned (.tuple #[.int .i64 p, .bool (decide (v ∈ xs))]) ∧ w' = w := by
  have HR : Hid (Rises xs xs.length) := hr
  clear hr
  go_enter Try.func19, Try.ntmps19
  go_wp2
  go_loopw [7, 8] (fun i j wr => wr = w ∧ ∃ a c : Nat, i = .int .i64 a ∧ j = .int .i64 c ∧ Bs xs v a c) (fun i j _ => (intOf j).toNat - (intOf i).toNat)
  case atStart => exact ⟨rfl, 0, xs.length, rfl, rfl, Bs.start xs v⟩
  case round =>
    obtain ⟨rfl, a, c, rfl, rfl, hB⟩ := hrel
    have h01 := hB.1
    have h02 := hB.2.1
    have HB : Hid (Bs xs v a c) := hB
    clear hB
    by_cases hlt : a < c
    · have hm1 : a ≤ (a + c) / 2 := by omega
      have hm2 : (a + c) / 2 < c := by omega
      have c1 : wr.cell? ⟨b, off + (a + c) / 2, none⟩ = some (.int .i64 (xs.getD ((a + c) / 2) 0)) := h1 _ (by omega)
      have hik : ((a : Int) + c) / 2 < (xs.length : Int) := by omega
      have hup := HB.out.up HR.out hm1 hm2
      have hdn := HB.out.down HR.out hm1 hm2
      generalize xs.getD ((a + c) / 2) 0 = x at *
      clear h1
      go_wp2_with fail
      refine (less_calls _ x v).mono ?_
      rintro e w1 ⟨rfl, rfl⟩
      by_cases hx : x < v
      · have Hn : Hid (Bs xs v ((a + c) / 2 + 1) c) := hup hx
        rw [decide_eq_true hx]
        clear hup hdn hx c1
        go_wp2
        go_roundw
        case rel => exact ⟨trivial, (a + c) / 2 + 1, c, by first | go_num | (congr 1; omega), rfl, Hn.out⟩
        case measure => simp [intOf]; omega
      · have Hn : Hid (Bs xs v a ((a + c) / 2)) := hdn (by omega)
        rw [decide_eq_false hx]
        clear hup hdn hx c1
        go_wp2
        go_roundw
        case rel => exact ⟨trivial, a, (a + c) / 2, rfl, by first | go_num | (congr 1; omega), Hn.out⟩
        case measure => simp [intOf]; omega
    · obtain rfl : a = c := by omega
      have hF := HB.out.found HR.out
      by_cases hl2 : a < xs.length
      · have c1 : wr.cell? ⟨b, off + a, none⟩ = some (.int .i64 (xs.getD a 0)) := h1 _ hl2
        have hik : (a : Int) < (xs.length : Int) := by omega
        by_cases hx : xs.getD a 0 = v
        · have Hn : Hid (decide (v ∈ xs) = true) := decide_eq_true (hF.2 ⟨hl2, hx⟩)
          have hxe : (xs.getD a 0 == v) = true := by simpa using hx
          generalize xs.getD a 0 = x at *
          clear hF h1 hx
          go_wp2
          go_ret2
          exact ⟨_, by rw [Hn.out]; rfl, rfl⟩
        · have Hn : Hid (decide (v ∈ xs) = false) := decide_eq_false (fun h => hx (hF.1 h).2)
          have hxe : (xs.getD a 0 == v) = false := by simpa using hx
          generalize xs.getD a 0 = x at *
          clear hF h1 hx
          go_wp2_with fail
          refine (nan_calls _ x).mono ?_
          rintro e w1 ⟨rfl, rfl⟩
          go_wp2
          go_ret2
          exact ⟨_, by rw [Hn.out]; rfl, rfl⟩
      · have Hn : Hid (decide (v ∈ xs) = false) := decide_eq_false (fun h => hl2 (hF.1 h).1)
        clear hF h1
        go_wp2
        go_ret2
        exact ⟨_, by rw [Hn.out]; rfl, rfl⟩

set_option maxRecDepth 20000 in
set_option maxHeartbeats 400000 in
theorem search_none (w : World) (v : Int) (ao : Option Addr) (cap : Nat) :
    Calls Try.prog 19 #[.slice ao 0 cap, .int .i64 v] w fun e w' => ∃ p, e = .returned (.tuple #[.int .i64 p, .bool false]) ∧ w' = w := by
  go_enter Try.func19, Try.ntmps19
  go_wp2
  refine wp_loop_rounds 1 ?_; rw [rounds_succ]
  go_wp2
  go_ret2
  exact ⟨_, rfl, rfl⟩

theorem search_calls (w : World) {lo hi : Nat} {a : Value} {xs : List Int} (v : Int) (hl : xs.length ≤ 1048576) (hr : Rises xs xs.length) (h1 : View w lo hi .i64 a xs) :
    Calls Try.prog 19 #[a, .int .i64 v] w fun e w' => ∃ p, e = .returned (.tuple #[.int .i64 p, .bool (decide (v ∈ xs))]) ∧ w' = w := by
  obtain ⟨ao, cap, rfl, _, _, h1⟩ := h1
  rcases h1 with rfl | ⟨x, off, rfl, _, _, h1⟩
  · exact search_none w v ao cap
  · exact search_some w xs v x off cap hl hr h1

end Go.Proofs.Ytjgejhgdibhekaa
