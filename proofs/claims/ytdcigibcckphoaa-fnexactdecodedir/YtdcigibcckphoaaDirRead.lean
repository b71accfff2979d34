/- readDirectory of the program. -/
import Derived.Test.YtdcigibcckphoaaDirVal
import Derived.Test.YtdcigibcckphoaaImplFind
import Derived.Test.YtdcigibcckphoaaEntRead
import Derived.Test.YtdcigibcckphoaaDirDec
import Derived.Test.YtdcigibcckphoaaPieces16
namespace Go.Proofs.Ytdcigibcckphoaa
open Go.RowKit Go.Shelf
attribute [local go_sem] Oper.semAt_some

set_option maxHeartbeats 1000000 in
/-- pieces: its list and its number lie in two new variables. -/
theorem pieces_calls (w : World) (ao : Option Addr) (L cap : Nat) (n : Int) :
    Calls Try.prog 22 #[.slice ao L cap, .int .i64 n] w fun e w' =>
      e = .returned (.func (.func 32) #[] #[.pointer (some ⟨w.heap.size, 0, none⟩), .pointer (some ⟨w.heap.size + 1, 0, none⟩)]) ∧ w' = (w.alloc (.cells #[.slice ao L cap] 22)).alloc (.cells #[.int .i64 n] 3) := by
  have hs : (w.alloc (.cells #[.slice ao L cap] 22)).heap.size = w.heap.size + 1 := by simp
  go_enter Try.func22, Try.ntmps22
  go_wp2
  go_ret
  exact ⟨rfl, rfl⟩

theorem apart_entsTo (xs : List Int) : ∀ k, Apart (entsTo xs k) ↔ ∀ j, j < k → findD (entsTo xs j) (entAt xs j).2 < 0
  | 0 => ⟨fun _ j hj => absurd hj (Nat.not_lt_zero j), fun _ j hj => by rw [entsTo_len] at hj; exact absurd hj (Nat.not_lt_zero j)⟩
  | k + 1 => by
    rw [entsTo_succ]
    by_cases hf : findD (entsTo xs k) (entAt xs k).2 = -1
    · rw [apart_new hf, apart_entsTo xs k]
      constructor
      · intro h j hj
        by_cases e : j < k
        · exact h j e
        · obtain rfl : j = k := by omega
          omega
      · exact fun h j hj => h j (by omega)
    · constructor
      · intro h
        exact absurd h (apart_old hf)
      · intro h
        have h1 := h k (Nat.lt_succ_self k)
        rcases findD_range (entsTo xs k) (entAt xs k).2 with h2 | h2
        · exact absurd h2 hf
        · omega

theorem entG_B {ys : List Int} (h : entG ys = true) : entB (eQ ys) (eS ys) = true := by
  unfold entG at h
  simp only [Bool.and_eq_true, decide_eq_true_eq] at h
  obtain ⟨h1, _, h3⟩ := h
  cases hb : entB (eQ ys) (eS ys) with
  | true => rfl
  | false =>
    unfold encEnt at h3
    rw [hb, if_neg (by decide)] at h3
    have := congrArg List.length h3
    rw [h1] at this
    cases this
theorem entsTo_at (xs : List Int) {K k : Nat} (h : k < K) : (entsTo xs K).getD k Ent.none = entAt xs k := by
  unfold entsTo
  simp [List.getD_eq_getElem?_getD, h]
theorem dirG_okD {xs : List Int} {K : Nat} (hl : xs.length ≤ 2560) (hK : xs.length = 16 * K) (hg : ∀ k, k < K → entG (recAt xs k) = true) : okD (entsTo xs K) = dirG xs := by
  classical
  rw [Bool.eq_iff_iff, dirG_iff]
  unfold okD
  rw [decide_eq_true_eq, apart_entsTo, show xs.length / 16 = K by omega]
  constructor
  · rintro ⟨_, h2⟩
    refine ⟨by omega, hl, fun k hk => ?_⟩
    unfold okAt
    rw [hg k hk, decide_eq_true (h2 k hk)]
    rfl
  · rintro ⟨_, _, h2⟩
    refine ⟨fun k hk => ?_, fun k hk => ?_⟩
    · rw [entsTo_len] at hk
      rw [entsTo_at xs hk]
      exact entG_B (hg k hk)
    · have := h2 k hk
      unfold okAt at this
      rw [Bool.and_eq_true, decide_eq_true_eq] at this
      exact this.2

end Go.Proofs.Ytdcigibcckphoaa
