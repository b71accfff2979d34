/- DirFind of the model. -/
import Derived.Test.YtnodnpphiigcgaaEntBase
namespace Go.Proofs.Ytnodnpphiigcgaa
open Go.RowKit

/-- Where a name stands first, from place i on. -/
def findGo (ts : List Ent) (s : ByteArray) (i : Nat) : Nat → Int
  | 0 => -1
  | n + 1 => if (ts.getD i Ent.none).2.toList = s.toList then (i : Int) else findGo ts s (i + 1) n
def findD (ts : List Ent) (s : ByteArray) : Int := findGo ts s 0 ts.length

set_option maxRecDepth 20000 in
set_option maxHeartbeats 400000 in
theorem specDirFind_some (w : World) (ts : List Ent) (s : ByteArray) (ao : Option Addr) (cap : Nat) (hl : ts.length ≤ 1048576)
    (h1 : ts = [] ∨ ∃ b off, ao = some ⟨b, off, none⟩ ∧ ∀ i, i < ts.length → EAt w b (off + i * 2) (ts.getD i Ent.none)) :
    Calls Try.prog 5 #[.slice ao ts.length cap, .string s] w fun e w' => e = .returned (.int .i64 (findD ts s)) ∧ w' = w := by
  go_enter Try.func5, Try.ntmps5
  go_wp2
  go_loopw [5, 6] (fun f x wr => wr = w ∧ ∃ k : Nat, k ≤ ts.length ∧ x = .int .i64 ((k : Int) - 1) ∧ f = .int .i64 (findGo ts s k (ts.length - k))) (fun _ x _ => (intOf x + 1).toNat)
  case atStart => exact ⟨rfl, ts.length, Nat.le_refl _, by go_num, by rw [Nat.sub_self]; rfl⟩
  case round =>
    obtain ⟨rfl, k, hk, rfl, rfl⟩ := hrel
    by_cases hlt : 0 < k
    · obtain ⟨j, rfl⟩ : ∃ j, k = j + 1 := ⟨k - 1, by omega⟩
      obtain ⟨b, off, rfl, hce⟩ := h1.resolve_left (fun h => by rw [h] at hk; simp at hk)
      obtain ⟨_, c2⟩ := hce j (by omega)
      have hs : findGo ts s j (ts.length - j) = if (ts.getD j Ent.none).2.toList = s.toList then (j : Int) else findGo ts s (j + 1) (ts.length - (j + 1)) := by
        rw [show ts.length - j = (ts.length - (j + 1)) + 1 by omega]; rfl
      have hjl : (j : Int) < (ts.length : Int) := by omega
      have hj1 : ((j + 1 : Nat) : Int) - 1 = (j : Int) := by omega
      rw [hj1]
      generalize (ts.getD j Ent.none).2 = t at *
      generalize findGo ts s (j + 1) (ts.length - (j + 1)) = r at *
      clear h1 hce hj1
      by_cases he : t.toList = s.toList
      · rw [if_pos he] at hs
        have hb : (t.toList == s.toList) = true := by rw [he]; simp
        have Hs : Hid (findGo ts s j (ts.length - j) = j) := hs
        clear hs he
        go_wp2
        go_roundw
        case rel => exact ⟨trivial, j, by omega, by go_num, by rw [Hs.out]⟩
        case measure => simp [intOf]
      · rw [if_neg he] at hs
        have hb : (t.toList == s.toList) = false := by rw [beq_eq_false_iff_ne]; exact he
        have Hs : Hid (findGo ts s j (ts.length - j) = r) := hs
        clear hs he
        go_wp2
        go_roundw
        case rel => exact ⟨trivial, j, by omega, by go_num, by rw [Hs.out]⟩
        case measure => simp [intOf]
    · obtain rfl : k = 0 := by omega
      have Hs : Hid (findD ts s = findGo ts s 0 (ts.length - 0)) := rfl
      generalize findGo ts s 0 (ts.length - 0) = r at *
      clear h1
      go_wp2
      go_ret
      exact ⟨by rw [Hs.out]; rfl, rfl⟩

theorem specDirFind_calls (w : World) {lo hi : Nat} {a : Value} {ts : List Ent} (s : ByteArray) (hl : ts.length ≤ 1048576) (h1 : EView w lo hi a ts) :
    Calls Try.prog 5 #[a, .string s] w fun e w' => e = .returned (.int .i64 (findD ts s)) ∧ Chg 0 0 w w' := by
  obtain ⟨ao, cap, rfl, _, _, h1⟩ := h1
  refine (specDirFind_some w ts s ao cap hl ?_).mono fun _ _ ⟨he, hw⟩ => ⟨he, by rw [hw]; exact Chg.refl _ _ _⟩
  rcases h1 with h1 | ⟨x, off, hao, _, _, h1⟩
  · exact Or.inl h1
  · exact Or.inr ⟨x, off, hao, h1⟩

end Go.Proofs.Ytnodnpphiigcgaa
