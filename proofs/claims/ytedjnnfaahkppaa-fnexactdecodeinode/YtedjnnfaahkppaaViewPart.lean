/- Several short texts in one: InoMark, GetN, ViewStr, StrInj, L2Same, ViewPart. -/
import Derived.Test.YtedjnnfaahkppaaInoSpec
import Derived.Test.YtedjnnfaahkppaaRows
import Derived.Test.YtedjnnfaahkppaaByt
import Derived.Laws.BitsAllLaws
import Derived.Test.YtedjnnfaahkppaaMem
import Derived.Laws.BytesArg
import Derived.Lib.Bytes
namespace Go.Proofs.Ytedjnnfaahkppaa
open Go.RowKit

theorem OwnI.base {w : World} {base base' : Nat} {e : TypeId} {v : Value} {xs : List Int} (h : OwnI w base e v xs) (hb : ∀ g, v.ownBlock = some g → base' ≤ g) : OwnI w base' e v xs := by
  obtain ⟨h1, h2⟩ := h
  refine ⟨h1, ?_⟩
  rcases h2 with h2 | ⟨g, cap, cur, hv, hg, r⟩
  · exact Or.inl h2
  · exact Or.inr ⟨g, cap, cur, hv, hb g (by rw [hv]; rfl), r⟩

theorem OwnI.seen {w : World} {base : Nat} {e : TypeId} {v : Value} {xs : List Int} (h : OwnI w base e v xs) (hl : xs.length ≤ 1048576) : View w base w.heap.size .i64 v xs :=
  h.view (by omega) (fun g hg => (h.lt g hg).2)

set_option maxRecDepth 20000 in
set_option maxHeartbeats 1000000 in
theorem markInode_calls (w : World) (i : Ino) (base : Nat) (ao : Option Addr) (cap k0 lo hi : Nat) (hl : i.dir.length ≤ 1048576) (hk0 : k0 ≤ 140737488355328) (h1 : OwnI w base 2 (.slice ao i.dir.length cap) i.dir)
    (hb : ∀ g, (Value.slice ao i.dir.length cap).ownBlock = some g → lo ≤ g ∧ g < hi) :
    Calls Try.prog 18 #[inoV i ao cap, .int .i64 k0] w fun e w' => e = .returned (.int .i64 ((k0 + i.dir.length : Nat) : Int)) ∧ OwnI w' base 2 (.slice ao i.dir.length cap) (marksI k0 i.dir.length) ∧ Chg lo hi w w' := by
  have C0 : Chg 0 0 w (w.alloc (inoO 25 i ao cap)) := Chg.alloc (Chg.refl 0 0 w) _
  have C1 : Chg lo hi w (w.alloc (inoO 25 i ao cap)) := Chg.alloc (Chg.refl lo hi w) _
  have hM := markInt64S_calls (w.alloc (inoO 25 i ao cap)) base 2 (.slice ao i.dir.length cap) i.dir k0 lo hi (by omega) hk0 (h1.chg C0 (by intro g _; omega)) hb
  clear C0
  go_enter Try.func18, Try.ntmps18
  go_wp2_with fail
  generalize w.alloc (inoO 25 i ao cap) = w0 at *
  refine hM.mono ?_
  rintro e w1 ⟨rfl, o1, h1', _, _⟩
  have HR : Hid (OwnI w1 base 2 (.slice ao i.dir.length cap) (marksI k0 i.dir.length) ∧ Chg lo hi w w1) := ⟨o1, C1.trans h1'⟩
  clear hM o1 h1' C1 h1 hb
  go_wp2
  go_ret
  exact ⟨rfl, HR.out⟩

end Go.Proofs.Ytedjnnfaahkppaa

namespace Go.Proofs.Ytedjnnfaahkppaa
open Go.RowKit

/-- The number of which these are the bytes. -/
def num (xs : List Int) : Int := xs.foldl (fun v x => v * 256 + x) 0

theorem num_take_succ (xs : List Int) (k : Nat) (h : k < xs.length) : num (xs.take (k + 1)) = num (xs.take k) * 256 + xs.getD k 0 := by
  unfold num
  rw [List.take_succ_eq_append_getElem h, List.foldl_append]
  simp [List.getD_eq_getElem?_getD, h]

/-- A number of k bytes, the first of which is at most m, lies below (m + 1) * 256 ^ (k - 1). -/
theorem num_bound {xs : List Int} (h : Byt xs) (m : Nat) (hm : xs.getD 0 0 ≤ m) : ∀ k, k < xs.length → 0 ≤ num (xs.take (k + 1)) ∧ num (xs.take (k + 1)) < (m + 1) * 256 ^ k := by
  intro k
  induction k with
  | zero =>
    intro hk
    rw [num_take_succ xs 0 hk]
    have := h.getD 0
    simp only [List.take_zero, num, List.foldl_nil, Int.pow_zero]; omega
  | succ k ih =>
    intro hk
    have h1 := ih (by omega)
    rw [num_take_succ xs (k + 1) hk]
    have := h.getD (k + 1)
    have e : ((m : Int) + 1) * 256 ^ (k + 1) = ((m + 1) * 256 ^ k) * 256 := by rw [Int.pow_succ, Int.mul_assoc]
    rw [e]
    omega

theorem pw_le {k n : Nat} (h : k ≤ n) : (256 : Int) ^ k ≤ 256 ^ n := by
  induction n with
  | zero => rw [Nat.le_zero.1 h]; exact Int.le_refl _
  | succ n ih =>
    rcases Nat.lt_or_ge k (n + 1) with h' | h'
    · have h1 := ih (by omega)
      have h2 : (0 : Int) ≤ 256 ^ n := Int.le_of_lt (Int.pow_pos (by decide))
      rw [Int.pow_succ]; omega
    · rw [Nat.le_antisymm h h']; exact Int.le_refl _

theorem num_lt {xs : List Int} (h : Byt xs) (hl : xs.length ≤ 8) (h8 : xs.length = 8 → xs.getD 0 0 ≤ 127) (k : Nat) (hk : k ≤ xs.length) : 0 ≤ num (xs.take k) ∧ num (xs.take k) < 9223372036854775808 ∧ (k < xs.length → num (xs.take k) < 36028797018963968) := by
  cases k with
  | zero => simp [num]
  | succ k =>
    by_cases h' : xs.length = 8
    · have h1 := num_bound h 127 (h8 h') k (by omega)
      have hp : (256 : Int) ^ k ≤ 72057594037927936 := pw_le (n := 7) (by omega)
      refine ⟨h1.1, by omega, fun h2 => ?_⟩
      have hp : (256 : Int) ^ k ≤ 281474976710656 := pw_le (n := 6) (by omega)
      omega
    · have h1 := num_bound h 255 (by have := h.getD 0; omega) k (by omega)
      have hp : (256 : Int) ^ k ≤ 281474976710656 := pw_le (n := 6) (by omega)
      refine ⟨h1.1, by omega, fun h2 => ?_⟩
      have hp : (256 : Int) ^ k ≤ 1099511627776 := pw_le (n := 5) (by omega)
      omega

theorem or_low (u x : Int) (h1 : 0 ≤ u) (h2 : u < 36028797018963968) (h3 : 0 ≤ x) (h4 : x < 256) : bits .or .u64 (u * 256) x = u * 256 + x := by
  rw [u64_or _ _ (by omega) (by omega) h3 (by omega), nat_join 8 _ _ (by omega) (by omega)]
  omega

/-- What GetNumber answers. -/
def getN (xs : List Int) : Int := if xs.length = 0 ∨ 8 < xs.length ∨ (xs.length = 8 ∧ 127 < xs.getD 0 0) then -1 else num xs

set_option maxHeartbeats 400000 in
theorem specGet_some (w : World) (xs : List Int) (b off cap : Nat) (hB : Byt xs)
    (hl : xs.length ≤ 9223372036854775807)
    (h1 : ∀ i, i < xs.length → w.cell? ⟨b, off + i, none⟩ = some (.int .u8 (xs.getD i 0))) :
    Calls Try.prog 12 #[.slice (some ⟨b, off, none⟩) xs.length cap] w fun e w' => e = .returned (.int .i64 (getN xs)) ∧ Same w w' := by
  by_cases hz : xs.length = 0
  · have hg : getN xs = -1 := by unfold getN; rw [if_pos (by omega)]
    have hi : (xs.length : Int) < 1 := by omega
    rw [hg]
    go_enter Try.func12, Try.ntmps12
    go_wp2
    all_goals go_ret
    all_goals exact ⟨rfl, Same.refl _⟩
  by_cases h9 : 8 < xs.length
  · have hg : getN xs = -1 := by unfold getN; rw [if_pos (by omega)]
    have hi : ¬ (xs.length : Int) < 1 := by omega
    have hi2 : (xs.length : Int) > 8 := by omega
    rw [hg]
    go_enter Try.func12, Try.ntmps12
    go_wp2
    all_goals go_ret
    all_goals exact ⟨rfl, Same.refl _⟩
  have hz' : ¬ (xs.length : Int) < 1 := by omega
  have h9' : ¬ (xs.length : Int) > 8 := by omega
  have c0 := h1 0 (by omega)
  have b0 := hB.getD 0
  by_cases h8 : xs.length = 8 ∧ 127 < xs.getD 0 0
  · have hg : getN xs = -1 := by unfold getN; rw [if_pos (by omega)]
    rw [hg]
    obtain ⟨h8, h127⟩ := h8
    rw [Nat.add_zero] at c0
    generalize xs.getD 0 0 = x0 at *
    clear h1
    rw [h8]
    go_enter Try.func12, Try.ntmps12
    go_wp2
    all_goals go_ret
    all_goals exact ⟨rfl, Same.refl _⟩
  have hg : getN xs = num xs := by unfold getN; rw [if_neg (by omega)]
  have h127 : xs.length = 8 → xs.getD 0 0 ≤ 127 := by omega
  rw [hg]
  have hlt := num_lt hB (by omega) h127
  rw [Nat.add_zero] at c0
  have HG : Hid (∀ i, i < xs.length → w.cell? ⟨b, off + i, none⟩ = some (.int .u8 (xs.getD i 0))) := h1
  have HB : Hid (Byt xs) := hB
  have H8 : Hid (¬(xs.length = 8 ∧ 127 < xs.getD 0 0)) := h8
  clear hg h1 hB h8
  have hx : (((xs.length : Int) == 8) = true ∧ ¬ xs.getD 0 0 > 127) ∨ ((xs.length : Int) == 8) = false := by
    by_cases e : xs.length = 8
    · left; have := h127 e; exact ⟨by rw [e]; rfl, by omega⟩
    · right; simp; omega
  clear h127
  generalize xs.getD 0 0 = x0 at *
  rcases hx with ⟨h8, hx0⟩ | h8
  all_goals
    go_enter Try.func12, Try.ntmps12
    go_wp2
    go_loop [3, 4] (fun v i => ∃ k : Nat, k ≤ xs.length ∧ i = .int .i64 k ∧ v = .int .i64 (num (xs.take k))) (fun _ i => xs.length - (intOf i).toNat)
    case atStart => exact ⟨0, Nat.zero_le _, rfl, rfl⟩
    case round =>
      obtain ⟨k, hk, rfl, rfl⟩ := hrel
      by_cases hlt' : k < xs.length
      · have c1 := HG.out k hlt'
        have e := num_take_succ xs k hlt'
        have b1 := hlt k hk
        have b2 := hlt (k + 1) hlt'
        have b3 := HB.out.getD k
        have hi : (k : Int) < (xs.length : Int) := by omega
        generalize xs.getD k 0 = x at *
        generalize num (xs.take k) = u at *
        generalize hu : num (xs.take (k + 1)) = u' at *
        have HU : Hid (num (xs.take (k + 1)) = u') := hu
        clear hu
        go_wp2
        go_round
        case rel => exact ⟨k + 1, by omega, by go_num, by rw [HU.out]; go_num⟩
        case measure => simp [intOf]; omega
      · obtain rfl : k = xs.length := by omega
        rw [List.take_length]
        go_wp2
        go_ret
        exact ⟨rfl, Same.refl _⟩

set_option maxHeartbeats 400000 in
theorem specGet_none (w : World) (ao : Option Addr) (cap : Nat) :
    Calls Try.prog 12 #[.slice ao 0 cap] w fun e w' => e = .returned (.int .i64 (-1)) ∧ Same w w' := by
  go_enter Try.func12, Try.ntmps12
  go_wp2
  go_ret
  exact ⟨rfl, Same.refl _⟩

theorem specGet_calls (w : World) {lo hi : Nat} {a : Value} {xs : List Int} (hB : Byt xs) (h1 : View w lo hi .u8 a xs) :
    Calls Try.prog 12 #[a] w fun e w' => e = .returned (.int .i64 (getN xs)) ∧ Same w w' := by
  obtain ⟨ao, cap, rfl, hl, _, h1⟩ := h1
  rcases h1 with rfl | ⟨x, off, rfl, _, _, h1⟩
  · exact specGet_none w ao cap
  · exact specGet_some w xs x off cap hB hl h1

set_option maxHeartbeats 400000 in
theorem implGet_some (w : World) (xs : List Int) (b off cap : Nat) (hB : Byt xs)
    (hl : xs.length ≤ 9223372036854775807)
    (h1 : ∀ i, i < xs.length → w.cell? ⟨b, off + i, none⟩ = some (.int .u8 (xs.getD i 0))) :
    Calls Try.prog 24 #[.slice (some ⟨b, off, none⟩) xs.length cap] w fun e w' => e = .returned (.int .i64 (getN xs)) ∧ Same w w' := by
  by_cases hz : xs.length = 0
  · have hg : getN xs = -1 := by unfold getN; rw [if_pos (by omega)]
    have hi : ((xs.length : Int) == 0) = true := by rw [hz]; rfl
    rw [hg]
    go_enter Try.func24, Try.ntmps24
    go_wp2
    all_goals go_ret
    all_goals exact ⟨rfl, Same.refl _⟩
  by_cases h9 : 8 < xs.length
  · have hg : getN xs = -1 := by unfold getN; rw [if_pos (by omega)]
    have hi : ((xs.length : Int) == 0) = false := by simp only [beq_eq_false_iff_ne, ne_eq]; omega
    have hi2 : (xs.length : Int) > 8 := by omega
    rw [hg]
    go_enter Try.func24, Try.ntmps24
    go_wp2
    all_goals go_ret
    all_goals exact ⟨rfl, Same.refl _⟩
  have hz' : ((xs.length : Int) == 0) = false := by simp only [beq_eq_false_iff_ne, ne_eq]; omega
  have h9' : ¬ (xs.length : Int) > 8 := by omega
  have c0 := h1 0 (by omega)
  have b0 := hB.getD 0
  by_cases h8 : xs.length = 8 ∧ 127 < xs.getD 0 0
  · have hg : getN xs = -1 := by unfold getN; rw [if_pos (by omega)]
    rw [hg]
    obtain ⟨h8, h127⟩ := h8
    rw [Nat.add_zero] at c0
    generalize xs.getD 0 0 = x0 at *
    clear h1
    rw [h8]
    go_enter Try.func24, Try.ntmps24
    go_wp2
    all_goals go_ret
    all_goals exact ⟨rfl, Same.refl _⟩
  have hg : getN xs = num xs := by unfold getN; rw [if_neg (by omega)]
  have h127 : xs.length = 8 → xs.getD 0 0 ≤ 127 := by omega
  rw [hg]
  have hlt := num_lt hB (by omega) h127
  rw [Nat.add_zero] at c0
  have HG : Hid (∀ i, i < xs.length → w.cell? ⟨b, off + i, none⟩ = some (.int .u8 (xs.getD i 0))) := h1
  have HB : Hid (Byt xs) := hB
  have H8 : Hid (¬(xs.length = 8 ∧ 127 < xs.getD 0 0)) := h8
  clear hg h1 hB h8
  have hx : (((xs.length : Int) == 8) = true ∧ ¬ xs.getD 0 0 ≥ 128) ∨ ((xs.length : Int) == 8) = false := by
    by_cases e : xs.length = 8
    · left; have := h127 e; exact ⟨by rw [e]; rfl, by omega⟩
    · right; simp; omega
  clear h127
  generalize xs.getD 0 0 = x0 at *
  rcases hx with ⟨h8, hx0⟩ | h8
  all_goals
    go_enter Try.func24, Try.ntmps24
    go_wp2
    go_loop [3, 25] (fun v i => ∃ k : Nat, k ≤ xs.length ∧ i = .int .i64 k ∧ v = .int .u64 (num (xs.take k))) (fun _ i => xs.length - (intOf i).toNat)
    case atStart => exact ⟨0, Nat.zero_le _, rfl, rfl⟩
    case round =>
      obtain ⟨k, hk, rfl, rfl⟩ := hrel
      by_cases hlt' : k < xs.length
      · have c1 := HG.out k hlt'
        have e := num_take_succ xs k hlt'
        have b1 := hlt k hk
        have b2 := hlt (k + 1) hlt'
        have b3 := HB.out.getD k
        have hi : (k : Int) < (xs.length : Int) := by omega
        generalize xs.getD k 0 = x at *
        generalize num (xs.take k) = u at *
        generalize hu : num (xs.take (k + 1)) = u' at *
        have HU : Hid (num (xs.take (k + 1)) = u') := hu
        clear hu
        go_wp2
        go_round
        case rel => exact ⟨k + 1, by omega, by go_num, by rw [HU.out, or_low u x (by omega) (by omega) (by omega) (by omega), e]⟩
        case measure => simp [intOf]; omega
      · obtain rfl : k = xs.length := by omega
        have b1 := hlt xs.length hk
        rw [List.take_length] at *
        go_wp2
        go_ret
        exact ⟨rfl, Same.refl _⟩

set_option maxHeartbeats 400000 in
theorem implGet_none (w : World) (ao : Option Addr) (cap : Nat) :
    Calls Try.prog 24 #[.slice ao 0 cap] w fun e w' => e = .returned (.int .i64 (-1)) ∧ Same w w' := by
  go_enter Try.func24, Try.ntmps24
  go_wp2
  go_ret
  exact ⟨rfl, Same.refl _⟩

theorem implGet_calls (w : World) {lo hi : Nat} {a : Value} {xs : List Int} (hB : Byt xs) (h1 : View w lo hi .u8 a xs) :
    Calls Try.prog 24 #[a] w fun e w' => e = .returned (.int .i64 (getN xs)) ∧ Same w w' := by
  obtain ⟨ao, cap, rfl, hl, _, h1⟩ := h1
  rcases h1 with rfl | ⟨x, off, rfl, _, _, h1⟩
  · exact implGet_none w ao cap
  · exact implGet_some w xs x off cap hB hl h1

end Go.Proofs.Ytedjnnfaahkppaa

namespace Go.Proofs.Ytedjnnfaahkppaa
open Go.RowKit

/-- Bytes as a string. -/
theorem View.str {w : World} {lo hi : Nat} {v : Value} {xs : List Int} (h : View w lo hi .u8 v xs) : (convert 22 9 v).run Try.prog w = .ok (.string (strOfNums xs)) w := by
  obtain ⟨ao, cap, rfl, _, _, hcell⟩ := h
  cases ao with
  | none =>
    rcases hcell with rfl | ⟨b, off, e, _⟩
    · exact run_convert_bytes_nil w 22 5 Try.underlying22 Try.underlying5 0 cap 9 Try.underlying9
    · cases e
  | some a =>
    have hl : (loadCells a xs.length).run Try.prog w = .ok (xs.map (Value.int .u8)).toArray w := by
      have := run_loadCells_list (P := Try.prog) w a (xs.map (Value.int .u8)) (fun j v hj => by
        have hjl : j < xs.length := by have := (List.getElem?_eq_some_iff.1 hj).1; simpa using this
        rcases hcell with rfl | ⟨b, off, e, _, _, hc⟩
        · simp at hjl
        · cases e
          rw [Go.WideShapes.add_plain, hc j hjl, ← hj]
          simp [List.getD_eq_getElem?_getD, hjl])
      simpa using this
    rw [run_convert_bytes_string w 22 9 5 _ _ _ Try.underlying22 Try.underlying5 Try.underlying9, run_bytesToString w _ _ _ xs hl, foldl_push_bytes]
    simp [strOfNums, ByteArray.empty, ByteArray.emptyWithCapacity]
    rfl

theorem View.take {w : World} {lo hi : Nat} {k : IntKind} {ao : Option Addr} {n cap : Nat} {xs : List Int} (h : View w lo hi k (.slice ao n cap) xs) (m : Nat) (hm : m ≤ xs.length) : View w lo hi k (.slice ao m cap) (xs.take m) := by
  obtain ⟨ao', cap', e, hl, ⟨hc, hc'⟩, h⟩ := h
  cases e
  have hlen : (xs.take m).length = m := by rw [List.length_take]; omega
  refine ⟨ao, cap, by rw [hlen], by omega, ⟨by omega, hc'⟩, ?_⟩
  rcases h with h | ⟨b, off, ha, h1, h2, h3⟩
  · left; rw [h]; simp
  · refine Or.inr ⟨b, off, ha, h1, h2, fun i hi => ?_⟩
    rw [hlen] at hi
    have e : (xs.take m).getD i 0 = xs.getD i 0 := by
      simp only [List.getD_eq_getElem?_getD, List.getElem?_take]
      rw [if_pos hi]
    rw [e]
    exact h3 i (by omega)

end Go.Proofs.Ytedjnnfaahkppaa

namespace Go.Proofs.Ytedjnnfaahkppaa
open Go.RowKit

theorem str_inj {xs ys : List Int} (hx : Byt xs) (hy : Byt ys) (h1 : (xs.map fun n => UInt8.ofNat n.toNat) = ys.map fun n => UInt8.ofNat n.toNat) : xs = ys := by
  induction xs generalizing ys with
  | nil => cases ys with
    | nil => rfl
    | cons y r => simp at h1
  | cons x r ih =>
    cases ys with
    | nil => simp at h1
    | cons y s =>
      simp only [List.map_cons, List.cons.injEq] at h1
      have hx0 := hx x (by simp)
      have hy0 := hy y (by simp)
      have e : x = y := by
        have := congrArg UInt8.toNat h1.1
        simp only [UInt8.toNat_ofNat'] at this
        omega
      rw [e, ih (fun a ha => hx a (by simp [ha])) (fun a ha => hy a (by simp [ha])) h1.2]

theorem str_beq {xs ys : List Int} (hx : Byt xs) (hy : Byt ys) : ((strOfNums xs).toList == (strOfNums ys).toList) = decide (xs = ys) := by
  rw [Go.Lib.strOfNums_toList, Go.Lib.strOfNums_toList]
  by_cases h : xs = ys
  · subst h; rw [decide_eq_true rfl]; exact beq_self_eq_true _
  · rw [decide_eq_false h, beq_eq_false_iff_ne]
    exact fun e => h (str_inj hx hy e)

end Go.Proofs.Ytedjnnfaahkppaa

namespace Go.Proofs.Ytedjnnfaahkppaa
open Go.RowKit

set_option maxRecDepth 20000 in
set_option maxHeartbeats 400000 in
theorem l2Same_calls (w : World) {lo hi lo' hi' : Nat} {a b : Value} {xs ys : List Int} (hx : Byt xs) (hy : Byt ys) (h1 : View w lo hi .u8 a xs) (h2 : View w lo' hi' .u8 b ys) :
    Calls Try.prog 13 #[a, b] w fun e w' => e = .returned (.bool (decide (xs = ys))) ∧ w' = w := by
  have c1 := h1.str
  have c2 := h2.str
  have hb := str_beq hx hy
  obtain ⟨ao, cap, rfl, _⟩ := h1
  obtain ⟨bo, cap', rfl, _⟩ := h2
  generalize strOfNums xs = s at *
  generalize strOfNums ys = t at *
  generalize decide (xs = ys) = r at *
  go_enter Try.func13, Try.ntmps13
  go_wp2
  go_ret
  exact ⟨rfl, rfl⟩

end Go.Proofs.Ytedjnnfaahkppaa

namespace Go.Proofs.Ytedjnnfaahkppaa
open Go.RowKit

/-- A part of a slice of numbers. -/
theorem View.part {w : World} {lo hi b off cap l n : Nat} {k : IntKind} {xs : List Int} (h : View w lo hi k (.slice (some ⟨b, off, none⟩) xs.length cap) xs) (hl : l + n ≤ xs.length) (hn : 0 < n) (c : Nat) (hc : n ≤ c) :
    View w lo hi k (.slice (some ⟨b, off + l, none⟩) n c) ((xs.drop l).take n) := by
  have hlen : ((xs.drop l).take n).length = n := by rw [List.length_take, List.length_drop]; omega
  obtain ⟨ao, cap', e, h0, _, h1⟩ := h
  simp only [Value.slice.injEq] at e
  obtain ⟨e1, _, _⟩ := e
  rcases h1 with h1 | ⟨b', off', e2, h2, h3, h4⟩
  · rw [h1] at hl; simp at hl; omega
  · rw [← e1] at e2
    cases e2
    refine ⟨_, c, by rw [hlen], by rw [hlen]; omega, ⟨by rw [hlen]; exact hc, by simp⟩, Or.inr ⟨b, off + l, rfl, h2, h3, fun i hi => ?_⟩⟩
    rw [hlen] at hi
    rw [Nat.add_assoc, h4 (l + i) (by omega)]
    simp only [List.getD_eq_getElem?_getD, List.getElem?_take, List.getElem?_drop]
    rw [if_pos hi]

end Go.Proofs.Ytedjnnfaahkppaa
