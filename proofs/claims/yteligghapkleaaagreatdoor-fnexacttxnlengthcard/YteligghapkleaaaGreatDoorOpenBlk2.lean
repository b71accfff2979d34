/- Several short texts in one: GetI, Head, OpenBlk, ArrEq, OpenBlk2. -/
import Derived.Test.YteligghapkleaaaGreatDoorRows
import Derived.Test.YteligghapkleaaaGreatDoorBytesOf
import Derived.Laws.BitsAllLaws
import Derived.Test.YteligghapkleaaaGreatDoorAs
import Derived.Test.YteligghapkleaaaGreatDoorMg
import Derived.Deep.RegionHeld3
import Derived.Deep.RegionWith
import Derived.Deep.DeepCutAuto
import Derived.Stop.BytesEq
namespace Go.Proofs.YteligghapkleaaaGreatDoor
open Go.RowKit

/-- The number of which these are the bytes. -/
def num (xs : List Int) : Int := xs.foldl (fun v x => v * 256 + x) 0

theorem num_take_succ (xs : List Int) (k : Nat) (h : k < xs.length) : num (xs.take (k + 1)) = num (xs.take k) * 256 + xs.getD k 0 := by
  unfold num
  rw [List.take_succ_eq_append_getElem h, List.foldl_append]
  simp [List.getD_eq_getElem?_getD, h]

/-- A number of k bytes, the first of which is at most m, lies below (m + 1) * 256 ^ (k - 1). -/
theorem num_bound {xs : List Int} (h : Byt xs) (m : Nat) (hm : xs.getD 0 0 ≤ m) : ∀ k, k < xs.length → 0 ≤ num (xs.take (k + 1)) ∧ num (xs.take (k + 1)) < (m + 1) * 256 ^ k := by
  intro k
  induction k with
  | zero =>
    intro hk
    rw [num_take_succ xs 0 hk]
    have := h.getD 0
    simp only [List.take_zero, num, List.foldl_nil, Int.pow_zero]; omega
  | succ k ih =>
    intro hk
    have h1 := ih (by omega)
    rw [num_take_succ xs (k + 1) hk]
    have := h.getD (k + 1)
    have e : ((m : Int) + 1) * 256 ^ (k + 1) = ((m + 1) * 256 ^ k) * 256 := by rw [Int.pow_succ, Int.mul_assoc]
    rw [e]
    omega

theorem pw_le {k n : Nat} (h : k ≤ n) : (256 : Int) ^ k ≤ 256 ^ n := by
  induction n with
  | zero => rw [Nat.le_zero.1 h]; exact Int.le_refl _
  | succ n ih =>
    rcases Nat.lt_or_ge k (n + 1) with h' | h'
    · have h1 := ih (by omega)
      have h2 : (0 : Int) ≤ 256 ^ n := Int.le_of_lt (Int.pow_pos (by decide))
      rw [Int.pow_succ]; omega
    · rw [Nat.le_antisymm h h']; exact Int.le_refl _

theorem num_lt {xs : List Int} (h : Byt xs) (hl : xs.length ≤ 8) (h8 : xs.length = 8 → xs.getD 0 0 ≤ 127) (k : Nat) (hk : k ≤ xs.length) : 0 ≤ num (xs.take k) ∧ num (xs.take k) < 9223372036854775808 ∧ (k < xs.length → num (xs.take k) < 36028797018963968) := by
  cases k with
  | zero => simp [num]
  | succ k =>
    by_cases h' : xs.length = 8
    · have h1 := num_bound h 127 (h8 h') k (by omega)
      have hp : (256 : Int) ^ k ≤ 72057594037927936 := pw_le (n := 7) (by omega)
      refine ⟨h1.1, by omega, fun h2 => ?_⟩
      have hp : (256 : Int) ^ k ≤ 281474976710656 := pw_le (n := 6) (by omega)
      omega
    · have h1 := num_bound h 255 (by have := h.getD 0; omega) k (by omega)
      have hp : (256 : Int) ^ k ≤ 281474976710656 := pw_le (n := 6) (by omega)
      refine ⟨h1.1, by omega, fun h2 => ?_⟩
      have hp : (256 : Int) ^ k ≤ 1099511627776 := pw_le (n := 5) (by omega)
      omega

theorem or_low (u x : Int) (h1 : 0 ≤ u) (h2 : u < 36028797018963968) (h3 : 0 ≤ x) (h4 : x < 256) : bits .or .u64 (u * 256) x = u * 256 + x := by
  rw [u64_or _ _ (by omega) (by omega) h3 (by omega), nat_join 8 _ _ (by omega) (by omega)]
  omega

/-- What GetNumber answers. -/
def getN (xs : List Int) : Int := if xs.length = 0 ∨ 8 < xs.length ∨ (xs.length = 8 ∧ 127 < xs.getD 0 0) then -1 else num xs

set_option maxHeartbeats 400000 in
theorem implGet_some (w : World) (xs : List Int) (b off cap : Nat) (hB : Byt xs)
    (hl : xs.length ≤ 9223372036854775807)
    (h1 : ∀ i, i < xs.length → w.cell? ⟨b, off + i, none⟩ = some (.int .u8 (xs.getD i 0))) :
    Calls Tryz.prog 84 #[.slice (some ⟨b, off, none⟩) xs.length cap] w fun e w' => e = .returned (.int .i64 (getN xs)) ∧ Same w w' := by
  by_cases hz : xs.length = 0
  · have hg : getN xs = -1 := by unfold getN; rw [if_pos (by omega)]
    have hi : ((xs.length : Int) == 0) = true := by rw [hz]; rfl
    rw [hg]
    go_enter Tryz.func84, Tryz.ntmps84
    go_wp2
    all_goals go_ret
    all_goals exact ⟨rfl, Same.refl _⟩
  by_cases h9 : 8 < xs.length
  · have hg : getN xs = -1 := by unfold getN; rw [if_pos (by omega)]
    have hi : ((xs.length : Int) == 0) = false := by simp only [beq_eq_false_iff_ne, ne_eq]; omega
    have hi2 : (xs.length : Int) > 8 := by omega
    rw [hg]
    go_enter Tryz.func84, Tryz.ntmps84
    go_wp2
    all_goals go_ret
    all_goals exact ⟨rfl, Same.refl _⟩
  have hz' : ((xs.length : Int) == 0) = false := by simp only [beq_eq_false_iff_ne, ne_eq]; omega
  have h9' : ¬ (xs.length : Int) > 8 := by omega
  have c0 := h1 0 (by omega)
  have b0 := hB.getD 0
  by_cases h8 : xs.length = 8 ∧ 127 < xs.getD 0 0
  · have hg : getN xs = -1 := by unfold getN; rw [if_pos (by omega)]
    rw [hg]
    obtain ⟨h8, h127⟩ := h8
    rw [Nat.add_zero] at c0
    generalize xs.getD 0 0 = x0 at *
    clear h1
    rw [h8]
    go_enter Tryz.func84, Tryz.ntmps84
    go_wp2
    all_goals go_ret
    all_goals exact ⟨rfl, Same.refl _⟩
  have hg : getN xs = num xs := by unfold getN; rw [if_neg (by omega)]
  have h127 : xs.length = 8 → xs.getD 0 0 ≤ 127 := by omega
  rw [hg]
  have hlt := num_lt hB (by omega) h127
  rw [Nat.add_zero] at c0
  have HG : Hid (∀ i, i < xs.length → w.cell? ⟨b, off + i, none⟩ = some (.int .u8 (xs.getD i 0))) := h1
  have HB : Hid (Byt xs) := hB
  have H8 : Hid (¬(xs.length = 8 ∧ 127 < xs.getD 0 0)) := h8
  clear hg h1 hB h8
  have hx : (((xs.length : Int) == 8) = true ∧ ¬ xs.getD 0 0 ≥ 128) ∨ ((xs.length : Int) == 8) = false := by
    by_cases e : xs.length = 8
    · left; have := h127 e; exact ⟨by rw [e]; rfl, by omega⟩
    · right; simp; omega
  clear h127
  generalize xs.getD 0 0 = x0 at *
  rcases hx with ⟨h8, hx0⟩ | h8
  all_goals
    go_enter Tryz.func84, Tryz.ntmps84
    go_wp2
    go_loop [3, 25] (fun v i => ∃ k : Nat, k ≤ xs.length ∧ i = .int .i64 k ∧ v = .int .u64 (num (xs.take k))) (fun _ i => xs.length - (intOf i).toNat)
    case atStart => exact ⟨0, Nat.zero_le _, rfl, rfl⟩
    case round =>
      obtain ⟨k, hk, rfl, rfl⟩ := hrel
      by_cases hlt' : k < xs.length
      · have c1 := HG.out k hlt'
        have e := num_take_succ xs k hlt'
        have b1 := hlt k hk
        have b2 := hlt (k + 1) hlt'
        have b3 := HB.out.getD k
        have hi : (k : Int) < (xs.length : Int) := by omega
        generalize xs.getD k 0 = x at *
        generalize num (xs.take k) = u at *
        generalize hu : num (xs.take (k + 1)) = u' at *
        have HU : Hid (num (xs.take (k + 1)) = u') := hu
        clear hu
        go_wp2
        go_round
        case rel => exact ⟨k + 1, by omega, by go_num, by rw [HU.out, or_low u x (by omega) (by omega) (by omega) (by omega), e]⟩
        case measure => simp [intOf]; omega
      · obtain rfl : k = xs.length := by omega
        have b1 := hlt xs.length hk
        rw [List.take_length] at *
        go_wp2
        go_ret
        exact ⟨rfl, Same.refl _⟩

set_option maxHeartbeats 400000 in
theorem implGet_none (w : World) (ao : Option Addr) (cap : Nat) :
    Calls Tryz.prog 84 #[.slice ao 0 cap] w fun e w' => e = .returned (.int .i64 (-1)) ∧ Same w w' := by
  go_enter Tryz.func84, Tryz.ntmps84
  go_wp2
  go_ret
  exact ⟨rfl, Same.refl _⟩

theorem implGet_calls (w : World) {lo hi : Nat} {a : Value} {xs : List Int} (hB : Byt xs) (h1 : View w lo hi .u8 a xs) :
    Calls Tryz.prog 84 #[a] w fun e w' => e = .returned (.int .i64 (getN xs)) ∧ Same w w' := by
  obtain ⟨ao, cap, rfl, hl, _, h1⟩ := h1
  rcases h1 with rfl | ⟨x, off, rfl, _, _, h1⟩
  · exact implGet_none w ao cap
  · exact implGet_some w xs x off cap hB hl h1

end Go.Proofs.YteligghapkleaaaGreatDoor

namespace Go.Proofs.YteligghapkleaaaGreatDoor
open Go.RowKit

/-- A header's seven cells. -/
def hd7 (xs : List Int) : Array Value := #[.int .u8 (xs.getD 0 0), .int .u8 (xs.getD 1 0), .int .u8 (xs.getD 2 0), .int .u8 (xs.getD 3 0), .int .i64 (xs.getD 4 0), .int .i64 (getN ((xs.drop 6).take 2)), .int .i64 (getN ((xs.drop 8).take 4))]

set_option maxRecDepth 20000 in
set_option maxHeartbeats 400000 in
theorem magic_calls (w : World) (a b c d k i s : Int) :
    Calls Tryz.prog 79 #[.agg #[.int .u8 a, .int .u8 b, .int .u8 c, .int .u8 d, .int .i64 k, .int .i64 i, .int .i64 s]] w fun e w' => e = .returned (.agg #[.int .u8 a, .int .u8 b, .int .u8 c, .int .u8 d]) ∧ Chg 0 0 w w' := by
  have HC : Hid (Chg 0 0 w ((w.alloc (.cells #[.int .u8 a, .int .u8 b, .int .u8 c, .int .u8 d, .int .i64 k, .int .i64 i, .int .i64 s] 102)).alloc (.cells #[.int .u8 a, .int .u8 b, .int .u8 c, .int .u8 d] 100))) := (Chg.alloc (Chg.refl 0 0 w) _).alloc _
  go_enter Tryz.func79, Tryz.ntmps79
  go_wp2
  exact bodyPost_ret (v := .agg #[.int .u8 a, .int .u8 b, .int .u8 c, .int .u8 d]) (by simp [results, Tryz.results79, go_sem]) rfl ⟨rfl, HC.out⟩

theorem arrayAt_four (w : World) (a : Addr) (cap : Nat) : (Instr.arrayAt 100 (.slice (some a) 4 cap)).run Tryz.prog w = .ok (.pointer (some a)) w := by
  first | kernel_rfl | rfl | simp [Instr.arrayAt, go_sem]

theorem row_range {w : World} {b : Nat} {cs : List Value} {t : TypeId} (h : w.heap[b]? = some (.cells cs.toArray t (0, 0))) (o n : Nat) : w.rangeAt b o ((cs.drop o).take n) := by
  intro j v hj
  rw [List.getElem?_take] at hj
  split at hj
  · rw [List.getElem?_drop] at hj
    simp [World.cell?, h, hj]
  · cases hj

set_option maxRecDepth 20000 in
set_option maxHeartbeats 4000000 in
theorem headerOf_calls (w : World) (xs : List Int) (hx : xs.length = 64) (hB : Byt xs) :
    Calls Tryz.prog 78 #[.agg (xs.map (Value.int .u8)).toArray] w fun e w' => e = .returned (.agg (hd7 xs)) ∧ Chg 0 0 w w' := by
  obtain ⟨cs, hcs⟩ : ∃ cs, cs = xs.map (Value.int .u8) := ⟨_, rfl⟩
  rw [← hcs]
  have L1 : cs.length = 64 := by rw [hcs]; simpa using hx
  have HL1 : Hid (cs.length = 64) := L1
  have Hcs : Hid (cs = xs.map (Value.int .u8)) := hcs
  have Hx : Hid (xs.length = 64) := hx
  have HB : Hid (Byt xs) := hB
  have B0 := heap_new w (.cells cs.toArray 98)
  have C0 : Chg 0 0 (w.alloc (.cells cs.toArray 98)) ((w.alloc (.cells cs.toArray 98)).alloc (.cells #[.int .u8 0, .int .u8 0, .int .u8 0, .int .u8 0, .int .i64 0, .int .i64 0, .int .i64 0] 102)) := Chg.alloc (Chg.refl 0 0 _) _
  have B1 := (C0.block w.heap.size (by simp) (by omega)).trans B0
  have HB1 : Hid (((w.alloc (.cells cs.toArray 98)).alloc (.cells #[.int .u8 0, .int .u8 0, .int .u8 0, .int .u8 0, .int .i64 0, .int .i64 0, .int .i64 0] 102)).heap[w.heap.size]? = some (.cells cs.toArray 98 (0, 0))) := B1
  clear L1 hcs hx hB B0 B1 C0
  go_enter Tryz.func78, Tryz.ntmps78
  go_wp2
  have s0 : ((w.alloc (.cells cs.toArray 98)).alloc (.cells #[.int .u8 0, .int .u8 0, .int .u8 0, .int .u8 0, .int .i64 0, .int .i64 0, .int .i64 0] 102)).heap.size = w.heap.size + 1 + 1 := by simp
  have HZ : Hid (((w.alloc (.cells cs.toArray 98)).alloc (.cells #[.int .u8 0, .int .u8 0, .int .u8 0, .int .u8 0, .int .i64 0, .int .i64 0, .int .i64 0] 102)).heap[w.heap.size + 1]? = some (.cells #[.int .u8 0, .int .u8 0, .int .u8 0, .int .u8 0, .int .i64 0, .int .i64 0, .int .i64 0] 102 (0, 0))) := by
    have := heap_new (w.alloc (.cells cs.toArray 98)) (.cells #[.int .u8 0, .int .u8 0, .int .u8 0, .int .u8 0, .int .i64 0, .int .i64 0, .int .i64 0] 102)
    show _ = _
    simpa using this
  have HC : Hid (Chg 0 0 w ((w.alloc (.cells cs.toArray 98)).alloc (.cells #[.int .u8 0, .int .u8 0, .int .u8 0, .int .u8 0, .int .i64 0, .int .i64 0, .int .i64 0] 102))) := (Chg.alloc (Chg.refl 0 0 w) _).alloc _
  generalize (w.alloc (.cells cs.toArray 98)).alloc (.cells #[.int .u8 0, .int .u8 0, .int .u8 0, .int .u8 0, .int .i64 0, .int .i64 0, .int .i64 0] 102) = wa at *
  have HS : Hid ((fun w' : World => w'.heap[w.heap.size]? = some (.cells cs.toArray 98 (0, 0))) wa.drew) := HB1.out
  have har := fun w' => arrayAt_four w' ⟨w.heap.size, 0, none⟩ 64
  have H4 : Hid ((cs.drop 0).take 4 = [.int .u8 (xs.getD 0 0), .int .u8 (xs.getD 1 0), .int .u8 (xs.getD 2 0), .int .u8 (xs.getD 3 0)]) := by
    show _ = _
    rw [Hcs.out]
    have := Hx.out
    match xs, this with
    | a :: b :: c :: d :: r, _ => simp
  have hc4 : ∀ w' : World, w'.heap[w.heap.size]? = some (.cells cs.toArray 98 (0, 0)) → w'.cell? ⟨w.heap.size, 4, none⟩ = some (.int .u8 (xs.getD 4 0)) := by
    intro w' hw'
    have := Hx.out
    simp only [World.cell?, hw', List.getElem?_toArray, Hcs.out, List.getElem?_map, List.getD_eq_getElem?_getD]
    rw [List.getElem?_eq_getElem (show 4 < xs.length by omega)]
    rfl
  have Hc4 : Hid (∀ w' : World, w'.heap[w.heap.size]? = some (.cells cs.toArray 98 (0, 0)) → w'.cell? ⟨w.heap.size, 4, none⟩ = some (.int .u8 (xs.getD 4 0))) := hc4
  have hb4 := HB.out.getD 4
  clear hc4
  refine weak_region 11 (fun w' : World => w'.heap[w.heap.size]? = some (.cells cs.toArray 98 (0, 0))) (by kernel_rfl) ?_
  refine weak_take 0 (.slice (some ⟨w.heap.size, 0, none⟩) 4 64) rfl (by kernel_rfl) (by kernel_rfl) (by kernel_rfl) (by kernel_rfl) (fun _ _ _ h => h) (.inl ⟨by kernel_rfl, fun w' hw' => by go_simp⟩) HS.out ?_
  go_simp
  refine weak_take 1 (.pointer (some ⟨w.heap.size, 0, none⟩)) rfl (by kernel_rfl) (by kernel_rfl) (by kernel_rfl) (by kernel_rfl) (fun _ _ _ h => h) (.inl ⟨by kernel_rfl, fun w' hw' => by go_simp⟩) HS.out ?_
  go_simp
  refine weak_take 2 (.agg ((cs.drop 0).take 4).toArray) rfl (by kernel_rfl) (by kernel_rfl) (by kernel_rfl) (by kernel_rfl) (fun _ _ _ h => h) (yieldsIf_load_mid (by kernel_rfl) 100 (.tmp 4) rfl w.heap.size 0 rfl ((cs.drop 0).take 4) _ (fun w' hw' => row_range hw' 0 4) Tryz.underlying100 rfl (by rw [H4.out]; kernel_rfl)) HS.out ?_
  rw [H4.out]
  go_simp
  refine weak_take 3 (.pointer (some ⟨w.heap.size, 4, none⟩)) rfl (by kernel_rfl) (by kernel_rfl) (by kernel_rfl) (by kernel_rfl) (fun _ _ _ h => h) (.inl ⟨by kernel_rfl, fun w' hw' => by go_simp⟩) HS.out ?_
  go_simp
  generalize hx4 : xs.getD 4 0 = x4 at *
  have Hx4 : Hid (xs.getD 4 0 = x4) := hx4
  clear hx4
  refine weak_take 4 (.int .u8 x4) rfl (by kernel_rfl) (by kernel_rfl) (by kernel_rfl) (by kernel_rfl) (fun _ _ _ h => h) (.inl ⟨by kernel_rfl, fun w' hw' => by have h4 := Hc4.out w' hw'; go_simp⟩) HS.out ?_
  go_simp
  refine weak_take 5 (.int .i64 x4) rfl (by kernel_rfl) (by kernel_rfl) (by kernel_rfl) (by kernel_rfl) (fun _ _ _ h => h) (.inl ⟨by kernel_rfl, fun w' hw' => by go_simp; rw [IntKind.wrap_i64]; omega⟩) HS.out ?_
  go_simp
  refine weak_take 6 (.slice (some ⟨w.heap.size, 6, none⟩) 2 58) rfl (by kernel_rfl) (by kernel_rfl) (by kernel_rfl) (by kernel_rfl) (fun _ _ _ h => h) (.inl ⟨by kernel_rfl, fun w' hw' => by go_simp⟩) HS.out ?_
  go_simp
  refine weak_take 8 (.slice (some ⟨w.heap.size, 8, none⟩) 4 56) rfl (by kernel_rfl) (by kernel_rfl) (by kernel_rfl) (by kernel_rfl) (fun _ _ _ h => h) (.inl ⟨by kernel_rfl, fun w' hw' => by go_simp⟩) HS.out ?_
  go_simp
  refine weak_one 7 rfl rfl (by kernel_rfl) ?_
  have hx64 := Hx.out
  have hbl := HB1.out
  rw [Hcs.out] at hbl
  refine wp_enter 84 #[.slice (some ⟨w.heap.size, 6, none⟩) 2 58] (by first | kernel_rfl | go_simp) (implGet_calls wa.drew (HB.out.drop 6 |>.take 2) (row_view (w := wa.drew) hbl 6 2 58 (by omega) (by omega) (by omega))) ?_
  rintro e w1 ⟨rfl, hs1⟩
  refine ⟨_, rfl, ?_⟩
  have hbl1 : w1.heap[w.heap.size]? = some (.cells (xs.map (Value.int .u8)).toArray 98 (0, 0)) := by rw [hs1.heap]; exact hbl
  have HS1 : Hid ((fun w' : World => w'.heap[w.heap.size]? = some (.cells cs.toArray 98 (0, 0))) w1) := by show w1.heap[w.heap.size]? = _; rw [hs1.heap]; exact HS.out
  have HSame1 : Hid (Same wa.drew w1) := hs1
  refine ⟨fun _ => HS1.out, ?_⟩
  have HN1 : Hid (getN ((xs.drop 6).take 2) = getN ((xs.drop 6).take 2)) := rfl
  generalize hn1 : getN ((xs.drop 6).take 2) = n1 at *
  clear hbl hs1
  have hbl := hbl1
  clear hbl1
  have Hn1 : Hid (getN ((xs.drop 6).take 2) = n1) := hn1
  have Hbl : Hid (w1.heap[w.heap.size]? = some (.cells (xs.map (Value.int .u8)).toArray 98 (0, 0))) := hbl
  have Hx64 : Hid (xs.length = 64) := hx64
  clear hn1 HN1 hbl hx64
  go_simp
  refine weak_one 9 rfl rfl (by kernel_rfl) ?_
  have hx64 := Hx64.out
  refine wp_enter 84 #[.slice (some ⟨w.heap.size, 8, none⟩) 4 56] (by first | kernel_rfl | go_simp) (implGet_calls w1 (HB.out.drop 8 |>.take 4) (row_view Hbl.out 8 4 56 (by omega) (by omega) (by omega))) ?_
  rintro e w2 ⟨rfl, hs2⟩
  refine ⟨_, rfl, ?_⟩
  refine ⟨fun _ => by show w2.heap[w.heap.size]? = _; rw [hs2.heap]; exact HS1.out, ?_⟩
  have HSame2 : Hid (Same wa w2) := Same.trans (Same.trans (Same.drew (Same.refl wa)) HSame1.out) hs2
  generalize hn2 : getN ((xs.drop 8).take 4) = n2 at *
  have Hn2 : Hid (getN ((xs.drop 8).take 4) = n2) := hn2
  have s2 : w2.heap.size = w.heap.size + 1 + 1 := by rw [HSame2.out.heap]; exact s0
  have B2 : w2.heap[w.heap.size + 1]? = some (.cells #[.int .u8 0, .int .u8 0, .int .u8 0, .int .u8 0, .int .i64 0, .int .i64 0, .int .i64 0] 102 (0, 0)) := by rw [HSame2.out.heap]; exact HZ.out
  clear hn2 hs2 hx64
  have HB2 : Hid (w2.heap[w.heap.size]? = some (.cells cs.toArray 98 (0, 0))) := by show _ = _; rw [HSame2.out.heap]; exact HB1.out
  go_simp
  refine weak_one 10 rfl rfl (by kernel_rfl) ?_
  refine wp_given (v := .agg #[.int .u8 (xs.getD 0 0), .int .u8 (xs.getD 1 0), .int .u8 (xs.getD 2 0), .int .u8 (xs.getD 3 0), .int .i64 x4, .int .i64 n1, .int .i64 n2]) (by first | kernel_rfl | go_simp) ⟨fun _ => HB2.out, ?_⟩
  go_simp
  refine weak_one 11 rfl rfl (by kernel_rfl) ?_
  refine wp_store_row 102 (.tmp 2) (.tmp 13) rfl rfl (w.heap.size + 1) rfl [.int .u8 (xs.getD 0 0), .int .u8 (xs.getD 1 0), .int .u8 (xs.getD 2 0), .int .u8 (xs.getD 3 0), .int .i64 x4, .int .i64 n1, .int .i64 n2] [.int .u8 0, .int .u8 0, .int .u8 0, .int .u8 0, .int .i64 0, .int .i64 0, .int .i64 0] 102 rfl B2 rfl (by kernel_rfl) (by simp [Value.oneCell']) ?_
  intro w3 B3 C3
  refine ⟨fun h => absurd rfl h, ?_⟩
  refine weak_done (by kernel_rfl) (NoPanic.normal ?_)
  have e7 : hd7 xs = #[.int .u8 (xs.getD 0 0), .int .u8 (xs.getD 1 0), .int .u8 (xs.getD 2 0), .int .u8 (xs.getD 3 0), .int .i64 x4, .int .i64 n1, .int .i64 n2] := by
    unfold hd7
    rw [Hn1.out, Hn2.out, Hx4.out]
  have hres : w3.cell? ⟨w.heap.size + 1, 0, none⟩ = some (.int .u8 (xs.getD 0 0)) ∧ w3.cell? ⟨w.heap.size + 1, 1, none⟩ = some (.int .u8 (xs.getD 1 0)) ∧ w3.cell? ⟨w.heap.size + 1, 2, none⟩ = some (.int .u8 (xs.getD 2 0)) ∧ w3.cell? ⟨w.heap.size + 1, 3, none⟩ = some (.int .u8 (xs.getD 3 0)) ∧ w3.cell? ⟨w.heap.size + 1, 4, none⟩ = some (.int .i64 x4) ∧ w3.cell? ⟨w.heap.size + 1, 5, none⟩ = some (.int .i64 n1) ∧ w3.cell? ⟨w.heap.size + 1, 6, none⟩ = some (.int .i64 n2) := by
    simp [World.cell?, B3]
  have HCe : Hid (Chg 0 0 w w3) := (HC.out.trans (HSame2.out.chg 0 0)).step C3 (by omega)
  have He7 : Hid (hd7 xs = #[.int .u8 (xs.getD 0 0), .int .u8 (xs.getD 1 0), .int .u8 (xs.getD 2 0), .int .u8 (xs.getD 3 0), .int .i64 x4, .int .i64 n1, .int .i64 n2]) := e7
  have Hres : Hid _ := hres
  clear B3 C3 B2 e7 hres
  go_wp2
  rw [He7.out]
  obtain ⟨r0, r1, r2, r3, r4, r5, r6⟩ := Hres.out
  generalize xs.getD 0 0 = x0 at *
  generalize xs.getD 1 0 = x1 at *
  generalize xs.getD 2 0 = x2 at *
  generalize xs.getD 3 0 = x3 at *
  exact bodyPost_ret (v := .agg #[.int .u8 x0, .int .u8 x1, .int .u8 x2, .int .u8 x3, .int .i64 x4, .int .i64 n1, .int .i64 n2]) (by simp [results, Tryz.results78, go_sem, r0, r1, r2, r3, r4, r5, r6]) rfl ⟨rfl, HCe.out⟩

end Go.Proofs.YteligghapkleaaaGreatDoor

namespace Go.Proofs.YteligghapkleaaaGreatDoor
open Go.RowKit

theorem results_bhe {P : Program} {fn : Func} {p1 p2 p3 : Tmp} {t1 t2 : TypeId} {w : World} {tmps : Array Value} {a1 a2 : Addr} {v1 v2 v3 : Value} (h : fn.results = #[.cell p1 t1, .cell p2 t2, .tmp p3]) (h1 : tmps.getD p1 undef = .pointer (some a1)) (h2 : tmps.getD p2 undef = .pointer (some a2)) (h3 : tmps.getD p3 undef = v3)
    (hl1 : (loadVar t1 a1).run P w = .ok v1 w) (hl2 : (loadVar t2 a2).run P w = .ok v2 w) : (results fn tmps).run P w = .ok (.tuple #[v1, v2, v3]) w := by
  have h1' : tmps[p1]?.getD undef = .pointer (some a1) := by simpa using h1
  have h2' : tmps[p2]?.getD undef = .pointer (some a2) := by simpa using h2
  have h3' : tmps[p3]?.getD undef = v3 := by simpa using h3
  simp only [results, h]
  simp [asAddr, h1', h2', h3', hl1, hl2]

/-- The cells of a block. -/
def Blk (L : List Value) : Prop := L.length = 64 ∧ ∀ v ∈ L, v.oneCell' = true

abbrev z7 : List Value := [.int .u8 0, .int .u8 0, .int .u8 0, .int .u8 0, .int .i64 0, .int .i64 0, .int .i64 0]

end Go.Proofs.YteligghapkleaaaGreatDoor

namespace Go.Proofs.YteligghapkleaaaGreatDoor
open Go.RowKit

theorem byt_cells {xs : List Int} (h : Byt xs) : (xs.map fun n => UInt8.ofNat n.toNat).map Extern.Stop.cell = xs.map (Value.int .u8) := by
  rw [List.map_map]
  refine List.map_congr_left fun x hx => ?_
  have := h x hx
  have e : ((UInt8.ofNat x.toNat).toNat : Int) = x := by rw [UInt8.toNat_ofNat']; omega
  show Value.int .u8 ((UInt8.ofNat x.toNat).toNat : Int) = _
  rw [e]

theorem equal_bytes (w : World) (t : TypeId) (n : Nat) (ht : Tryz.prog.underlying t = some (.array n 5)) {xs ys : List Int} (hx : Byt xs) (hy : Byt ys) (lx : xs.length = n) (ly : ys.length = n) :
    (Op.equalIn 10000 t (.agg (xs.map (Value.int .u8)).toArray) (.agg (ys.map (Value.int .u8)).toArray)).run Tryz.prog w = .ok (decide (xs = ys)) w := by
  have h := run_equalIn_bytes (P := Tryz.prog) w 9998 t 5 n ht Tryz.underlying5 (fun w => by kernel_rfl) (xs.map fun n => UInt8.ofNat n.toNat) (ys.map fun n => UInt8.ofNat n.toNat) (by simpa using lx) (by simpa using ly)
  rw [byt_cells hx, byt_cells hy] at h
  have hb : ((xs.map fun n => UInt8.ofNat n.toNat) == ys.map fun n => UInt8.ofNat n.toNat) = decide (xs = ys) := by
    by_cases e : xs = ys
    · subst e; rw [decide_eq_true rfl]; exact beq_self_eq_true _
    · rw [decide_eq_false e, beq_eq_false_iff_ne]
      exact fun h' => e (str_inj hx hy h')
  rw [h, hb]

end Go.Proofs.YteligghapkleaaaGreatDoor

namespace Go.Proofs.YteligghapkleaaaGreatDoor
open Go.RowKit

theorem arrayAt_64 (w : World) (a : Addr) (cap : Nat) : (Instr.arrayAt 98 (.slice (some a) 64 cap)).run Tryz.prog w = .ok (.pointer (some a)) w := by
  simp [Instr.arrayAt, run_underlying Tryz.underlying98]

end Go.Proofs.YteligghapkleaaaGreatDoor
