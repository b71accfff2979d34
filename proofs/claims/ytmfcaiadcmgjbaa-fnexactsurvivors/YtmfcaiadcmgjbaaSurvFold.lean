/- What survives, in the program: canFold. -/
import Derived.Test.YtmfcaiadcmgjbaaSurvModel
namespace Go.Proofs.Ytmfcaiadcmgjbaa
open Go.RowKit

/-- Whether they are folded. -/
def canB (ts : List Tx) : Bool := !decide (512 < ts.length ∨ 10000 < numT ts)

set_option maxRecDepth 20000 in
set_option maxHeartbeats 4000000 in
theorem canFold_some (w : World) (ts : List Tx) (lo hi b off cap : Nat) (hl : cntTS ts ≤ 1048576) (hL : ts.length ≤ 1048576) (hbw : b < w.heap.size) (h1 : ∀ i, i < ts.length → TAt w lo hi b (off + i * 3) (ts.getD i Tx.none)) :
    Calls Try.prog 17 #[.slice (some ⟨b, off, none⟩) ts.length cap] w fun e w' => e = .returned (.bool (canB ts)) ∧ Chg 0 0 w w' := by
  have hN := numT_cnt ts
  have H1 : Hid (∀ i, i < ts.length → TAt w lo hi b (off + i * 3) (ts.getD i Tx.none)) := h1
  clear h1
  by_cases h5 : 512 < ts.length
  · have HB : Hid (canB ts = false) := by show _ = _; unfold canB; simp [h5]
    have hd5 : decide ((512 : Int) < (ts.length : Int)) = true := by simp; omega
    go_enter Try.func17, Try.ntmps17
    go_wp2
    go_ret
    exact ⟨by rw [HB.out]; rfl, Chg.refl 0 0 w⟩
  have hd5 : decide ((512 : Int) < (ts.length : Int)) = false := by simp; omega
  go_enter Try.func17, Try.ntmps17
  go_wp2
  clear hd5
  go_loopw [3, 11] (fun n x wr => ∃ k : Nat, k ≤ ts.length ∧ x = .int .i64 k ∧ n = .int .i64 (numT (ts.take k) : Nat) ∧ numT (ts.take k) ≤ 10000 ∧ Chg 0 0 w wr) (fun _ x _ => ts.length - (RowKit.intOf x).toNat)
  case atStart => exact ⟨0, Nat.zero_le _, rfl, rfl, Nat.zero_le _, Chg.refl _ _ _⟩
  case round =>
    obtain ⟨k, hk, rfl, rfl, hle, hch⟩ := hrel
    have HC : Hid (Chg 0 0 w wr) := hch
    by_cases hlt : k < ts.length
    · have hi' : (k : Int) < (ts.length : Int) := by omega
      obtain ⟨hv, rv, c0, c1, c2, p1, v1⟩ := H1.out k hlt
      replace c0 := hch.cell c0 (by omega)
      replace c1 := hch.cell c1 (by omega)
      replace c2 := hch.cell c2 (by omega)
      obtain ⟨pa, pc, rfl, _⟩ := p1
      obtain ⟨va, vc, rfl, _⟩ := v1
      have HS : Hid (numT (ts.take (k + 1)) = numT (ts.take k) + ((ts.getD k Tx.none).homes.length + (ts.getD k Tx.none).revs.length)) := numT_succ ts k hlt
      have hb1 : numT (ts.take k) + ((ts.getD k Tx.none).homes.length + (ts.getD k Tx.none).revs.length) ≤ numT ts := by have := numT_le ts (k + 1); rw [HS.out] at this; omega
      have hb2 : numT ts ≤ 1048576 := by omega
      have hgw : b < wr.heap.size := by have := hch.size; omega
      generalize (ts.getD k Tx.none).homes = hs at *
      generalize (ts.getD k Tx.none).revs = rs at *
      generalize (ts.getD k Tx.none).seq = sq at *
      generalize numT (ts.take k) = nn at *
      have hw1 : IntKind.i64.wrap ((hs.length : Int) + (rs.length : Int)) = (hs.length : Int) + (rs.length : Int) := by rw [IntKind.wrap_i64]; omega
      have hw2 : IntKind.i64.wrap ((nn : Int) + ((hs.length : Int) + (rs.length : Int))) = (nn : Int) + ((hs.length : Int) + (rs.length : Int)) := by rw [IntKind.wrap_i64]; omega
      have HC2 : Hid (Chg 0 0 w (wr.alloc (.cells #[.int .i64 sq, .slice pa hs.length pc, .slice va rs.length vc] 39))) := hch.alloc _
      clear hch
      by_cases hbig : 10000 < nn + (hs.length + rs.length)
      · have hd6 : decide ((10000 : Int) < (nn : Int) + ((hs.length : Int) + (rs.length : Int))) = true := by simp; omega
        have HB : Hid (canB ts = false) := by show _ = _; unfold canB; simp; omega
        go_wp2
        go_ret
        exact ⟨by rw [HB.out]; rfl, HC2.out⟩
      · have hd6 : decide ((10000 : Int) < (nn : Int) + ((hs.length : Int) + (rs.length : Int))) = false := by simp; omega
        go_wp2
        go_roundw
        case rel => exact ⟨k + 1, by omega, by go_num, by rw [HS.out]; go_num, by rw [HS.out]; omega, HC2.out⟩
        case measure => simp [RowKit.intOf]; omega
    · obtain rfl : k = ts.length := by omega
      rw [List.take_length] at hle
      have HB : Hid (canB ts = true) := by show _ = _; unfold canB; simp; omega
      have hi' : ¬ ((ts.length : Int) < (ts.length : Int)) := by omega
      clear hch
      go_wp2
      go_ret
      exact ⟨by rw [HB.out]; rfl, HC.out⟩

theorem canFold_none (w : World) (ao : Option Addr) (cap : Nat) :
    Calls Try.prog 17 #[.slice ao 0 cap] w fun e w' => e = .returned (.bool (canB [])) ∧ Chg 0 0 w w' := by
  have HB : Hid (canB [] = true) := rfl
  go_enter Try.func17, Try.ntmps17
  go_wp2
  go_loopw [3, 11] (fun _ x wr => x = .int .i64 0 ∧ wr = w) (fun _ _ _ => 0)
  case atStart => exact ⟨rfl, rfl⟩
  case round =>
    obtain ⟨rfl, rfl⟩ := hrel
    go_wp2
    go_ret
    exact ⟨by rw [HB.out]; rfl, Chg.refl 0 0 _⟩
/-- canFold of the program. -/
theorem canFold_calls (w : World) {lo hi : Nat} {a : Value} {ts : List Tx} (hl : cntTS ts ≤ 1048576) (h1 : TSView w lo hi a ts) :
    Calls Try.prog 17 #[a] w fun e w' => e = .returned (.bool (canB ts)) ∧ Chg 0 0 w w' := by
  obtain ⟨ao, cap, rfl, _, _, h1⟩ := h1
  have := cntTS_ge ts
  rcases h1 with rfl | ⟨b, off, rfl, _, _, h1⟩
  · exact canFold_none w ao cap
  · by_cases h0 : ts = []
    · subst h0; exact canFold_none w _ cap
    · have hpos : 0 < ts.length := List.length_pos_iff.2 h0
      obtain ⟨_, _, c0, _⟩ := h1 0 hpos
      exact canFold_some w ts lo hi b off cap hl (by omega) (lt_of_cell c0) h1

end Go.Proofs.Ytmfcaiadcmgjbaa
