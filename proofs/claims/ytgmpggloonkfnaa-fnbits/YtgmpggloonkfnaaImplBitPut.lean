/- BitPut of the program. -/
import Derived.Test.YtgmpggloonkfnaaImplPut1
import Derived.Test.YtgmpggloonkfnaaCopy
namespace Go.Proofs.Ytgmpggloonkfnaa
open Go.RowKit

theorem bp_nil (w : World) : OwnB w w.heap.size 5 (.slice none 0 0) [] := ⟨rfl, Or.inl ⟨rfl, rfl⟩⟩

set_option maxRecDepth 20000 in
set_option maxHeartbeats 1000000 in
theorem implBitPut_calls (w : World) {lo hi : Nat} {a : Value} {xs : List Int} (i : Int) (on : Bool) (hB : Byt xs) (hl : xs.length ≤ 1048576) (h1 : View w lo hi .u8 a xs) :
    Calls Try.prog 10 #[a, .int .i64 i, .bool on] w fun e w' => ∃ v, e = .returned v ∧ OwnB w' w.heap.size 5 v (bitP xs i on) ∧ Chg 0 0 w w' := by
  have Hmap : Hid (bitP (mapL xs) i on = bitP xs i on) := by
    show _ = _
    unfold mapL
    split
    · rfl
    · rename_i h
      rw [bitP_out (fun h' => h h'.1), bitP_out]
      intro h'; have := h'.2; simp at this; omega
  rw [← Hmap.out]
  clear Hmap
  have hN := bitsOf_calls w hl h1
  have HB := mapL_byt hB
  have hL := mapL_len xs
  generalize mapL xs = ys at *
  clear h1 hB hl
  obtain ⟨R, HR⟩ : ∃ R, Hid (bitP ys i on = R) := ⟨_, rfl⟩
  rw [HR.out]
  obtain ⟨ti, hti, hz0, hz1, hz2⟩ := info_parts Try.infoU
  have HN0 : Hid (OwnB w w.heap.size 5 (.slice none 0 0) []) := bp_nil w
  go_enter Try.func10, Try.ntmps10
  go_wp2_with fail
  refine hN.mono ?_
  rintro e w1 ⟨⟨v, rfl, hv⟩, rfl⟩
  have HV : Hid (View w1 lo hi .u8 v ys) := hv
  obtain ⟨ao, cap, rfl, _, _, hcell⟩ := hv
  have hH := has_calls w1 ao ys.length cap i hL
  clear hN
  by_cases h : 0 ≤ i ∧ i < 8 * (ys.length : Int)
  · rw [decide_eq_true h] at hH
    obtain ⟨m, rfl⟩ : ∃ m : Nat, i = m := ⟨i.toNat, by omega⟩
    have HR2 : Hid (ys.set (m / 8) (putBit (ys.getD (m / 8) 0) (m % 8) on) = R) := (bitP_in ⟨hL, h.1, h.2⟩).symm.trans HR.out
    have hpos : 0 < ys.length := by omega
    have hm8 : m < 8 * ys.length := by omega
    obtain ⟨b, off, rfl, _, _, hc⟩ : ∃ b off, ao = some ⟨b, off, none⟩ ∧ lo ≤ b ∧ b < hi ∧ ∀ i, i < ys.length → w1.cell? ⟨b, off + i, none⟩ = some (.int .u8 (ys.getD i 0)) := by
      rcases hcell with e | h
      · rw [e] at hpos; cases hpos
      · exact h
    have Hsrc : Hid (∀ j u, (ys.map (Value.int .u8))[j]? = some u → w1.cell? ((⟨b, off, none⟩ : Addr).add j) = some u) := by
      intro j u hj
      have hjl : j < ys.length := by have := (List.getElem?_eq_some_iff.1 hj).1; simpa using this
      rw [Addr.add_mid, hc j hjl, ← hj]
      simp [List.getD_eq_getElem?_getD, hjl]
    clear hc hcell h
    go_wp2_with fail
    refine hH.mono ?_
    rintro e w2 ⟨rfl, rfl⟩
    clear hH
    go_wp2_with (at_builtin; refine wpList_append_own _ rfl (.const (.slice none 0 0)) (.tmp 15) 39 rfl w2.heap.size 5 ti (.int .u8 0) 1 1 Try.underlying39 hti hz0 hz1 hz2 rfl (by decide) _ 0 [] rfl HN0.out ⟨b, off, none⟩ ys.length cap (ys.map (Value.int .u8)) rfl (by simp) Hsrc.out (ints_oneCell _ _) (by unfold maxLen; omega) (by omega) (Nat.le_refl _) ?_)
    intro v' w3 hown hgrow _
    have HO : OwnB w3 w2.heap.size 5 v' ys := by
      unfold OwnB
      simpa using hown
    have HC : Hid (Chg 0 0 w2 w3) := Chg.ofGrown (lo := 0) (hi := 0) hgrow (fun k hk _ => by simp [Value.ownBlock] at hk)
    obtain ⟨g, gc, rfl, hg, hg2⟩ := HO.at hpos
    have hP := put_calls w3 ys m w2.heap.size g gc on HB hL hm8 HO
    rw [HR2.out] at hP
    clear hown hgrow HN0 Hsrc HO
    go_wp2_with fail
    refine hP.mono ?_
    rintro e w4 ⟨rfl, ho4, hc4⟩
    have HO4 : Hid (OwnB w4 w2.heap.size 5 (.slice (some ⟨g, 0, none⟩) ys.length gc) R) := ho4
    have HC4 : Hid (Chg 0 0 w2 w4) := HC.out.step hc4 (Or.inr (Or.inl hg))
    clear ho4 hc4 hP
    go_wp2
    go_ret
    exact ⟨_, rfl, HO4.out, HC4.out⟩
  · rw [decide_eq_false h] at hH
    obtain rfl : R = [] := HR.out.symm.trans (bitP_out (fun h' => h h'.2))
    clear h
    go_wp2_with fail
    refine hH.mono ?_
    rintro e w2 ⟨rfl, rfl⟩
    go_wp2
    go_ret
    exact ⟨_, rfl, HN0.out, Chg.refl _ _ _⟩

end Go.Proofs.Ytgmpggloonkfnaa
