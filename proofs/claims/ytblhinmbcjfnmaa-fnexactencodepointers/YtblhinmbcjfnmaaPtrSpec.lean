/- EncodePointers, DecodePointers of the model. -/
import Derived.Test.YtblhinmbcjfnmaaAppSeen
import Derived.Test.YtblhinmbcjfnmaaFlat
import Derived.Test.YtblhinmbcjfnmaaGetN
import Derived.Test.YtblhinmbcjfnmaaGoodBlk
import Derived.Deep.DeepCutAuto
namespace Go.Proofs.Ytblhinmbcjfnmaa
open Go.RowKit

def goodP (x : Int) : Bool := decide (0 ≤ x) && decide (x < 2048)
theorem goodP_iff {x : Int} : goodP x = true ↔ 0 ≤ x ∧ x < 2048 := by unfold goodP; simp
abbrev GoodPs (xs : List Int) : Prop := xs.length = 32 ∧ ∀ x ∈ xs, goodP x = true
def encPs (xs : List Int) : List Int := xs.flatMap fun x => putN x 2
def encP (xs : List Int) : List Int := if GoodPs xs then encPs xs else []

theorem putN2_len {x : Int} (h : goodP x = true) : (putN x 2).length = 2 := by
  obtain ⟨h1, h2⟩ := goodP_iff.1 h
  unfold putN
  rw [if_neg (by omega), if_neg (by have : (256 : Int) ^ (2 : Int).toNat = 65536 := rfl; rw [this]; omega), digs_length]; rfl
theorem encPs_len {xs : List Int} (h : ∀ x ∈ xs, goodP x = true) : (encPs xs).length = 2 * xs.length := by
  unfold encPs
  induction xs with
  | nil => rfl
  | cons x r ih =>
    rw [List.flatMap_cons, List.length_append, putN2_len (h x (by simp)), ih (fun y hy => h y (by simp [hy])), List.length_cons]; omega
theorem encPs_take {xs : List Int} {k : Nat} (h : k < xs.length) : encPs (xs.take (k + 1)) = encPs (xs.take k) ++ putN (xs.getD k 0) 2 := by
  unfold encPs
  rw [List.take_succ_eq_append_getElem h, List.flatMap_append]
  simp [List.getD_eq_getElem?_getD, h]
theorem encP_len (xs : List Int) : (encP xs).length ≤ 64 := by
  unfold encP
  split
  · rename_i h; rw [encPs_len h.2, h.1]; exact Nat.le_refl _
  · simp

set_option maxRecDepth 20000 in
set_option maxHeartbeats 1000000 in
theorem specEncP_some (w : World) (xs : List Int) (b off cap : Nat) (hl : xs.length = 32)
    (h1 : ∀ i, i < xs.length → w.cell? ⟨b, off + i, none⟩ = some (.int .i64 (xs.getD i 0))) :
    Calls Try.prog 4 #[.slice (some ⟨b, off, none⟩) xs.length cap] w fun e w' => ∃ v, e = .returned v ∧ OwnB w' w.heap.size 5 v (encP xs) ∧ Chg 0 0 w w' := by
  have HO0 : Hid (OwnB (w.alloc (.cells #[] 5)) w.heap.size 5 (.slice (some ⟨w.heap.size, 0, none⟩) 0 0) []) := by
    show OwnB _ _ _ _ _
    have := World.ownsRow_lit (base := w.heap.size) (e := 5) (size := 1) w #[] 0 (Nat.le_refl _) (by unfold maxLen; omega) rfl
    simpa [OwnB] using this
  have C0 : Chg 0 0 w (w.alloc (.cells #[] 5)) := Chg.alloc (Chg.refl 0 0 w) _
  have HL : Hid (xs.length = 32) := hl
  have hne : ((xs.length : Int) != 32) = false := by rw [hl]; rfl
  have hlb : xs.length ≤ 32 := by omega
  clear hl
  go_enter Try.func4, Try.ntmps4
  go_wp2
  go_loopw [3, 4] (fun o x wr => ∃ k : Nat, k ≤ xs.length ∧ x = .int .i64 k ∧ (∃ g cp, o = .slice (some ⟨g, 0, none⟩) (encPs (xs.take k)).length cp) ∧ OwnB wr w.heap.size 5 o (encPs (xs.take k)) ∧ Chg 0 0 w wr ∧ ∀ y ∈ xs.take k, goodP y = true) (fun _ x _ => xs.length - (intOf x).toNat)
  case atStart => exact ⟨0, Nat.zero_le _, rfl, ⟨_, _, rfl⟩, HO0.out, C0, by simp⟩
  case round =>
    obtain ⟨k, hk, rfl, ⟨g, cp, rfl⟩, ho, hc, hin⟩ := hrel
    have hel : (encPs (xs.take k)).length = 2 * k := by rw [encPs_len hin, List.length_take, Nat.min_eq_left hk]
    by_cases hlt : k < xs.length
    · have c1 := hc.cell (h1 k hlt) (by omega)
      have hi : (k : Int) < (xs.length : Int) := by omega
      have hx : xs.getD k 0 = xs[k] := by simp [List.getD_eq_getElem?_getD, hlt]
      have HC : Hid (Chg 0 0 w wr) := hc
      have HO : Hid (OwnB wr w.heap.size 5 (.slice (some ⟨g, 0, none⟩) (encPs (xs.take k)).length cp) (encPs (xs.take k))) := ho
      have HT : Hid (encPs (xs.take (k + 1)) = encPs (xs.take k) ++ putN (xs.getD k 0) 2) := encPs_take hlt
      by_cases hg : goodP (xs.getD k 0) = true
      · have HI : Hid (∀ y ∈ xs.take (k + 1), goodP y = true) := by
          intro y hy
          rw [List.take_succ_eq_append_getElem hlt, List.mem_append] at hy
          rcases hy with hy | hy
          · exact hin y hy
          · simp at hy; rw [hy, ← hx]; exact hg
        have H2 : Hid ((putN (xs.getD k 0) 2).length = 2) := putN2_len hg
        obtain ⟨g0, g1⟩ := goodP_iff.1 hg
        have hN := l3GoodBlock_calls wr (xs.getD k 0)
        rw [show (decide (0 ≤ xs.getD k 0) && decide (xs.getD k 0 < 2048)) = true from hg] at hN
        generalize xs.getD k 0 = y at *
        obtain ⟨L, HLn⟩ : ∃ L, Hid ((encPs (xs.take k)).length = L) := ⟨_, rfl⟩
        have hLb : L ≤ 64 := by have := HLn.out; omega
        rw [HLn.out] at HO
        rw [HLn.out]
        clear ho hc hin hx h1 hg hel
        go_wp2_with fail
        refine hN.mono ?_
        rintro e w2 ⟨rfl, rfl⟩
        clear hN
        have hN := specPut_calls w2 y 2 (by omega)
        go_wp2_with fail
        refine hN.mono ?_
        rintro e w3 ⟨r, rfl, or', h3⟩
        have s2 := HC.out.size
        have s3 := h3.size
        have HO3 : Hid (OwnB w3 w.heap.size 5 (.slice (some ⟨g, 0, none⟩) L cp) (encPs (xs.take k))) := HO.out.chg h3 (by intro g _; omega)
        have HV3 : Hid (View w3 w2.heap.size w3.heap.size .u8 r (putN y 2)) := or'.view (by rw [H2.out]; omega) (fun g hg => (or'.lt g hg).2)
        have HC3 : Hid (Chg 0 0 w w3) := HC.out.trans h3
        obtain ⟨r0, r1, r2, rfl⟩ := row_slice or'
        clear hN or' h3
        go_wp2_with (at_builtin; refine wpList_app_seen rfl (.tmp 25) (.tmp 30) rfl w.heap.size _ (encPs (xs.take k)) rfl HO3.out (by omega) _ _ _ (putN y 2) rfl HV3.out (by rw [H2.out]; omega) (by rw [H2.out, HLn.out]; omega) ?_)
        intro v' w5 ho5 hc5
        have HO5 : Hid (OwnB w5 w.heap.size 5 v' (encPs (xs.take (k + 1)))) := by show OwnB _ _ _ _ _; rw [HT.out]; exact ho5
        have HC5 : Hid (Chg 0 0 w w5) := HC3.out.step hc5 (Or.inr (Or.inl (Nat.le_refl _)))
        have HV5 : Hid (∃ g cp, v' = .slice (some ⟨g, 0, none⟩) (encPs (xs.take (k + 1))).length cp) := by
          have h5 := HO5.out
          have hpos : 0 < (encPs (xs.take (k + 1))).length := by rw [HT.out, List.length_append, H2.out]; omega
          rcases h5.2 with ⟨_, h0⟩ | ⟨g', cap', cur, e', _⟩
          · omega
          · exact ⟨g', cap', e'⟩
        clear ho5 hc5 HV3 HO3
        go_wp2
        go_roundw
        case rel => exact ⟨k + 1, by omega, by go_num, HV5.out, HO5.out, HC5.out, HI.out⟩
        case measure => simp [intOf]; omega
      · have Hn : Hid (encP xs = []) := by show _ = _; unfold encP; rw [if_neg (fun h => hg (by rw [hx]; exact h.2 _ (List.getElem_mem hlt)))]
        have hN := l3GoodBlock_calls wr (xs.getD k 0)
        rw [show (decide (0 ≤ xs.getD k 0) && decide (xs.getD k 0 < 2048)) = false from by rw [Bool.not_eq_true] at hg; exact hg] at hN
        have sz := hc.size
        have HO1 : Hid (OwnB (wr.alloc (.cells #[] 5)) w.heap.size 5 (.slice (some ⟨wr.heap.size, 0, none⟩) 0 0) []) := by
          show OwnB _ _ _ _ _
          have := World.ownsRow_lit (base := w.heap.size) (e := 5) (size := 1) wr #[] 0 sz (by unfold maxLen; omega) rfl
          simpa [OwnB] using this
        have HC1 : Hid (Chg 0 0 w (wr.alloc (.cells #[] 5))) := HC.out.alloc _
        generalize xs.getD k 0 = y at *
        generalize (encPs (xs.take k)).length = L at *
        clear ho hc hin hx h1 hg hel
        go_wp2_with fail
        refine hN.mono ?_
        rintro e w2 ⟨rfl, rfl⟩
        clear hN
        go_wp2
        go_ret
        exact ⟨_, rfl, by rw [Hn.out]; exact HO1.out, HC1.out⟩
    · obtain rfl : k = xs.length := by omega
      rw [List.take_length] at *
      have Hn : Hid (encP xs = encPs xs) := by show _ = _; unfold encP; rw [if_pos ⟨HL.out, hin⟩]
      clear h1 hin
      go_wp2
      go_ret
      exact ⟨_, rfl, by rw [Hn.out]; exact ho, hc⟩

set_option maxRecDepth 20000 in
set_option maxHeartbeats 400000 in
theorem specEncP_other (w : World) (n : Nat) (ao : Option Addr) (cap : Nat) (hn : ¬ n = 32) (_hl : n ≤ 1048576) :
    Calls Try.prog 4 #[.slice ao n cap] w fun e w' => ∃ v, e = .returned v ∧ OwnB w' w.heap.size 5 v [] ∧ Chg 0 0 w w' := by
  have HO0 : Hid (OwnB (w.alloc (.cells #[] 5)) w.heap.size 5 (.slice (some ⟨w.heap.size, 0, none⟩) 0 0) []) := by
    show OwnB _ _ _ _ _
    have := World.ownsRow_lit (base := w.heap.size) (e := 5) (size := 1) w #[] 0 (Nat.le_refl _) (by unfold maxLen; omega) rfl
    simpa [OwnB] using this
  have C0 : Hid (Chg 0 0 w (w.alloc (.cells #[] 5))) := Chg.alloc (Chg.refl 0 0 w) _
  have hne : ((n : Int) != 32) = true := by simp; omega
  go_enter Try.func4, Try.ntmps4
  go_wp2
  go_ret
  exact ⟨_, rfl, HO0.out, C0.out⟩

theorem specEncodePointers_calls (w : World) {lo hi : Nat} {a : Value} {xs : List Int} (hl : xs.length ≤ 1048576) (h1 : View w lo hi .i64 a xs) :
    Calls Try.prog 4 #[a] w fun e w' => ∃ v, e = .returned v ∧ OwnB w' w.heap.size 5 v (encP xs) ∧ Chg 0 0 w w' := by
  obtain ⟨ao, cap, rfl, _, _, h1⟩ := h1
  by_cases hn : xs.length = 32
  · rcases h1 with rfl | ⟨x, off, rfl, _, _, h1⟩
    · simp at hn
    · exact specEncP_some w xs x off cap hn h1
  · rw [show encP xs = [] from by unfold encP; rw [if_neg (fun h => hn h.1)]]
    exact specEncP_other w xs.length ao cap hn hl

end Go.Proofs.Ytblhinmbcjfnmaa
