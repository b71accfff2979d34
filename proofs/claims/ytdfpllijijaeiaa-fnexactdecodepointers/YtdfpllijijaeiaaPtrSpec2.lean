/- DecodePointers of the model. -/
import Derived.Test.YtdfpllijijaeiaaPtrSpec
import Derived.Test.YtdfpllijijaeiaaViewPart
namespace Go.Proofs.Ytdfpllijijaeiaa
open Go.RowKit

/-- The number at place k. -/
def ptrAt (xs : List Int) (k : Nat) : Int := getN ((xs.drop (2 * k)).take 2)
def decPs (xs : List Int) (k : Nat) : List Int := (List.range k).map (ptrAt xs)
abbrev GoodB (xs : List Int) : Prop := xs.length = 64 ∧ ∀ k, k < 32 → goodP (ptrAt xs k) = true
def decP (xs : List Int) : List Int := if GoodB xs then decPs xs 32 else []

theorem decPs_len (xs : List Int) (k : Nat) : (decPs xs k).length = k := by simp [decPs]
theorem decPs_succ (xs : List Int) (k : Nat) : decPs xs (k + 1) = decPs xs k ++ [ptrAt xs k] := by simp [decPs, List.range_succ]
theorem decP_len (xs : List Int) : (decP xs).length ≤ 32 := by
  unfold decP
  split
  · rw [decPs_len]; exact Nat.le_refl _
  · simp

theorem Try.infoI1 : (Try.prog.info? 2).map (fun i => (i.zero, i.size, i.bytes)) = some (some (.int .i64 0), 1, 8) := by kernel_rfl

set_option maxRecDepth 20000 in
set_option maxHeartbeats 1000000 in
theorem specDecP_some (w : World) (xs : List Int) (lo hi b off cap : Nat) (hB : Byt xs) (hl : xs.length = 64) (hcap : 64 ≤ cap)
    (hV : View w lo hi .u8 (.slice (some ⟨b, off, none⟩) xs.length cap) xs) :
    Calls Try.prog 4 #[.slice (some ⟨b, off, none⟩) xs.length cap] w fun e w' => ∃ v K, e = .returned v ∧ OwnF 1 w' w.heap.size 2 v K (decP xs) ∧ K ≤ 32 ∧ Chg 0 0 w w' := by
  obtain ⟨ti, hti, hz0, hz1, hz2⟩ := info_parts Try.infoI1
  have HO0 : Hid (OwnF 1 (w.alloc (.cells #[] 2)) w.heap.size 2 (.slice (some ⟨w.heap.size, 0, none⟩) 0 0) 0 []) := OwnF.nil w _
  have C0 : Chg 0 0 w (w.alloc (.cells #[] 2)) := Chg.alloc (Chg.refl 0 0 w) _
  have HV : Hid (View w lo hi .u8 (.slice (some ⟨b, off, none⟩) xs.length cap) xs) := hV
  have HL : Hid (xs.length = 64) := hl
  rw [hl]
  clear hV hl
  go_enter Try.func4, Try.ntmps4
  go_wp2
  go_loopw [3, 4] (fun o x wr => ∃ (k g cp : Nat), k ≤ 32 ∧ x = .int .i64 k ∧ o = .slice (some ⟨g, 0, none⟩) k cp ∧ OwnF 1 wr w.heap.size 2 (.slice (some ⟨g, 0, none⟩) k cp) k (decPs xs k) ∧ Chg 0 0 w wr ∧ ∀ j, j < k → goodP (ptrAt xs j) = true) (fun _ x _ => 32 - (intOf x).toNat)
  case atStart => exact ⟨0, _, _, by omega, rfl, rfl, HO0.out, C0, by omega⟩
  case round =>
    obtain ⟨k, g, cp, hk, rfl, rfl, ho, hc, hin⟩ := hrel
    have HC : Hid (Chg 0 0 w wr) := hc
    have HO : Hid (OwnF 1 wr w.heap.size 2 (.slice (some ⟨g, 0, none⟩) k cp) k (decPs xs k)) := ho
    have s1 := hc.size
    by_cases hlt : k < 32
    · have hN := fun c (hc2 : 2 ≤ c) => specGet_calls (xs := (xs.drop (2 * k)).take 2) wr (fun x hx => hB x (List.mem_of_mem_drop (List.mem_of_mem_take hx))) ((HV.out.chg HC.out (by omega)).part (l := 2 * k) (n := 2) (by rw [HL.out]; omega) (by omega) c hc2)
      have hi : (k : Int) < 32 := by omega
      have hN := hN (cap - 2 * k) (by omega)
      have Hp : Hid (getN ((xs.drop (2 * k)).take 2) = ptrAt xs k) := rfl
      rw [Hp.out] at hN
      have Hs : Hid (decPs xs (k + 1) = decPs xs k ++ [ptrAt xs k]) := decPs_succ xs k
      clear ho hc
      go_wp2_with fail
      refine hN.mono ?_
      rintro e w2 ⟨rfl, h2⟩
      have HC2 : Hid (Chg 0 0 w w2) := HC.out.trans (h2.chg 0 0)
      have HO2 : Hid (OwnF 1 w2 w.heap.size 2 (.slice (some ⟨g, 0, none⟩) k cp) k (decPs xs k)) := HO.out.chg (h2.chg 0 0) (by intro g _; omega)
      have s2 := (h2.chg 0 0).size
      clear hN h2
      by_cases hg : goodP (ptrAt xs k) = true
      · have HI : Hid (∀ j, j < k + 1 → goodP (ptrAt xs j) = true) := by
          intro j hj
          by_cases e : j = k
          · subst e; exact hg
          · exact hin j (by omega)
        have hN := l3GoodBlock_calls w2 (ptrAt xs k)
        rw [show (decide (0 ≤ ptrAt xs k) && decide (ptrAt xs k < 2048)) = true from hg] at hN
        generalize ptrAt xs k = y at *
        have HOq : Hid (OwnF 1 (w2.alloc (.cells #[.int .i64 y] 2)) w.heap.size 2 (.slice (some ⟨g, 0, none⟩) k cp) k (decPs xs k)) := HO2.out.chg ((Chg.refl 0 0 w2).alloc _) (by intro g _; omega)
        have HCq : Hid (Chg 0 0 w (w2.alloc (.cells #[.int .i64 y] 2))) := HC2.out.alloc _
        have HNW : Hid (∀ j, j < 1 * 1 → (w2.alloc (.cells #[.int .i64 y] 2)).cell? ⟨w2.heap.size, j, none⟩ = some (.int .i64 ([y].getD j 0))) := by
          intro j hj
          obtain rfl : j = 0 := by omega
          have hh := heap_new w2 (.cells #[.int .i64 y] 2)
          simp only [World.cell?, hh]; rfl
        clear hin hg
        go_wp2_with fail
        refine hN.mono ?_
        rintro e w3 ⟨rfl, rfl⟩
        clear hN
        go_wp2_with (at_builtin; refine wpList_app_flat rfl (.tmp 29) (.tmp 31) 23 rfl w.heap.size 2 ti (.int .i64 0) 8 Try.underlying23 hti hz0 hz1 hz2 rfl (by omega) _ k (decPs xs k) rfl HOq.out w3.heap.size 1 1 [y] rfl rfl (by omega) HNW.out (by omega) (by omega) (by simp; omega) ?_)
        intro v' w5 g' cap' hv' ho5 hc5; subst hv'
        have HO5 : Hid (OwnF 1 w5 w.heap.size 2 (.slice (some ⟨g', 0, none⟩) (k + 1) cap') (k + 1) (decPs xs (k + 1))) := by show OwnF _ _ _ _ _ _ _; rw [Hs.out]; exact ho5
        have HC5 : Hid (Chg 0 0 w w5) := HCq.out.step hc5 (Or.inr (Or.inl (Nat.le_refl _)))
        clear ho5 hc5 HNW HOq HCq
        go_wp2
        go_roundw
        case rel => exact ⟨k + 1, g', cap', by omega, by go_num, rfl, HO5.out, HC5.out, HI.out⟩
        case measure => simp [intOf]; omega
      · have Hn : Hid (decP xs = []) := by show _ = _; unfold decP; rw [if_neg (fun h => hg (h.2 k hlt))]
        have hN := l3GoodBlock_calls w2 (ptrAt xs k)
        rw [show (decide (0 ≤ ptrAt xs k) && decide (ptrAt xs k < 2048)) = false from by rw [Bool.not_eq_true] at hg; exact hg] at hN
        have HO1 : Hid (OwnF 1 (w2.alloc (.cells #[] 2)) w.heap.size 2 (.slice (some ⟨w2.heap.size, 0, none⟩) 0 0) 0 []) := (OwnF.nil w2 2).base (by intro g hg; cases hg; show w.heap.size ≤ w2.heap.size; omega)
        have HC1 : Hid (Chg 0 0 w (w2.alloc (.cells #[] 2))) := HC2.out.alloc _
        generalize ptrAt xs k = y at *
        clear hin hg
        go_wp2_with fail
        refine hN.mono ?_
        rintro e w3 ⟨rfl, rfl⟩
        clear hN
        go_wp2
        go_ret
        first | exact ⟨_, 0, rfl, by rw [Hn.out]; exact HO1.out, by omega, HC1.out⟩ | exact ⟨_, rfl, 0, by rw [Hn.out]; exact HO1.out, by omega, HC1.out⟩
    · obtain rfl : k = 32 := by omega
      have Hn : Hid (decP xs = decPs xs 32) := by show _ = _; unfold decP; rw [if_pos ⟨HL.out, hin⟩]
      clear hin ho hc
      go_wp2
      go_ret
      first | exact ⟨_, 32, rfl, by rw [Hn.out]; exact HO.out, by omega, HC.out⟩ | exact ⟨_, rfl, 32, by rw [Hn.out]; exact HO.out, by omega, HC.out⟩

set_option maxRecDepth 20000 in
set_option maxHeartbeats 400000 in
theorem specDecP_other (w : World) (n : Nat) (ao : Option Addr) (cap : Nat) (hn : ¬ n = 64) (_hl : n ≤ 1048576) :
    Calls Try.prog 4 #[.slice ao n cap] w fun e w' => ∃ v K, e = .returned v ∧ OwnF 1 w' w.heap.size 2 v K [] ∧ K ≤ 32 ∧ Chg 0 0 w w' := by
  have HO0 : Hid (OwnF 1 (w.alloc (.cells #[] 2)) w.heap.size 2 (.slice (some ⟨w.heap.size, 0, none⟩) 0 0) 0 []) := OwnF.nil w _
  have C0 : Hid (Chg 0 0 w (w.alloc (.cells #[] 2))) := Chg.alloc (Chg.refl 0 0 w) _
  have hne : ((n : Int) != 64) = true := by simp; omega
  go_enter Try.func4, Try.ntmps4
  go_wp2
  go_ret
  first | exact ⟨_, 0, rfl, HO0.out, by omega, C0.out⟩ | exact ⟨_, rfl, 0, HO0.out, by omega, C0.out⟩

theorem specDecodePointers_calls (w : World) {lo hi : Nat} {a : Value} {xs : List Int} (hB : Byt xs) (hl : xs.length ≤ 1048576) (h1 : View w lo hi .u8 a xs) :
    Calls Try.prog 4 #[a] w fun e w' => ∃ v K, e = .returned v ∧ OwnF 1 w' w.heap.size 2 v K (decP xs) ∧ K ≤ 32 ∧ Chg 0 0 w w' := by
  have hV := h1
  obtain ⟨ao, cap, rfl, _, ⟨hcap, _⟩, h1⟩ := h1
  by_cases hn : xs.length = 64
  · rcases h1 with rfl | ⟨x, off, rfl, _, _, h1⟩
    · simp at hn
    · exact specDecP_some w xs lo hi x off cap hB hn (by omega) hV
  · rw [show decP xs = [] from by unfold decP; rw [if_neg (fun h => hn h.1)]]
    exact specDecP_other w xs.length ao cap hn hl

end Go.Proofs.Ytdfpllijijaeiaa
