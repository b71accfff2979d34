/- BitRuns of the model. -/
import Derived.Test.YtgilnboiipehgaaBitCntSpec
import Derived.Test.YtgilnboiipehgaaFlat
import Derived.Deep.DeepCutAuto
namespace Go.Proofs.Ytgilnboiipehgaa
open Go.RowKit

/-- One more place that is off. -/
def addRun (fs : List Int) (i : Int) : List Int :=
  if 0 < fs.length ∧ fs.getD (fs.length - 2) 0 + fs.getD (fs.length - 1) 0 = i then fs.set (fs.length - 1) (fs.getD (fs.length - 1) 0 + 1) else fs ++ [i, 1]
def runsFrom (xs : List Int) : List Int → Int → Nat → List Int
  | fs, _, 0 => fs
  | fs, i, n + 1 => runsFrom xs (if bitG xs i = true then fs else addRun fs i) (i + 1) n
def runsD (xs : List Int) (f t : Int) : List Int := runsFrom xs [] (wlo f) (whi xs t - wlo f).toNat

theorem Try.infoR : (Try.prog.info? 35).map (fun i => (i.zero, i.size, i.bytes)) = some (some (.agg #[.int .i64 0, .int .i64 0]), 2, 16) := by kernel_rfl

set_option maxRecDepth 20000 in
set_option maxHeartbeats 1000000 in
theorem specBitRuns_calls (w : World) {lo hi : Nat} {a : Value} {xs : List Int} (f t : Int) (hB : Byt xs) (hl : xs.length ≤ 1048576) (h1 : View w lo hi .u8 a xs) :
    Calls Try.prog 4 #[a, .int .i64 f, .int .i64 t] w fun e w' => ∃ v K, e = .returned v ∧ OwnF 2 w' w.heap.size 35 v K (runsD xs f t) ∧ K ≤ 16384 ∧ Chg 0 0 w w' := by
  obtain ⟨ti, hti, hz0, hz1, hz2⟩ := info_parts Try.infoR
  have HV : Hid (View w lo hi .u8 a xs) := h1
  have hN := within_calls w f t hl h1
  have Hlo : Hid (0 ≤ wlo f) := wlo_ge f
  have Hhi : Hid (whi xs t ≤ 16384) := whi_le xs t
  have HD : Hid (runsD xs f t = runsFrom xs [] (wlo f) (whi xs t - wlo f).toNat) := rfl
  have HO0 : Hid (OwnF 2 (w.alloc (.cells #[] 35)) w.heap.size 35 (.slice (some ⟨w.heap.size, 0, none⟩) 0 0) 0 []) := OwnF.nil w _
  have C0 : Chg 0 0 w (w.alloc (.cells #[] 35)) := Chg.alloc (Chg.refl 0 0 w) _
  obtain ⟨ao, cap, rfl, _, _, _⟩ := id h1
  clear h1
  go_enter Try.func4, Try.ntmps4
  go_wp2_with fail
  refine hN.mono ?_
  rintro e w1 ⟨rfl, rfl⟩
  clear hN
  generalize wlo f = L at *
  generalize whi xs t = T at *
  go_wp2
  go_loopw [9, 10] (fun o x wr => Chg 0 0 w1 wr ∧ ∃ (i : Int) (K : Nat) (fs : List Int) (g cp : Nat), o = .slice (some ⟨g, 0, none⟩) K cp ∧ x = .int .i64 i ∧ L ≤ i ∧ (K : Int) ≤ i - L ∧ (∀ y ∈ fs, 0 ≤ y ∧ y ≤ i) ∧ (fs = [] ∨ i ≤ T) ∧
    OwnF 2 wr w1.heap.size 35 (.slice (some ⟨g, 0, none⟩) K cp) K fs ∧ runsD xs f t = runsFrom xs fs i (T - i).toNat) (fun _ x _ => (T - intOf x).toNat)
  case atStart => exact ⟨C0, L, 0, [], _, _, rfl, rfl, Int.le_refl _, by omega, by simp, Or.inl rfl, HO0.out, HD.out⟩
  case round =>
    obtain ⟨hch, i, K, fs, g, cp, rfl, rfl, hi, hK, hbd, hT, ho, hR⟩ := hrel
    have h16 := Hhi.out
    have hL0 := Hlo.out
    have hlen := ho.len
    have HO : Hid (OwnF 2 wr w1.heap.size 35 (.slice (some ⟨g, 0, none⟩) K cp) K fs) := ho
    have hgl := ho.lt g rfl
    by_cases hlt : i < T
    · have hC := specBitGet_calls wr i hB hl (HV.out.chg hch (by omega))
      have hs : (T - i).toNat = (T - (i + 1)).toNat + 1 := by omega
      have HCH : Hid (Chg 0 0 w1 wr) := hch
      rw [hs] at hR
      go_wp2_with fail
      refine hC.mono ?_
      rintro e w2 ⟨rfl, rfl⟩
      cases hbit : bitG xs i with
      | true =>
        have Hn : Hid (runsD xs f t = runsFrom xs fs (i + 1) (T - (i + 1)).toNat) := by show _ = _; rw [hR]; simp [runsFrom, hbit]
        have HB : Hid (∀ y ∈ fs, 0 ≤ y ∧ y ≤ i + 1) := fun y hy => by have := hbd y hy; omega
        clear hR hC hbd ho hlen hch hT
        go_wp2
        go_roundw
        case rel => exact ⟨HCH.out, i + 1, K, fs, _, _, rfl, by go_num, by omega, by omega, HB.out, Or.inr (by omega), HO.out, Hn.out⟩
        case measure => simp [intOf]; omega
      | false =>
        have Hn : Hid (runsD xs f t = runsFrom xs (addRun fs i) (i + 1) (T - (i + 1)).toNat) := by show _ = _; rw [hR]; simp [runsFrom, hbit]
        have HB : Hid (∀ y ∈ fs ++ [i, 1], 0 ≤ y ∧ y ≤ i + 1) := by
          intro y hy
          rw [List.mem_append] at hy
          rcases hy with hy | hy
          · have := hbd y hy; omega
          · simp at hy; omega
        have HOq : Hid (∀ m, OwnF 2 ((w2.drewN m).alloc (.cells #[.int .i64 i, .int .i64 1] 35)) w1.heap.size 35 (.slice (some ⟨g, 0, none⟩) K cp) K fs) := fun m => HO.out.chg ((Chg.drewN (Chg.refl 0 0 w2) m).alloc _) (by intro g _; omega)
        have HCq : Hid (∀ m, Chg 0 0 w1 ((w2.drewN m).alloc (.cells #[.int .i64 i, .int .i64 1] 35))) := fun m => (Chg.drewN HCH.out m).alloc _
        have hbs : w1.heap.size ≤ w2.heap.size := HCH.out.size
        have HNW : Hid (∀ m j, j < 1 * 2 → ((w2.drewN m).alloc (.cells #[.int .i64 i, .int .i64 1] 35)).cell? ⟨w2.heap.size, j, none⟩ = some (.int .i64 ([i, 1].getD j 0))) := by
          intro m j hj
          match j, hj with
          | 0, _ => simp [World.cell?, World.alloc, World.drewN]
          | 1, _ => simp [World.cell?, World.alloc, World.drewN]
        have hKb : K + 1 ≤ 1048576 := by omega
        clear hR hC ho
        by_cases hK0 : K = 0
        · subst hK0
          have hf0 : fs = [] := List.eq_nil_of_length_eq_zero (by omega)
          have He : Hid (addRun fs i = fs ++ [i, 1]) := by show _ = _; subst hf0; rfl
          clear hbd hlen hT hch hf0
          go_wp2
          go_quiet (fail)
          go_wp2_with (at_builtin; refine wpList_app_flat rfl (.tmp 64) (.tmp 67) 23 rfl w1.heap.size 35 ti (.agg #[.int .i64 0, .int .i64 0]) 16 Try.underlying23 hti hz0 hz1 hz2 rfl (by omega) _ 0 fs rfl (HOq.out nq) w2.heap.size 1 1 [i, 1] rfl rfl (by omega) (HNW.out nq) (by omega) (by omega) (by simp; omega) ?_)
          intro v' w5 g' cap' hv' ho5 hc5; subst hv'
          have HO5 : Hid (OwnF 2 w5 w1.heap.size 35 (.slice (some ⟨g', 0, none⟩) (0 + 1) cap') (0 + 1) (addRun fs i)) := by show OwnF _ _ _ _ _ _ _; rw [He.out]; exact ho5
          have HC5 : Hid (Chg 0 0 w1 w5) := (HCq.out nq).step hc5 (Or.inr (Or.inl (Nat.le_refl _)))
          clear ho5 hc5 HNW HOq HCq
          go_wp2
          go_roundw
          case rel => exact ⟨HC5.out, i + 1, 1, addRun fs i, g', cap', rfl, by go_num, by omega, by omega, by rw [He.out]; exact HB.out, Or.inr (by omega), HO5.out, Hn.out⟩
          case measure => simp [intOf]; omega
        · obtain ⟨J, rfl⟩ : ∃ J, K = J + 1 := ⟨K - 1, by omega⟩
          obtain ⟨c0, f0⟩ := HO.out.cell (J * 2) (by omega)
          obtain ⟨c1, f1⟩ := HO.out.cell (J * 2 + 1) (by omega)
          have m0 : 0 ≤ fs.getD (J * 2) 0 ∧ fs.getD (J * 2) 0 ≤ i := by
            rw [List.getD_eq_getElem?_getD, List.getElem?_eq_getElem (by omega)]
            exact hbd _ (List.getElem_mem (by omega))
          have m1 : 0 ≤ fs.getD (J * 2 + 1) 0 ∧ fs.getD (J * 2 + 1) 0 ≤ i := by
            rw [List.getD_eq_getElem?_getD, List.getElem?_eq_getElem (by omega)]
            exact hbd _ (List.getElem_mem (by omega))
          have hA : Hid (addRun fs i = if fs.getD (J * 2) 0 + fs.getD (J * 2 + 1) 0 = i then fs.set (J * 2 + 1) (fs.getD (J * 2 + 1) 0 + 1) else fs ++ [i, 1]) := by
            show _ = _
            unfold addRun
            rw [show fs.length - 2 = J * 2 by omega, show fs.length - 1 = J * 2 + 1 by omega]
            simp only [show 0 < fs.length by omega, true_and]
          have HP : Hid (∀ m x, OwnF 2 ((w2.drewN m).setCell ⟨g, J * 2 + 1, none⟩ (.int .i64 x)) w1.heap.size 35 (.slice (some ⟨g, 0, none⟩) (J + 1) cp) (J + 1) (fs.set (J * 2 + 1) x)) := fun m x => (HO.out.chg (Chg.drewN (Chg.refl 0 0 w2) m) (by intro g _; omega)).put (J * 2 + 1) x
          have HCP : Hid (∀ m x, Chg 0 0 w1 ((w2.drewN m).setCell ⟨g, J * 2 + 1, none⟩ (.int .i64 x))) := fun m x => (Chg.drewN HCH.out m).setCell (Or.inr hgl.1) _
          have HBS : Hid (∀ x, 0 ≤ x → x ≤ i + 1 → ∀ y ∈ fs.set (J * 2 + 1) x, 0 ≤ y ∧ y ≤ i + 1) := by
            intro x hx0 hx1 y hy
            rcases List.mem_or_eq_of_mem_set hy with h' | rfl
            · have := hbd y h'; omega
            · exact ⟨hx0, hx1⟩
          generalize fs.getD (J * 2) 0 = p0 at *
          generalize fs.getD (J * 2 + 1) 0 = p1 at *
          have j1 : (0 : Int) < (J : Int) + 1 := by omega
          clear hbd hlen hT hch
          by_cases heq : p0 + p1 = i
          · rw [if_pos heq] at hA
            go_wp2
            go_quiet (fail)
            go_wp2
            go_roundw
            case rel => exact ⟨HCP.out nq _, i + 1, J + 1, addRun fs i, _, _, rfl, by go_num, by omega, by omega, by rw [hA.out]; exact HBS.out _ (by omega) (by omega), Or.inr (by omega), by rw [hA.out]; exact HP.out nq _, Hn.out⟩
            case measure => simp [intOf]; omega
          · rw [if_neg heq] at hA
            go_wp2
            go_quiet (fail)
            go_wp2_with (at_builtin; refine wpList_app_flat rfl (.tmp 64) (.tmp 67) 23 rfl w1.heap.size 35 ti (.agg #[.int .i64 0, .int .i64 0]) 16 Try.underlying23 hti hz0 hz1 hz2 rfl (by omega) _ (J + 1) fs rfl (HOq.out nq) w2.heap.size 1 1 [i, 1] rfl rfl (by omega) (HNW.out nq) (by omega) (by omega) (by simp; omega) ?_)
            intro v' w5 g' cap' hv' ho5 hc5; subst hv'
            have HO5 : Hid (OwnF 2 w5 w1.heap.size 35 (.slice (some ⟨g', 0, none⟩) (J + 1 + 1) cap') (J + 1 + 1) (addRun fs i)) := by show OwnF _ _ _ _ _ _ _; rw [hA.out]; exact ho5
            have HC5 : Hid (Chg 0 0 w1 w5) := (HCq.out nq).step hc5 (Or.inr (Or.inl (Nat.le_refl _)))
            clear ho5 hc5 HNW HOq HCq
            go_wp2
            go_roundw
            case rel => exact ⟨HC5.out, i + 1, J + 1 + 1, addRun fs i, g', cap', rfl, by go_num, by omega, by omega, by rw [hA.out]; exact HB.out, Or.inr (by omega), HO5.out, Hn.out⟩
            case measure => simp [intOf]; omega
    · have hs : (T - i).toNat = 0 := by omega
      have Hn : Hid (runsD xs f t = fs) := by show _ = _; rw [hR, hs]; rfl
      have hK2 : K ≤ 16384 := by
        rcases hT with rfl | hT
        · simp at hlen; omega
        · omega
      clear hR ho hlen hbd
      go_wp2
      go_ret
      exact ⟨_, rfl, K, by rw [Hn.out]; exact HO.out, hK2, hch⟩

end Go.Proofs.Ytgilnboiipehgaa
