/- EncodeDir of the model. -/
import Derived.Test.YtkcijpmikgohcaaEntEnc
import Derived.Test.YtkcijpmikgohcaaFindSpec
namespace Go.Proofs.Ytkcijpmikgohcaa
open Go.RowKit

/-- Place k is right. -/
def dirAt (ts : List Ent) (k : Nat) : Bool := entB (ts.getD k Ent.none).1 (ts.getD k Ent.none).2 && decide (findD ts (ts.getD k Ent.none).2 = (k : Int))
def dirB (ts : List Ent) : Bool := decide (ts.length ≤ 160) && (List.range ts.length).all (dirAt ts)
/-- The records of the first k. -/
def dirTo (ts : List Ent) : Nat → List Int
  | 0 => []
  | k + 1 => dirTo ts k ++ entL (ts.getD k Ent.none).1 (ts.getD k Ent.none).2
def encDir (ts : List Ent) : List Int := if dirB ts = true then dirTo ts ts.length else []

theorem dirB_iff {ts : List Ent} : dirB ts = true ↔ ts.length ≤ 160 ∧ ∀ k, k < ts.length → dirAt ts k = true := by
  unfold dirB
  simp

theorem dirB_false {ts : List Ent} (h : ¬ (ts.length ≤ 160 ∧ ∀ k, k < ts.length → dirAt ts k = true)) : dirB ts = false := by
  rw [Bool.eq_false_iff]
  exact fun h' => h (dirB_iff.1 h')

theorem dirTo_len {ts : List Ent} : ∀ k, (∀ j, j < k → dirAt ts j = true) → (dirTo ts k).length = 16 * k
  | 0, _ => rfl
  | k + 1, h => by
    have h1 := h k (Nat.lt_succ_self k)
    unfold dirAt at h1
    rw [Bool.and_eq_true] at h1
    show (dirTo ts k ++ _).length = _
    rw [List.length_append, dirTo_len k (fun j hj => h j (by omega)), entL_len h1.1]
    omega

theorem encDir_len (ts : List Ent) : (encDir ts).length ≤ 2560 := by
  unfold encDir
  split
  · rename_i h
    have := dirB_iff.1 h
    rw [dirTo_len _ this.2]
    omega
  · simp

set_option maxRecDepth 20000 in
set_option maxHeartbeats 4000000 in
theorem specEncDir_calls (w : World) {lo hi : Nat} {a : Value} {ts : List Ent} (hl : cntE ts ≤ 1048576) (h1 : EView w lo hi a ts) :
    Calls Try.prog 7 #[a] w fun e w' => ∃ v, e = .returned v ∧ OwnB w' w.heap.size 5 v (encDir ts) ∧ Chg 0 0 w w' := by
  have HV : Hid (EView w lo hi a ts) := h1
  have hle := cntE_ge ts
  obtain ⟨ao, cap, rfl, hl0, _, h1⟩ := h1
  have HP : Hid (ts = [] ∨ ∃ b off, ao = some ⟨b, off, none⟩ ∧ lo ≤ b ∧ b < hi ∧ ∀ i, i < ts.length → EAt w b (off + i * 2) (ts.getD i Ent.none)) := h1
  have HO0 : Hid (OwnB (w.alloc (.cells #[] 5)) w.heap.size 5 (.slice (some ⟨w.heap.size, 0, none⟩) 0 0) []) := OwnB.bnil w _ (Nat.le_refl _)
  have HC0 : Hid (Chg 0 0 w (w.alloc (.cells #[] 5))) := Chg.alloc (Chg.refl 0 0 w) _
  clear h1
  by_cases hm : (160 : Int) < (ts.length : Int)
  · have HE : Hid (encDir ts = []) := by show _ = _; unfold encDir; rw [if_neg (by rw [dirB_false (fun h => by have := h.1; omega)]; decide)]
    go_enter Try.func7, Try.ntmps7
    go_wp2
    go_ret
    exact ⟨_, rfl, by rw [HE.out]; exact HO0.out, HC0.out⟩
  go_enter Try.func7, Try.ntmps7
  go_wp2
  go_loopw [3, 4] (fun o x wr => ∃ (k g cp : Nat), k ≤ ts.length ∧ x = .int .i64 k ∧ o = .slice (some ⟨g, 0, none⟩) (16 * k) cp ∧ (∀ j, j < k → dirAt ts j = true) ∧ OwnB wr w.heap.size 5 (.slice (some ⟨g, 0, none⟩) (16 * k) cp) (dirTo ts k) ∧ Chg 0 0 w wr) (fun _ x _ => ts.length - (intOf x).toNat)
  case atStart => exact ⟨0, _, _, Nat.zero_le _, rfl, rfl, fun j hj => absurd hj (Nat.not_lt_zero j), HO0.out, HC0.out⟩
  case round =>
    obtain ⟨k, g, cp, hk, rfl, rfl, hall, ho, hch⟩ := hrel
    have HAll : Hid (∀ j, j < k → dirAt ts j = true) := hall
    have HO : Hid (OwnB wr w.heap.size 5 (.slice (some ⟨g, 0, none⟩) (16 * k) cp) (dirTo ts k)) := ho
    have HC : Hid (Chg 0 0 w wr) := hch
    have sz := hch.size
    by_cases hlt : k < ts.length
    · have hi' : (k : Int) < (ts.length : Int) := by omega
      obtain ⟨b, off, rfl, _, _, hce⟩ := HP.out.resolve_left (fun h => by rw [h] at hlt; exact absurd hlt (Nat.not_lt_zero k))
      obtain ⟨c0, c1⟩ := (hce k hlt).chg hch (by omega)
      have HLen : Hid ((dirTo ts k).length = 16 * k) := dirTo_len k hall
      have HAt : Hid (dirAt ts k = (entB (ts.getD k Ent.none).1 (ts.getD k Ent.none).2 && decide (findD ts (ts.getD k Ent.none).2 = (k : Int)))) := rfl
      have HTo : Hid (dirTo ts (k + 1) = dirTo ts k ++ entL (ts.getD k Ent.none).1 (ts.getD k Ent.none).2) := rfl
      have hsz : (ts.getD k Ent.none).2.size ≤ 1048576 := by have := cntE_at hlt; omega
      have hw := lt_of_cell (hce k hlt).1
      generalize ts.getD k Ent.none = p at *
      obtain ⟨q, s⟩ := p
      simp only at c0 c1 hsz
      have hN := specEncEntry_calls wr q s hsz
      clear hall ho hch hce
      go_wp2_with fail
      refine hN.mono ?_
      rintro e w5 ⟨v5, rfl, o5, h5⟩
      have HC5 : Hid (Chg 0 0 w w5) := HC.out.trans h5
      have s5 := h5.size
      have d0 := h5.cell c0 (by omega)
      have d1 := h5.cell c1 (by omega)
      have HO5 : Hid (OwnB w5 w.heap.size 5 (.slice (some ⟨g, 0, none⟩) (16 * k) cp) (dirTo ts k)) := HO.out.chg h5 (by intro g _; omega)
      clear hN c0 c1
      by_cases he : entB q s = true
      · have HEn : Hid (encEnt q s = entL q s) := by show _ = _; unfold encEnt; rw [if_pos he]
        have H16 : Hid ((entL q s).length = 16) := entL_len he
        rw [HEn.out] at o5
        obtain ⟨g5, c5, rfl⟩ := o5.some_of (by rw [H16.out]; omega)
        rw [H16.out] at o5
        rw [H16.out]
        have HV5 : Hid (View w5 wr.heap.size w5.heap.size .u8 (.slice (some ⟨g5, 0, none⟩) 16 c5) (entL q s)) := o5.seen (by rw [H16.out]; omega)
        have hF := specDirFind_calls w5 s (by omega) (HV.out.chg HC5.out (by omega))
        clear o5 h5
        go_wp2_with fail
        refine hF.mono ?_
        rintro e w6 ⟨rfl, h6⟩
        have HC6 : Hid (Chg 0 0 w w6) := HC5.out.trans h6
        have s6 := h6.size
        have HO6 : Hid (OwnB w6 w.heap.size 5 (.slice (some ⟨g, 0, none⟩) (16 * k) cp) (dirTo ts k)) := HO5.out.chg h6 (by intro g _; omega)
        have HV6 : Hid (View w6 wr.heap.size w5.heap.size .u8 (.slice (some ⟨g5, 0, none⟩) 16 c5) (entL q s)) := HV5.out.chg h6 (by omega)
        clear hF h6 d0 d1
        by_cases hf : findD ts s = (k : Int)
        · have HGood : Hid (dirAt ts k = true) := by show _ = _; rw [HAt.out, he, decide_eq_true hf]; rfl
          have hnf : ((k : Int) != (k : Int)) = false := by simp
          rw [hf]
          clear hf he
          go_wp2_with (at_builtin; refine wpList_app_seen rfl _ _ rfl w.heap.size _ (dirTo ts k) rfl HO6.out (by omega) _ _ _ (entL q s) rfl HV6.out (by rw [H16.out]; omega) (by rw [HLen.out, H16.out]; omega) ?_)
          intro v7 w7 o7 h7
          obtain ⟨g7, c7, rfl⟩ := o7.some_of (by rw [List.length_append, H16.out]; omega)
          have HL7 : Hid ((dirTo ts k ++ entL q s).length = 16 * (k + 1)) := by show _ = _; rw [List.length_append, HLen.out, H16.out]; omega
          rw [HL7.out] at o7
          rw [HL7.out]
          have HR : Hid ((∀ j, j < k + 1 → dirAt ts j = true) ∧ OwnB w7 w.heap.size 5 (.slice (some ⟨g7, 0, none⟩) (16 * (k + 1)) c7) (dirTo ts (k + 1)) ∧ Chg 0 0 w w7) := by
            refine ⟨fun j hj => ?_, by rw [HTo.out]; exact o7, HC6.out.step h7 (by omega)⟩
            by_cases e : j < k
            · exact HAll.out j e
            · obtain rfl : j = k := by omega
              exact HGood.out
          clear o7 h7 HC6 HO6 HV6 hnf
          go_wp2
          go_roundw
          case rel => exact ⟨k + 1, g7, c7, by omega, by go_num, rfl, HR.out⟩
          case measure => simp [intOf]; omega
        · have HE : Hid (encDir ts = []) := by
            show _ = _
            unfold encDir
            rw [if_neg (by rw [dirB_false (fun h => by have := h.2 k hlt; rw [HAt.out, decide_eq_false hf, Bool.and_false] at this; cases this)]; decide)]
          have hnf : (findD ts s != (k : Int)) = true := by simpa using hf
          have HON : Hid (OwnB (w6.alloc (.cells #[] 5)) w.heap.size 5 (.slice (some ⟨w6.heap.size, 0, none⟩) 0 0) []) := OwnB.bnil w6 _ (by omega)
          have HCN : Hid (Chg 0 0 w (w6.alloc (.cells #[] 5))) := HC6.out.alloc _
          clear hf he
          go_wp2
          go_ret
          exact ⟨_, rfl, by rw [HE.out]; exact HON.out, HCN.out⟩
      · have HEn : Hid (encEnt q s = []) := by show _ = _; unfold encEnt; rw [if_neg he]
        rw [Bool.not_eq_true] at he
        have HE : Hid (encDir ts = []) := by
          show _ = _
          unfold encDir
          rw [if_neg (by rw [dirB_false (fun h => by have := h.2 k hlt; rw [HAt.out, he, Bool.false_and] at this; cases this)]; decide)]
        have HON : Hid (OwnB (w5.alloc (.cells #[] 5)) w.heap.size 5 (.slice (some ⟨w5.heap.size, 0, none⟩) 0 0) []) := OwnB.bnil w5 _ (by omega)
        have HCN : Hid (Chg 0 0 w (w5.alloc (.cells #[] 5))) := HC5.out.alloc _
        rw [HEn.out] at o5
        obtain ⟨e5, c5, rfl⟩ : ∃ e c, v5 = .slice e 0 c := by
          rcases o5.2 with ⟨rfl, _⟩ | ⟨g, gc, cur, rfl, _⟩
          · exact ⟨_, _, rfl⟩
          · exact ⟨_, _, rfl⟩
        clear o5 h5 he
        go_wp2
        go_ret
        exact ⟨_, rfl, by rw [HE.out]; exact HON.out, HCN.out⟩
    · obtain rfl : k = ts.length := by omega
      have HE : Hid (encDir ts = dirTo ts ts.length) := by
        show _ = _
        unfold encDir
        rw [if_pos (dirB_iff.2 ⟨by omega, HAll.out⟩)]
      clear hall ho hch
      go_wp2
      go_ret
      exact ⟨_, rfl, by rw [HE.out]; exact HO.out, HC.out⟩

end Go.Proofs.Ytkcijpmikgohcaa
