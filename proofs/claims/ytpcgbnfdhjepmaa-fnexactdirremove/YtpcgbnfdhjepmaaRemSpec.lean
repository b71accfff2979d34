/- DirRemove of the model. -/
import Derived.Test.YtpcgbnfdhjepmaaEntApp
import Derived.Deep.DeepCutAuto
namespace Go.Proofs.Ytpcgbnfdhjepmaa
open Go.RowKit

/-- What comes of place i. -/
def remAt (ts : List Ent) (at' : Int) (i : Nat) : List Ent :=
  if at' < 0 ∨ (ts.length : Int) ≤ at' then [ts.getD i Ent.none] else if i = ts.length - 1 then [] else if (i : Int) = at' then [ts.getD (ts.length - 1) Ent.none] else [ts.getD i Ent.none]
def remTo (ts : List Ent) (at' : Int) : Nat → List Ent
  | 0 => []
  | n + 1 => remTo ts at' n ++ remAt ts at' n
def remD (ts : List Ent) (at' : Int) : List Ent := remTo ts at' ts.length
theorem remTo_len (ts : List Ent) (at' : Int) (k : Nat) : (remTo ts at' k).length ≤ k := by
  induction k with
  | zero => exact Nat.le_refl _
  | succ k ih =>
    unfold remTo
    rw [List.length_append]
    have : (remAt ts at' k).length ≤ 1 := by
      unfold remAt
      split
      · simp
      · split
        · simp
        · split <;> simp
    omega

set_option maxRecDepth 20000 in
set_option maxHeartbeats 1000000 in
theorem specRem_some (w : World) (ts : List Ent) (at' : Int) (ao : Option Addr) (cap : Nat) (hl : ts.length ≤ 1048576)
    (h1 : ts = [] ∨ ∃ b off, ao = some ⟨b, off, none⟩ ∧ ∀ i, i < ts.length → EAt w b (off + i * 2) (ts.getD i Ent.none)) :
    Calls Try.prog 5 #[.slice ao ts.length cap, .int .i64 at'] w fun e w' => ∃ v, e = .returned v ∧ OwnE w' w.heap.size 33 v (remD ts at') ∧ Chg 0 0 w w' := by
  have HO0 : Hid (OwnE (w.alloc (.cells #[] 33)) w.heap.size 33 (.slice (some ⟨w.heap.size, 0, none⟩) 0 0) []) := OwnE.nil w _
  have C0 : Chg 0 0 w (w.alloc (.cells #[] 33)) := Chg.alloc (Chg.refl 0 0 w) _
  have HD : Hid (remD ts at' = remTo ts at' ts.length) := rfl
  go_enter Try.func5, Try.ntmps5
  go_wp2
  go_loopw [6, 7] (fun o x wr => ∃ (k g cp : Nat) (ps : List Ent), k ≤ ts.length ∧ ps.length ≤ k ∧ x = .int .i64 k ∧ o = .slice (some ⟨g, 0, none⟩) ps.length cp ∧ OwnE wr w.heap.size 33 (.slice (some ⟨g, 0, none⟩) ps.length cp) ps ∧ Chg 0 0 w wr ∧ ps = remTo ts at' k) (fun _ x _ => ts.length - (intOf x).toNat)
  case atStart => exact ⟨0, _, _, [], Nat.zero_le _, Nat.le_refl _, rfl, rfl, HO0.out, C0, rfl⟩
  case round =>
    obtain ⟨k, g, cp, ps, hk, hpk, rfl, rfl, ho, hch, hR⟩ := hrel
    have HC : Hid (Chg 0 0 w wr) := hch
    have HO : Hid (OwnE wr w.heap.size 33 (.slice (some ⟨g, 0, none⟩) ps.length cp) ps) := ho
    have sz := hch.size
    by_cases hlt : k < ts.length
    · obtain ⟨b, off, rfl, hce⟩ := h1.resolve_left (fun h => by rw [h] at hlt; exact absurd hlt (Nat.not_lt_zero k))
      have hi : (k : Int) < (ts.length : Int) := by omega
      have HS : Hid (remTo ts at' (k + 1) = ps ++ remAt ts at' k) := by show _ = _; rw [hR]; rfl
      have HA : Hid (remAt ts at' k = if at' < 0 ∨ (ts.length : Int) ≤ at' then [ts.getD k Ent.none] else if k = ts.length - 1 then [] else if (k : Int) = at' then [ts.getD (ts.length - 1) Ent.none] else [ts.getD k Ent.none]) := rfl
      obtain ⟨c0, c1⟩ := (hce k hlt).chg hch (by omega)
      obtain ⟨d0, d1⟩ := (hce (ts.length - 1) (by omega)).chg hch (by omega)
      -- facts for an entry that is laid out as a slice of one
      have hall : ∀ (q : Int) (s : ByteArray), OwnE (wr.alloc (.cells #[.int .i64 q, .string s] 33)) w.heap.size 33 (.slice (some ⟨g, 0, none⟩) ps.length cp) ps ∧ Chg 0 0 w (wr.alloc (.cells #[.int .i64 q, .string s] 33)) ∧ EAt (wr.alloc (.cells #[.int .i64 q, .string s] 33)) wr.heap.size 0 (q, s) := by
        intro q s
        have hh := heap_new wr (.cells #[.int .i64 q, .string s] 33)
        refine ⟨HO.out.chg ((Chg.refl 0 0 wr).alloc _) (by intro g _; omega), HC.out.alloc _, ?_, ?_⟩
        · simp only [World.cell?, hh]; rfl
        · simp only [World.cell?, hh]; rfl
      have Hall : Hid (∀ (q : Int) (s : ByteArray), OwnE (wr.alloc (.cells #[.int .i64 q, .string s] 33)) w.heap.size 33 (.slice (some ⟨g, 0, none⟩) ps.length cp) ps ∧ Chg 0 0 w (wr.alloc (.cells #[.int .i64 q, .string s] 33)) ∧ EAt (wr.alloc (.cells #[.int .i64 q, .string s] 33)) wr.heap.size 0 (q, s)) := hall
      obtain ⟨t, HT⟩ : ∃ t : Ent, Hid (ts.getD k Ent.none = t) := ⟨_, rfl⟩
      obtain ⟨u, HU⟩ : ∃ t : Ent, Hid (ts.getD (ts.length - 1) Ent.none = t) := ⟨_, rfl⟩
      rw [HT.out, HU.out] at HA
      rw [HT.out] at c0 c1
      rw [HU.out] at d0 d1
      obtain ⟨tq, tx⟩ := t
      obtain ⟨uq, ux⟩ := u
      have hne : ts.length ≠ 0 := by omega
      clear hall hce h1 ho hch hR HT HU
      by_cases hout : at' < 0 ∨ (ts.length : Int) ≤ at'
      · rw [if_pos hout] at HA
        clear d0 d1
        rcases hout with h | h
        · go_wp2_with (at_builtin; refine wpList_app_ent rfl (.tmp 31) (.tmp 36) rfl w.heap.size _ ps rfl (Hall.out tq tx).1 wr.heap.size 1 (tq, tx) rfl (Hall.out tq tx).2.2 (by omega) (by simp; omega) ?_)
          intro v' w5 g' cap' hv' ho5 hc5; subst hv'
          have HO5 : Hid (OwnE w5 w.heap.size 33 (.slice (some ⟨g', 0, none⟩) (ps ++ [(tq, tx)]).length cap') (ps ++ [(tq, tx)])) := by show OwnE _ _ _ _ _; rw [List.length_append]; exact ho5
          have HC5 : Hid (Chg 0 0 w w5) := (Hall.out tq tx).2.1.step hc5 (Or.inr (Or.inl (Nat.le_refl _)))
          have Hn : Hid (ps ++ [(tq, tx)] = remTo ts at' (k + 1)) := by show _ = _; rw [HS.out, HA.out]
          clear ho5 hc5 Hall
          go_wp2
          go_roundw
          case rel => exact ⟨k + 1, g', cap', ps ++ [(tq, tx)], by omega, by simp; omega, by go_num, by simp, HO5.out, HC5.out, Hn.out⟩
          case measure => simp [intOf]; omega
        · have h0 : ¬ at' < 0 := by omega
          go_wp2_with (at_builtin; refine wpList_app_ent rfl (.tmp 31) (.tmp 36) rfl w.heap.size _ ps rfl (Hall.out tq tx).1 wr.heap.size 1 (tq, tx) rfl (Hall.out tq tx).2.2 (by omega) (by simp; omega) ?_)
          intro v' w5 g' cap' hv' ho5 hc5; subst hv'
          have HO5 : Hid (OwnE w5 w.heap.size 33 (.slice (some ⟨g', 0, none⟩) (ps ++ [(tq, tx)]).length cap') (ps ++ [(tq, tx)])) := by show OwnE _ _ _ _ _; rw [List.length_append]; exact ho5
          have HC5 : Hid (Chg 0 0 w w5) := (Hall.out tq tx).2.1.step hc5 (Or.inr (Or.inl (Nat.le_refl _)))
          have Hn : Hid (ps ++ [(tq, tx)] = remTo ts at' (k + 1)) := by show _ = _; rw [HS.out, HA.out]
          clear ho5 hc5 Hall
          go_wp2
          go_roundw
          case rel => exact ⟨k + 1, g', cap', ps ++ [(tq, tx)], by omega, by simp; omega, by go_num, by simp, HO5.out, HC5.out, Hn.out⟩
          case measure => simp [intOf]; omega
      · rw [if_neg hout] at HA
        have h0 : ¬ at' < 0 := by omega
        have h2 : ¬ (ts.length : Int) ≤ at' := by omega
        clear hout
        by_cases hlast : k = ts.length - 1
        · rw [if_pos hlast] at HA
          have Hn : Hid (ps = remTo ts at' (k + 1)) := by show _ = _; rw [HS.out, HA.out, List.append_nil]
          have hb : ((k : Int) == (ts.length : Int) - 1) = true := by simp; omega
          have hlast' : Hid (k = ts.length - 1) := hlast
          clear hlast c0 c1 d0 d1 Hall
          go_wp2
          go_roundw
          case rel => exact ⟨k + 1, g, cp, ps, by omega, by omega, by go_num, rfl, HO.out, HC.out, Hn.out⟩
          case measure => simp [intOf]; omega
        · rw [if_neg hlast] at HA
          have hb : ((k : Int) == (ts.length : Int) - 1) = false := by simp; omega
          have hlb : (ts.length : Int) - 1 = ((ts.length - 1 : Nat) : Int) := by omega
          clear hlast
          by_cases hat : (k : Int) = at'
          · rw [if_pos hat] at HA
            subst hat
            clear c0 c1 hlb
            go_wp2_with (at_builtin; refine wpList_app_ent rfl (.tmp 47) (.tmp 53) rfl w.heap.size _ ps rfl (Hall.out uq ux).1 wr.heap.size 1 (uq, ux) rfl (Hall.out uq ux).2.2 (by omega) (by simp; omega) ?_)
            intro v' w5 g' cap' hv' ho5 hc5; subst hv'
            have HO5 : Hid (OwnE w5 w.heap.size 33 (.slice (some ⟨g', 0, none⟩) (ps ++ [(uq, ux)]).length cap') (ps ++ [(uq, ux)])) := by show OwnE _ _ _ _ _; rw [List.length_append]; exact ho5
            have HC5 : Hid (Chg 0 0 w w5) := (Hall.out uq ux).2.1.step hc5 (Or.inr (Or.inl (Nat.le_refl _)))
            have Hn : Hid (ps ++ [(uq, ux)] = remTo ts (k : Int) (k + 1)) := by show _ = _; rw [HS.out, HA.out]
            clear ho5 hc5 Hall
            go_wp2
            go_roundw
            case rel => exact ⟨k + 1, g', cap', ps ++ [(uq, ux)], by omega, by simp; omega, by go_num, by simp, HO5.out, HC5.out, Hn.out⟩
            case measure => simp [intOf]; omega
          · rw [if_neg hat] at HA
            have hb2 : ((k : Int) == at') = false := by simpa using hat
            clear d0 d1 hlb hat
            go_wp2_with (at_builtin; refine wpList_app_ent rfl (.tmp 16) (.tmp 21) rfl w.heap.size _ ps rfl (Hall.out tq tx).1 wr.heap.size 1 (tq, tx) rfl (Hall.out tq tx).2.2 (by omega) (by simp; omega) ?_)
            intro v' w5 g' cap' hv' ho5 hc5; subst hv'
            have HO5 : Hid (OwnE w5 w.heap.size 33 (.slice (some ⟨g', 0, none⟩) (ps ++ [(tq, tx)]).length cap') (ps ++ [(tq, tx)])) := by show OwnE _ _ _ _ _; rw [List.length_append]; exact ho5
            have HC5 : Hid (Chg 0 0 w w5) := (Hall.out tq tx).2.1.step hc5 (Or.inr (Or.inl (Nat.le_refl _)))
            have Hn : Hid (ps ++ [(tq, tx)] = remTo ts at' (k + 1)) := by show _ = _; rw [HS.out, HA.out]
            clear ho5 hc5 Hall
            go_wp2
            go_roundw
            case rel => exact ⟨k + 1, g', cap', ps ++ [(tq, tx)], by omega, by simp; omega, by go_num, by simp, HO5.out, HC5.out, Hn.out⟩
            case measure => simp [intOf]; omega
    · obtain rfl : k = ts.length := by omega
      have Hn : Hid (remD ts at' = ps) := by show _ = _; rw [HD.out, hR]
      clear h1 ho hch hR
      go_wp2
      go_ret
      exact ⟨_, rfl, by rw [Hn.out]; exact HO.out, HC.out⟩

theorem specDirRemove_calls (w : World) {lo hi : Nat} {a : Value} {ts : List Ent} (at' : Int) (hl : ts.length ≤ 1048576) (h1 : EView w lo hi a ts) :
    Calls Try.prog 5 #[a, .int .i64 at'] w fun e w' => ∃ v, e = .returned v ∧ OwnE w' w.heap.size 33 v (remD ts at') ∧ Chg 0 0 w w' := by
  obtain ⟨ao, cap, rfl, _, _, h1⟩ := h1
  refine specRem_some w ts at' ao cap hl ?_
  rcases h1 with h1 | ⟨x, off, hao, _, _, h1⟩
  · exact Or.inl h1
  · exact Or.inr ⟨x, off, hao, h1⟩

end Go.Proofs.Ytpcgbnfdhjepmaa
