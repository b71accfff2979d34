/- (*directory).encoded, validDirectory, EncodeDir of the program. -/
import Derived.Test.YtaacidanpppopaaDirVal
import Derived.Test.YtaacidanpppopaaImplFind
import Derived.Test.YtaacidanpppopaaAppSeen
namespace Go.Proofs.Ytaacidanpppopaa
open Go.RowKit

set_option maxRecDepth 20000 in
set_option maxHeartbeats 4000000 in
theorem encD_calls (base : Nat) (W : World) (bd bm : Nat) (v : Value) (D : DataW Unit) (ts : List Ent) (h : DirO base W bd bm v D ts) (hl : ts.length ≤ 160) (hall : allE ts ts.length) :
    Calls Try.prog 18 #[.pointer (some ⟨bd, 0, none⟩)] W fun e W' => ∃ v, e = .returned v ∧ OwnB W' W.heap.size 5 v (dirTo ts ts.length) ∧ Chg 0 0 W W' := by
  obtain ⟨ao, vc, rfl, hrow⟩ := h.rows
  obtain ⟨p0, p1⟩ := dir_cells h.cells
  clear h
  have HAll : Hid (allE ts ts.length) := hall
  have HTL : Hid (∀ k, k ≤ ts.length → (dirTo ts k).length = 16 * k) := by
    show ∀ k, _
    intro k hk
    induction k with
    | zero => rfl
    | succ n ih =>
      show (dirTo ts n ++ _).length = _
      rw [List.length_append, ih (by omega), entL_len (hall n (by omega))]
      omega
  clear hall
  go_enter Try.func18, Try.ntmps18
  go_wp2
  go_loopw [3, 12] (fun o x wr => ∃ k : Nat, k ≤ ts.length ∧ x = .int .i64 k ∧ OwnB wr W.heap.size 5 o (dirTo ts k) ∧ Chg 0 0 W wr) (fun _ x _ => ts.length - (intOf x).toNat)
  case atStart => exact ⟨0, Nat.zero_le _, rfl, ⟨rfl, Or.inl ⟨rfl, rfl⟩⟩, Chg.refl _ _ _⟩
  case round =>
    obtain ⟨k, hk, rfl, ho, hc⟩ := hrel
    have HO : Hid (OwnB wr W.heap.size 5 _ (dirTo ts k)) := ho
    have HC : Hid (Chg 0 0 W wr) := hc
    have s0 := hc.size
    by_cases hlt : k < ts.length
    · obtain ⟨g, rfl, hg1, hg2, hce⟩ := hrow.resolve_left (fun h => by rw [h] at hlt; exact absurd hlt (Nat.not_lt_zero k))
      obtain ⟨c1, c2⟩ := (hce k hlt).chg hc (by omega)
      have hi : (k : Int) < (ts.length : Int) := by omega
      have hR := HAll.out k hlt
      have HLk : Hid ((dirTo ts k).length = 16 * k) := HTL.out k hk
      have HTo : Hid (dirTo ts (k + 1) = dirTo ts k ++ entL (ts.getD k Ent.none).1 (ts.getD k Ent.none).2) := rfl
      generalize ts.getD k Ent.none = t at *
      obtain ⟨q, s⟩ := t
      simp only at c1 c2 hR HTo
      obtain ⟨g1, g2, g3, g4⟩ := ent_good hR
      have hN := encE_calls (wr.alloc (.cells (entA q s) 37)) q s ⟨g1, g2⟩ g4
      have HC1 : Hid (Chg 0 0 wr (wr.alloc (.cells (entA q s) 37))) := Chg.alloc (Chg.refl 0 0 wr) _
      obtain ⟨e0, e1⟩ := ent_cells (heap_new wr (.cells (entA q s) 37))
      have hrl : (entL q s).length = 16 := entL_len hR
      have hrl2 : (recE q s).length = 16 := by unfold recE; rw [List.length_map]; exact hrl
      have Hrl : Hid ((recE q s).length = 16) := hrl2
      have Hrl1 : Hid ((entL q s).length = 16) := hrl
      have hicr : (Try.prog.info? 56).map (·.size) = some (recE q s).length := by rw [hrl2]; exact Try.sizeERec
      have HV2 : Hid (∀ v ∈ recE q s, v.oneCell' = true) := by show ∀ v ∈ recE q s, v.oneCell' = true; unfold recE; exact ints_oneCell _ _
      have Hrec : Hid (recE q s = (entL q s).map (Value.int .u8)) := rfl
      clear hR hrl hrl2 g1 g2 g3 g4 ho hc hce hrow
      generalize recE q s = rs at *
      go_wp2_with (first
        | (go_at_call 27; refine hN.mono ?_; clear hN; rintro e w5 ⟨rfl, hc5⟩)
        | (refine wpList_store_row rfl 56 (.tmp 6) (.tmp 17) rfl rfl w5.heap.size rfl rs Z16 56 rfl (by rw [← Z16_eq]; exact heap_new w5 _) (by rw [Z16_length]; exact Hrl.out) hicr HV2.out ?_
           intro wh hbh hch
           have HBh : Hid (wh.heap[w5.heap.size]? = some (.cells rs.toArray 56 (0, 0))) := hbh
           have HC5 : Hid (Chg 0 0 wr w5) := HC1.out.trans hc5
           have HC6 : Hid (Chg 0 0 wr wh) := HC5.out.trans ((Chg.alloc (Chg.refl 0 0 w5) _).step hch (by omega))
           have s5 := HC5.out.size
           have s6 := HC6.out.size
           have HO6 := HO.out.chg HC6.out (by intro g _; omega)
           have HOr : Hid (OwnB wh W.heap.size 56 (.slice (some ⟨w5.heap.size, 0, none⟩) 16 16) (entL q s)) := by
             refine ⟨by rw [List.length_map, Nat.mul_one], Or.inr ⟨w5.heap.size, 16, rs.toArray, by rw [Hrl1.out], by omega, HBh.out, by rw [Hrl1.out]; exact Nat.le_refl _, by unfold maxLen; omega, by simpa using Hrl.out, ?_⟩⟩
             rw [List.take_of_length_le (by simp; rw [Hrl.out, Hrl1.out]; omega)]
             exact Hrec.out
           have HVr : Hid (View wh W.heap.size wh.heap.size .u8 (.slice (some ⟨w5.heap.size, 0, none⟩) 16 16) (entL q s)) := HOr.out.seen (by rw [Hrl1.out]; omega)
           clear hc5 HOr hbh hch hicr)
        | (at_builtin
           refine wpList_app_seen rfl _ _ rfl W.heap.size _ (dirTo ts k) rfl HO6 (by omega) _ _ _ (entL q s) rfl HVr.out (by rw [Hrl1.out]; omega) (by rw [HLk.out, Hrl1.out]; omega) ?_
           intro v7 w7 o7 h7
           have HO7 : Hid (OwnB w7 W.heap.size 5 v7 (dirTo ts (k + 1))) := by
             rw [HTo.out]
             exact o7
           have HC7 : Hid (Chg 0 0 W w7) := (HC.out.trans HC6.out).step h7 (by omega)
           clear o7 h7))
      go_roundw
      case rel => exact ⟨k + 1, by omega, by go_num, HO7.out, HC7.out⟩
      case measure => simp [intOf]; omega
    · obtain rfl : k = ts.length := by omega
      clear ho hc hrow
      go_wp2
      go_ret
      exact ⟨_, rfl, HO.out, HC.out⟩

set_option maxRecDepth 20000 in
set_option maxHeartbeats 1000000 in
theorem validDir_big (w : World) (n : Nat) (ao : Option Addr) (cap : Nat) (hl : 160 < n) :
    Calls Try.prog 17 #[.slice ao n cap] w fun e w' => e = .returned (.tuple #[.pointer none, .bool false]) ∧ Chg 0 0 w w' := by
  have hm : (160 : Int) < (n : Int) := by omega
  go_enter Try.func17, Try.ntmps17
  go_wp2
  exact bodyPost_ret (v := .tuple #[.pointer none, .bool false]) (by simp [results, Try.results17, go_sem]) rfl ⟨rfl, Chg.refl _ _ _⟩

set_option maxRecDepth 20000 in
set_option maxHeartbeats 1000000 in
theorem validDir_some (w : World) (ts : List Ent) (ao : Option Addr) (cap : Nat) (hl : ts.length ≤ 160) (hz : ∀ i, i < ts.length → (ts.getD i Ent.none).2.size ≤ 1048576)
    (h1 : ts = [] ∨ ∃ b off, ao = some ⟨b, off, none⟩ ∧ ∀ i, i < ts.length → EAt w b (off + i * 2) (ts.getD i Ent.none)) :
    Calls Try.prog 17 #[.slice ao ts.length cap] w fun e w' => ∃ bd bm v D, e = .returned (.tuple #[.pointer (some ⟨bd, 0, none⟩), .bool (dirB ts)]) ∧ DirO w.heap.size w' bd bm v D ts ∧ Chg 0 0 w w' := by
  have hm : ¬ (160 : Int) < (ts.length : Int) := by omega
  have hN := directoryOf_some w ts ao cap (by omega) hz h1
  have hN2 := fun base W bd bm v D h => isValidD_calls base W bd bm v D ts h (by omega)
  rw [okD_dir ts hl] at hN2
  generalize hq : dirB ts = q at *
  clear h1 hz hq
  go_enter Try.func17, Try.ntmps17
  go_wp2_with (first
    | (go_at_call 25; refine hN.mono ?_; clear hN; rintro e w2 ⟨bd, bm, v, D, rfl, hd, hc⟩; have HD : Hid (DirO w.heap.size w2 bd bm v D ts) := hd; clear hd)
    | (go_at_call 26; refine (hN2 _ _ _ _ _ _ HD.out).mono ?_; clear hN2; rintro e w3 ⟨rfl, hc3⟩))
  exact bodyPost_ret (v := .tuple #[.pointer (some ⟨bd, 0, none⟩), .bool q]) (by simp [results, Try.results17, go_sem]) rfl ⟨_, _, _, _, rfl, HD.out.chg hc3 (by omega), hc.trans hc3⟩

set_option maxRecDepth 20000 in
set_option maxHeartbeats 1000000 in
theorem implEncodeDir_calls (w : World) {lo hi : Nat} {a : Value} {ts : List Ent} (hl : cntE ts ≤ 1048576) (h1 : EView w lo hi a ts) :
    Calls Try.prog 7 #[a] w fun e w' => ∃ v, e = .returned v ∧ OwnB w' w.heap.size 5 v (encDir ts) ∧ Chg 0 0 w w' := by
  have hz : ∀ i, i < ts.length → (ts.getD i Ent.none).2.size ≤ 1048576 := fun i hi => by have := cntE_at hi; omega
  obtain ⟨ao, cap, rfl, hl0, _, h1⟩ := h1
  by_cases hm : 160 < ts.length
  · have HE : Hid (encDir ts = []) := by show _ = _; unfold encDir; rw [if_neg (by rw [dirB_false (fun h => by have := h.1; omega)]; decide)]
    have hN := validDir_big w ts.length ao cap hm
    clear hm h1 hz
    go_enter Try.func7, Try.ntmps7
    go_wp2_with (go_at_call 17; refine hN.mono ?_; clear hN; rintro e w2 ⟨rfl, hc⟩)
    go_ret
    exact ⟨_, rfl, by rw [HE.out]; exact ⟨rfl, Or.inl ⟨rfl, rfl⟩⟩, hc⟩
  have hN := validDir_some w ts ao cap (by omega) hz (by
    rcases h1 with h | ⟨b, off, e, _, _, h⟩
    · exact Or.inl h
    · exact Or.inr ⟨b, off, e, h⟩)
  have hl2 : ts.length ≤ 160 := by omega
  clear h1 hz hm
  cases hb : dirB ts with
  | false =>
    have HE : Hid (encDir ts = []) := by show _ = _; unfold encDir; rw [if_neg (by rw [hb]; decide)]
    rw [hb] at hN
    clear hb
    go_enter Try.func7, Try.ntmps7
    go_wp2_with (go_at_call 17; refine hN.mono ?_; clear hN; rintro e w2 ⟨bd, bm, v, D, rfl, hd, hc⟩)
    go_ret
    exact ⟨_, rfl, by rw [HE.out]; exact ⟨rfl, Or.inl ⟨rfl, rfl⟩⟩, hc⟩
  | true =>
    have HE : Hid (encDir ts = dirTo ts ts.length) := by show _ = _; unfold encDir; rw [if_pos hb]
    have hN2 := fun base W bd bm v D h => encD_calls base W bd bm v D ts h hl2 (fun k hk => by
      have := (dirB_iff.1 hb).2 k hk
      unfold dirAt at this
      rw [Bool.and_eq_true] at this
      exact this.1)
    rw [hb] at hN
    clear hb
    rw [HE.out]
    generalize dirTo ts ts.length = ds at *
    go_enter Try.func7, Try.ntmps7
    go_wp2_with (first
      | (go_at_call 17; refine hN.mono ?_; clear hN; rintro e w2 ⟨bd, bm, v, D, rfl, hd, hc⟩; have HD : Hid (DirO w.heap.size w2 bd bm v D ts) := hd; have HC : Hid (Chg 0 0 w w2) := hc; clear hd hc)
      | (go_at_call 18; refine (hN2 _ _ _ _ _ _ HD.out).mono ?_; clear hN2; rintro e w3 ⟨v3, rfl, o3, hc3⟩))
    go_ret
    have s2 := HC.out.size
    exact ⟨_, rfl, OwnB.base o3 (fun g hg => by have := (OwnB.lt o3 g hg).1; omega), HC.out.trans hc3⟩

end Go.Proofs.Ytaacidanpppopaa
