/- DrawUnquote of the model: a text of bounded size. (made ahead of stage 12) -/
import Derived.Test.YtmbonljmghpcmaaDoorQuoteDraw
import Derived.Test.YtmbonljmghpcmaaDoorTurnDraw
namespace Go.Proofs.YtmbonljmghpcmaaDoor
open Go.RowKit

theorem quoV_size {s : ByteArray} (h : s.size ≤ 20) : 1 ≤ (quoV s).size ∧ (quoV s).size ≤ 60 := by
  unfold quoV
  rw [if_neg (by omega)]
  split
  · exact ⟨by decide, by decide⟩
  · rw [strOfNums_size]
    have := quoL_len s s.size
    omega

set_option maxRecDepth 20000 in
set_option maxHeartbeats 4000000 in
theorem drawUnquote_calls (w : World) {lo hi : Nat} {cv : Value} {code : List Int} (hB : Byt code) (hcl : code.length ≤ 1048576) (hc : View w lo hi .u8 cv code) (hhi : hi ≤ w.heap.size) :
    Calls Tryd.prog 7 #[cv] w fun e w' => ∃ t : ByteArray, e = .returned (.string t) ∧ t.size ≤ 70000 ∧ Chg 0 0 w w' := by
  have v0 := hc
  obtain ⟨ao, cap, rfl, hl, _, _⟩ := hc
  have HV : Hid (View w lo hi .u8 (.slice ao code.length cap) code) := v0
  clear v0
  go_enter Tryd.func7, Tryd.ntmps7
  go_wp2_with fail
  refine (l1Source_calls _ ao code.length cap hl).mono ?_
  rintro e w1 ⟨rfl, s1, c1⟩
  generalize min (code.length / 16) 12 = z at *
  have hN := l1Next_calls w1 w.heap.size 0 z 12 (by omega) hB hcl (by omega) s1 (HV.out.chg c1 (by omega)) (Or.inr hhi)
  have HC1 : Hid (Chg 0 0 w w1) := c1
  obtain ⟨r0, r1⟩ := nxt_range code 0 12
  have r1 := r1 (by omega)
  clear s1 c1
  go_wp2_with fail
  refine hN.mono ?_
  rintro e w3 ⟨rfl, s3, c3⟩
  have HC3 : Hid (Chg 0 0 w w3) := HC1.out.step c3 (Or.inr (Or.inl (Nat.le_refl _)))
  generalize nxt code 0 12 = a1 at *
  obtain ⟨m, rfl⟩ : ∃ m : Nat, a1 = (m : Int) := ⟨a1.toNat, by omega⟩
  have hN2 := l1DrawBytes_calls w3 w.heap.size (0 + 1) z m (by omega) hB hcl (by omega) s3 (HV.out.chg HC3.out (by omega)) (Or.inr hhi)
  clear hN c3 s3
  go_wp2_with fail
  refine hN2.mono ?_
  rintro e w4 ⟨v, rfl, ⟨g, cp, rfl⟩, o4, s4, c4⟩
  have hdl := drawB_length code (0 + 1) m
  have hst := (o4.seen (by omega)).str
  have HC4 : Hid (Chg 0 0 w w4) := HC3.out.step c4 (Or.inr (Or.inl (Nat.le_refl _)))
  have hsz : (strOfNums (drawB code (0 + 1) m)).size ≤ 20 := by rw [strOfNums_size]; omega
  have HS4 : Hid (SrcAt w4 w.heap.size (.slice ao code.length cap) (0 + 1 + m) z) := s4
  clear hN2 o4 c4 hdl s4
  generalize strOfNums (drawB code (0 + 1) m) = t at *
  have hQ := fun W => specQuote_calls W t (by omega)
  go_wp2_with fail
  refine (hQ _).mono ?_
  rintro e w5 ⟨rfl, c5⟩
  obtain ⟨q1, q2⟩ := quoV_size hsz
  generalize quoV t = q at *
  have hs4 := HC4.out.size
  have hp4 : w.heap.size < w4.heap.size := (Array.getElem?_eq_some_iff.1 HS4.out).1
  have HC5 : Hid (Chg 0 0 w w5) := HC4.out.trans c5
  have s5 := HS4.out.chg c5 (by omega)
  have hN := l1Chance_calls w5 w.heap.size (0 + 1 + m) z 40 (by omega) hB hcl (by omega) s5 (HV.out.chg HC5.out (by omega)) (Or.inr hhi)
  clear hQ hst c5 s5 HS4
  go_wp2_with fail
  refine hN.mono ?_
  rintro e w6 ⟨rfl, s6, c6⟩
  have HC6 : Hid (Chg 0 0 w w6) := HC5.out.step c6 (Or.inr (Or.inl (Nat.le_refl _)))
  have hp6 : w.heap.size < w6.heap.size := (Array.getElem?_eq_some_iff.1 s6).1
  clear hN c6
  cases hcc : (nxt code (0 + 1 + m) 40 == 0) with
  | true =>
    have HO0 : Hid (OwnB (w6.alloc (.cells #[] 5)) w6.heap.size 5 (.slice (some ⟨w6.heap.size, 0, none⟩) 0 0) []) := OwnB.bnil w6 w6.heap.size (Nat.le_refl _)
    have cA : Chg 0 0 w6 (w6.alloc (.cells #[] 5)) := Chg.alloc (Chg.refl 0 0 w6) _
    have HCA : Hid (Chg 0 0 w (w6.alloc (.cells #[] 5))) := HC6.out.trans cA
    have sA : (w6.alloc (.cells #[] 5)).heap.size = w6.heap.size + 1 := by simp
    have s6' := s6.chg cA (by omega)
    have hN := l1Next_calls (w6.alloc (.cells #[] 5)) w.heap.size (0 + 1 + m + 1) z 2 (by omega) hB hcl (by omega) s6' (HV.out.chg HCA.out (by omega)) (Or.inr hhi)
    obtain ⟨r0', r1'⟩ := nxt_range code (0 + 1 + m + 1) 2
    have r1' := r1' (by omega)
    clear s6 s6' cA
    go_wp2_with fail
    generalize w6.alloc (.cells #[] 5) = wA at *
    refine hN.mono ?_
    rintro e w7 ⟨rfl, _, c7⟩
    have HC7 : Hid (Chg 0 0 w w7) := HCA.out.step c7 (Or.inr (Or.inl (Nat.le_refl _)))
    have HO7 : Hid (OwnB w7 w6.heap.size 5 (.slice (some ⟨w6.heap.size, 0, none⟩) 0 0) []) := HO0.out.chg c7 (fun g' hg' => by have := (HO0.out.lt g' hg').1; omega)
    have hs7 := c7.size
    clear hN c7 HO0 HCA
    generalize nxt code (0 + 1 + m + 1) 2 = a2 at *
    obtain ⟨T, hT⟩ : ∃ T : Nat, 65536 + a2 = (T : Int) := ⟨(65536 + a2).toNat, by omega⟩
    have hwr : IntKind.i64.wrap (65536 + a2) = (T : Int) := by rw [IntKind.wrap_i64]; omega
    have hT2 : T ≤ 65538 := by omega
    clear hT r0' r1'
    have hs67 : w6.heap.size ≤ w7.heap.size := by omega
    have hs06 := HC6.out.size
    go_wp2
    go_loopw [5, 6] (fun o x wr => ∃ (k g cp : Nat) (xs : List Int), k ≤ T ∧ x = .int .i64 k ∧ xs.length + k = T ∧ o = .slice (some ⟨g, 0, none⟩) xs.length cp ∧ OwnB wr w6.heap.size 5 (.slice (some ⟨g, 0, none⟩) xs.length cp) xs ∧ Chg 0 0 w wr ∧ w6.heap.size ≤ wr.heap.size) (fun _ x _ => (RowKit.intOf x).toNat)
    case atStart => exact ⟨T, _, _, [], Nat.le_refl _, rfl, by simp, rfl, HO7.out, HC7.out, hs67⟩
    case round =>
      obtain ⟨k, g', cp', xs, hk, rfl, hxl, rfl, ho, hch, hsw⟩ := hrel
      have HO : Hid (OwnB wr w6.heap.size 5 (.slice (some ⟨g', 0, none⟩) xs.length cp') xs) := ho
      have HC : Hid (Chg 0 0 w wr) := hch
      clear ho hch HO7 HC7
      by_cases hk0 : k = 0
      · subst hk0
        have hst := (HO.out.seen (by omega)).str
        have Hsz : Hid ((strOfNums xs).size = T) := by show _ = _; rw [strOfNums_size]; omega
        go_wp2
        go_ret
        exact ⟨_, rfl, by rw [Hsz.out]; omega, HC.out⟩
      · have hkp : (0 : Int) < (k : Int) := by omega
        have cA : Chg 0 0 wr (wr.alloc (.cells #[.int .u8 120] 5)) := Chg.alloc (Chg.refl 0 0 wr) _
        have VX : Hid (View (wr.alloc (.cells #[.int .u8 120] 5)) wr.heap.size (wr.heap.size + 1) .u8 (.slice (some ⟨wr.heap.size, 0, none⟩) 1 1) [120]) := row_view (w := wr.alloc (.cells #[.int .u8 120] 5)) (b := wr.heap.size) (xs := [120]) (t := 5) (heap_new wr _) 0 1 1 (by simp) (by simp) (Nat.le_refl _)
        have HOA : Hid (OwnB (wr.alloc (.cells #[.int .u8 120] 5)) w6.heap.size 5 (.slice (some ⟨g', 0, none⟩) xs.length cp') xs) := HO.out.chg cA (fun g' _ => by omega)
        have HCA : Hid (Chg 0 0 w (wr.alloc (.cells #[.int .u8 120] 5))) := HC.out.trans cA
        have sX : wr.heap.size + 1 ≤ (wr.alloc (.cells #[.int .u8 120] 5)).heap.size := by simp
        have hw1 : IntKind.i64.wrap ((k : Int) - 1) = ((k - 1 : Nat) : Int) := by rw [IntKind.wrap_i64]; omega
        clear cA
        go_wp2_with (refine wpList_app_seen rfl (.tmp 25) (.tmp 26) rfl w6.heap.size (.slice (some ⟨g', 0, none⟩) xs.length cp') xs rfl HOA.out (by omega) wr.heap.size (wr.heap.size + 1) (.slice (some ⟨wr.heap.size, 0, none⟩) 1 1) [120] rfl VX.out (by simp) (by simp only [List.length_cons, List.length_nil]; omega) ?_; intro v8 w8 o8 c8)
        obtain ⟨g8, cp8, rfl⟩ := o8.some_of (by rw [List.length_append]; simp)
        have HO8 : Hid (OwnB w8 w6.heap.size 5 (.slice (some ⟨g8, 0, none⟩) (xs ++ [(120 : Int)]).length cp8) (xs ++ [(120 : Int)])) := o8
        have HC8 : Hid (Chg 0 0 w w8) := HCA.out.step c8 (by omega)
        have hs8 := c8.size
        clear o8 c8
        go_wp2
        go_roundw
        case rel => exact ⟨k - 1, g8, cp8, xs ++ [(120 : Int)], by omega, by first | rfl | go_num, by rw [List.length_append]; simp; omega, rfl, HO8.out, HC8.out, by omega⟩
        case measure => simp [RowKit.intOf]; omega
  | false =>
    have hN := l1Chance_calls w6 w.heap.size (0 + 1 + m + 1) z 2 (by omega) hB hcl (by omega) s6 (HV.out.chg HC6.out (by omega)) (Or.inr hhi)
    clear s6
    go_wp2_with fail
    refine hN.mono ?_
    rintro e w7 ⟨rfl, s7, c7⟩
    have HC7 : Hid (Chg 0 0 w w7) := HC6.out.step c7 (Or.inr (Or.inl (Nat.le_refl _)))
    clear hN c7
    cases hc2 : (nxt code (0 + 1 + m + 1) 2 == 0) with
    | false =>
      go_wp2
      go_ret
      exact ⟨_, rfl, by omega, HC7.out⟩
    | true =>
      have hcv := Lib.run_convert_string_bytes (P := Tryd.prog) w7 9 22 5 q (u := .string) Tryd.underlying9 Tryd.underlying22 Tryd.underlying5
      have hR := RowM.conv w7 q (by omega)
      have cB : Chg 0 0 w7 (Lib.bytesWorld w7 5 q) := ⟨rfl, rfl, rfl, by rw [Lib.bytesWorld_size]; omega, fun k hk _ => Lib.bytesWorld_at_old w7 _ q k hk⟩
      have sB : (Lib.bytesWorld w7 5 q).heap.size = w7.heap.size + 1 := Lib.bytesWorld_size _ _ _
      have hs7 := HC7.out.size
      have hp7 : w.heap.size < w7.heap.size := (Array.getElem?_eq_some_iff.1 s7).1
      have hql : (q.data.toList.map fun b => (b.toNat : Int)).length = q.size := by rw [List.length_map, ← Lib.size_eq]
      generalize Lib.bytesWorld w7 5 q = wB at *
      generalize (q.data.toList.map fun b => (b.toNat : Int)) = xs at *
      generalize grownCap w7 q.size 0 5 = cq at *
      have HCB : Hid (Chg 0 0 w wB) := HC7.out.trans cB
      have hT : TS wB wB w.heap.size (0 + 1 + m + 1 + 1) z lo hi w7.heap.size w.heap.size (.slice ao code.length cap) code xs (.slice (some ⟨w7.heap.size, 0, none⟩) q.size cq) := ⟨s7.chg cB (by omega), HV.out.chg HCB.out (by omega), hR, Chg.refl _ _ _⟩
      have hL := l3Turn_calls wB hB hcl (by omega) (Or.inr hhi) (Nat.le_refl _) (by omega) (by omega) (by omega) hql (by omega) (by omega) hT
      clear hR cB hT s7
      go_wp2_with fail
      refine hL.mono ?_
      rintro e w9 ⟨v, ys, rfl, ⟨lo', hi', hv9⟩, hyl, c9⟩
      have HC9 : Hid (Chg 0 0 w w9) := HCB.out.step c9 (Or.inr (Or.inl (Nat.le_refl _)))
      have hst := hv9.str
      have Hsz : Hid ((strOfNums ys).size ≤ 1001) := by show _ ≤ _; rw [strOfNums_size]; omega
      clear hL c9 hv9
      go_wp2
      go_ret
      exact ⟨_, rfl, by have := Hsz.out; omega, HC9.out⟩

end Go.Proofs.YtmbonljmghpcmaaDoor
