/- What survives, in the model: Survivors. -/
import Derived.Test.YtmfcaiadcmgjbaaSurvSt
import Derived.BigQuiet
namespace Go.Proofs.Ytmfcaiadcmgjbaa
open Go.RowKit

theorem cnt_dataS {ps : List Wr} {i : Nat} (h : i < ps.length) : (ps.getD i (0, [])).2.length + 1 ≤ cnt ps := by
  have h1 := cnt_take_succ ps i h
  have h2 := cnt_take_le ps (i + 1)
  omega

theorem SvSt.more {w wr : World} {v : Value} {ps : List Wr} {n m : Nat} (h : SvSt w wr v ps n) (e : n ≤ m) : SvSt w wr v ps m := by
  obtain ⟨g, cp, es, h1, h2, h3, h4, h5, h6, h7⟩ := h
  exact ⟨g, cp, es, h1, h2, h3, h4, h5, by omega, h7⟩
theorem SvSt.from {w wr : World} {v : Value} {ps : List Wr} {n : Nat} (h : SvSt w wr v ps n) : Chg 0 0 w wr := by
  obtain ⟨g, cp, es, h1, h2, h3, h4, h5, h6, h7⟩ := h
  exact h7
theorem numT_cnt (ts : List Tx) : numT ts ≤ cntTS ts := by
  induction ts with
  | nil => simp [numT]
  | cons t ts ih =>
    have := cnt_ge t.homes
    simp only [numT, cntTS, List.map_cons, List.sum_cons, cntT] at ih ⊢
    omega
theorem survL_succ (ts : List Tx) (k : Nat) (h : k < ts.length) : survL (ts.take (k + 1)) = (ts.getD k Tx.none).homes.foldl wiL ((ts.getD k Tx.none).revs.foldl woL (survL (ts.take k))) := by
  unfold survL
  rw [List.take_succ_eq_append_getElem h, List.foldl_append, List.getD_eq_getElem?_getD, List.getElem?_eq_getElem h]
  rfl
theorem fold_take {α β : Type} (f : β → α → β) (o : β) (l : List α) (d : α) (j : Nat) (h : j < l.length) : (l.take (j + 1)).foldl f o = f ((l.take j).foldl f o) (l.getD j d) := by
  rw [List.take_succ_eq_append_getElem h, List.foldl_append, List.getD_eq_getElem?_getD, List.getElem?_eq_getElem h]
  rfl

set_option maxRecDepth 20000 in
set_option maxHeartbeats 8000000 in
theorem specSurv_some (w : World) (ts : List Tx) (lo hi b off cap : Nat) (hl : cntTS ts ≤ 1048576) (hL : ts.length ≤ 1048576) (h1 : ∀ i, i < ts.length → TAt w lo hi b (off + i * 3) (ts.getD i Tx.none)) :
    Calls Try.prog 5 #[.slice (some ⟨b, off, none⟩) ts.length cap] w fun e w' => ∃ v n, e = .returned v ∧ SvSt w w' v (survO ts) n := by
  have hN := numT_cnt ts
  have H1 : Hid (∀ i, i < ts.length → TAt w lo hi b (off + i * 3) (ts.getD i Tx.none)) := h1
  clear h1
  go_enter Try.func5, Try.ntmps5
  go_wp2
  go_loopw [3, 4] (fun n x wr => ∃ k : Nat, k ≤ ts.length ∧ x = .int .i64 k ∧ n = .int .i64 (numT (ts.take k) : Nat) ∧ Chg 0 0 w wr) (fun _ x _ => ts.length - (RowKit.intOf x).toNat)
  case atStart => exact ⟨0, Nat.zero_le _, rfl, rfl, Chg.refl _ _ _⟩
  case round =>
    obtain ⟨k, hk, rfl, rfl, hch⟩ := hrel
    have HC : Hid (Chg 0 0 w wr) := hch
    by_cases hlt : k < ts.length
    · have hi' : (k : Int) < (ts.length : Int) := by omega
      obtain ⟨hv, rv, c0, c1, c2, p1, v1⟩ := H1.out k hlt
      replace c1 := hch.cell c1 (by omega)
      replace c2 := hch.cell c2 (by omega)
      obtain ⟨pa, pc, rfl, _⟩ := p1
      obtain ⟨va, vc, rfl, _⟩ := v1
      have HS : Hid (numT (ts.take (k + 1)) = numT (ts.take k) + ((ts.getD k Tx.none).homes.length + (ts.getD k Tx.none).revs.length)) := numT_succ ts k hlt
      have hb1 : numT (ts.take k) + ((ts.getD k Tx.none).homes.length + (ts.getD k Tx.none).revs.length) ≤ 1048576 := by have := numT_le ts (k + 1); rw [HS.out] at this; omega
      generalize (ts.getD k Tx.none).homes = hs at *
      generalize (ts.getD k Tx.none).revs = rs at *
      generalize numT (ts.take k) = nn at *
      have hw1 : IntKind.i64.wrap ((nn : Int) + (hs.length : Int)) = (nn : Int) + (hs.length : Int) := by rw [IntKind.wrap_i64]; omega
      have hw2 : IntKind.i64.wrap ((nn : Int) + (hs.length : Int) + (rs.length : Int)) = (nn : Int) + (hs.length : Int) + (rs.length : Int) := by rw [IntKind.wrap_i64]; omega
      clear hch c0
      go_wp2
      go_quiet (fail)
      go_wp2
      go_roundw
      case rel => exact ⟨k + 1, by omega, by go_num, by rw [HS.out]; go_num, Chg.drewN HC.out nq⟩
      case measure => simp [RowKit.intOf]; omega
    · obtain rfl : k = ts.length := by omega
      rw [List.take_length]
      have hnn : numT ts ≤ 1048576 := by omega
      have HN : Hid (SvSt w (wr.alloc (.cells #[] 44)) (.slice (some ⟨wr.heap.size, 0, none⟩) 0 0) [] 0) := SvSt.new HC.out
      by_cases hbig : 512 < ts.length ∨ 10000 < numT ts
      · have HS : Hid (survO ts = []) := by show _ = _; unfold survO; rw [if_pos hbig]
        generalize numT ts = nn at *
        clear hch
        by_cases hb5 : 512 < ts.length
        · have hd5 : decide ((512 : Int) < (ts.length : Int)) = true := by simp; omega
          go_wp2
          go_ret
          exact ⟨_, 0, rfl, by rw [HS.out]; exact HN.out⟩
        · have hd5 : decide ((512 : Int) < (ts.length : Int)) = false := by simp; omega
          have hd6 : decide ((10000 : Int) < (nn : Int)) = true := by simp; omega
          go_wp2
          go_ret
          exact ⟨_, 0, rfl, by rw [HS.out]; exact HN.out⟩
      have HS : Hid (survO ts = survL ts) := by show _ = _; unfold survO; rw [if_neg hbig]
      have hd5 : decide ((512 : Int) < (ts.length : Int)) = false := by simp; omega
      have hd6 : decide ((10000 : Int) < ((numT ts : Nat) : Int)) = false := by simp; omega
      have hn4 : numT ts ≤ 10000 := by omega
      clear hch hbig
      go_wp2
      clear hd5 hd6
      go_loopw [5, 6, 7, 8] (fun o x _ _ wr2 => ∃ k : Nat, k ≤ ts.length ∧ x = .int .i64 k ∧ SvSt w wr2 o (survL (ts.take k)) (numT (ts.take k))) (fun _ x _ _ _ => ts.length - (RowKit.intOf x).toNat)
      case atStart => exact ⟨0, Nat.zero_le _, rfl, HN.out⟩
      case round =>
        obtain ⟨k, hk, rfl, hst⟩ := hrel
        obtain ⟨g, m, cp, rfl⟩ := hst.slice
        have HT : Hid (SvSt w wr (.slice (some ⟨g, 0, none⟩) m cp) (survL (ts.take k)) (numT (ts.take k))) := hst
        by_cases hlt : k < ts.length
        case neg =>
          obtain rfl : k = ts.length := by omega
          rw [List.take_length] at HT
          clear hst
          have hi' : ¬ ((ts.length : Int) < (ts.length : Int)) := by omega
          go_wp2
          go_ret
          have HTf : SvSt w wr (.slice (some ⟨g, 0, none⟩) m cp) (survO ts) (numT ts) := by rw [HS.out]; exact HT.out
          first | exact ⟨_, _, rfl, HTf⟩ | exact ⟨_, HTf⟩ | exact ⟨_, rfl, _, HTf⟩
        have hi' : (k : Int) < (ts.length : Int) := by omega
        obtain ⟨hv, rv, _, c1, c2, p1, v1⟩ := H1.out k hlt
        have C1 : Hid (w.cell? ⟨b, off + k * 3 + 1, none⟩ = some hv) := c1
        have C2 : Hid (w.cell? ⟨b, off + k * 3 + 2, none⟩ = some rv) := c2
        have HU : Hid (survL (ts.take (k + 1)) = (ts.getD k Tx.none).homes.foldl wiL ((ts.getD k Tx.none).revs.foldl woL (survL (ts.take k)))) := survL_succ ts k hlt
        have HM : Hid (numT (ts.take (k + 1)) = numT (ts.take k) + ((ts.getD k Tx.none).homes.length + (ts.getD k Tx.none).revs.length)) := numT_succ ts k hlt
        have hb1 : numT (ts.take k) + ((ts.getD k Tx.none).homes.length + (ts.getD k Tx.none).revs.length) ≤ 10000 := by have := numT_le ts (k + 1); rw [HM.out] at this; omega
        have hcd : cnt (ts.getD k Tx.none).homes ≤ 1048576 := by have := cntT_le hlt; unfold cntT at this; omega
        generalize (ts.getD k Tx.none).homes = hs at *
        generalize (ts.getD k Tx.none).revs = rs at *
        have HP : Hid (PView w lo hi hv hs) := p1
        have HV : Hid (View w lo hi .i64 rv rs) := v1
        obtain ⟨va, vc, rfl, _, _, v1⟩ := v1
        obtain ⟨pa, pc, rfl, _, _, p1⟩ := p1
        obtain ⟨S0, HS0⟩ : ∃ l, Hid (survL (ts.take k) = l) := ⟨_, rfl⟩
        obtain ⟨nn, HNN⟩ : ∃ n, Hid (numT (ts.take k) = n) := ⟨_, rfl⟩
        rw [HS0.out] at HT HU
        rw [HNN.out] at HT HM hb1
        clear hst c1 c2
        go_wp2
        go_loopw [5, 7] (fun o x wr3 => ∃ j : Nat, j ≤ rs.length ∧ x = .int .i64 j ∧ SvSt w wr3 o ((rs.take j).foldl woL S0) nn) (fun _ x _ => rs.length - (RowKit.intOf x).toNat)
        case atStart => exact ⟨0, Nat.zero_le _, rfl, HT.out⟩
        case round =>
          obtain ⟨j, hj, rfl, hst⟩ := hrel
          obtain ⟨g2, m2, cp2, rfl⟩ := hst.slice
          have HT2 : Hid (SvSt w wr (.slice (some ⟨g2, 0, none⟩) m2 cp2) ((rs.take j).foldl woL S0) nn) := hst
          have hch := hst.from
          have c1 := hch.cell C1.out (by omega)
          have c2 := hch.cell C2.out (by omega)
          by_cases hlt2 : j < rs.length
          · have hj' : (j : Int) < (rs.length : Int) := by omega
            obtain ⟨vb, vo, rfl, _, _, vce⟩ := v1.resolve_left (fun h => by rw [h] at hlt2; exact absurd hlt2 (Nat.not_lt_zero j))
            have c3 := hch.cell (vce j hlt2) (by omega)
            have HF : Hid ((rs.take (j + 1)).foldl woL S0 = woL ((rs.take j).foldl woL S0) (rs.getD j 0)) := fold_take woL S0 rs 0 j hlt2
            generalize rs.getD j 0 = bb at *
            have hW := l5Without_st bb HT2.out (by omega)
            clear hst hch vce
            go_wp2_with fail
            refine hW.mono ?_
            rintro e w5 ⟨v5, rfl, st5, _⟩
            have HT5 : Hid (SvSt w w5 v5 ((rs.take (j + 1)).foldl woL S0) nn) := by show SvSt _ _ _ _ _; rw [HF.out]; exact st5
            clear hW st5 HF c1 c2 c3
            go_wp2
            go_roundw
            case rel => exact ⟨j + 1, by omega, by go_num, HT5.out⟩
            case measure => simp [RowKit.intOf]; omega
          · obtain rfl : j = rs.length := by omega
            rw [List.take_length] at HT2
            have hj' : ¬ ((rs.length : Int) < (rs.length : Int)) := by omega
            clear hst hch
            go_wp2
            clear c1 c2
            go_loopw [5, 8] (fun o x wr3 => ∃ j : Nat, j ≤ hs.length ∧ x = .int .i64 j ∧ SvSt w wr3 o ((hs.take j).foldl wiL (rs.foldl woL S0)) (nn + j)) (fun _ x _ => hs.length - (RowKit.intOf x).toNat)
            case atStart => exact ⟨0, Nat.zero_le _, rfl, HT2.out⟩
            case round =>
              obtain ⟨j, hj, rfl, hst⟩ := hrel
              obtain ⟨g3, m3, cp3, rfl⟩ := hst.slice
              have HT3 : Hid (SvSt w wr (.slice (some ⟨g3, 0, none⟩) m3 cp3) ((hs.take j).foldl wiL (rs.foldl woL S0)) (nn + j)) := hst
              have hch := hst.from
              have c1 := hch.cell C1.out (by omega)
              by_cases hlt3 : j < hs.length
              · have hj2 : (j : Int) < (hs.length : Int) := by omega
                obtain ⟨pb, po, rfl, _, _, pce⟩ := p1.resolve_left (fun h => by rw [h] at hlt3; exact absurd hlt3 (Nat.not_lt_zero j))
                obtain ⟨dv, d0, d1, dvw⟩ := pce j hlt3
                replace d0 := hch.cell d0 (by omega)
                replace d1 := hch.cell d1 (by omega)
                have HF : Hid ((hs.take (j + 1)).foldl wiL (rs.foldl woL S0) = wiL ((hs.take j).foldl wiL (rs.foldl woL S0)) (hs.getD j (0, []))) := fold_take wiL _ hs (0, []) j hlt3
                have hxl : (hs.getD j (0, [])).2.length ≤ 1048576 := by have := cnt_dataS hlt3; omega
                generalize hs.getD j (0, []) = p at *
                obtain ⟨q, xs⟩ := p
                simp only at d0 d1 dvw hxl HF
                have VX := dvw.chg hch (by omega)
                obtain ⟨da, dc, rfl, _⟩ := dvw
                have hW := l5With_st q HT3.out (by omega) hxl VX
                clear hst hch pce VX
                go_wp2_with fail
                refine hW.mono ?_
                rintro e w5 ⟨v5, rfl, st5, _⟩
                have HT5 : Hid (SvSt w w5 v5 ((hs.take (j + 1)).foldl wiL (rs.foldl woL S0)) (nn + (j + 1))) := by show SvSt _ _ _ _ _; rw [HF.out]; exact st5
                clear hW st5 HF c1 d0 d1
                go_wp2
                go_roundw
                case rel => exact ⟨j + 1, by omega, by go_num, HT5.out⟩
                case measure => simp [RowKit.intOf]; omega
              · obtain rfl : j = hs.length := by omega
                rw [List.take_length] at HT3
                have hj2 : ¬ ((hs.length : Int) < (hs.length : Int)) := by omega
                have HT6 : Hid (SvSt w wr (.slice (some ⟨g3, 0, none⟩) m3 cp3) (survL (ts.take (k + 1))) (numT (ts.take (k + 1)))) := by show SvSt _ _ _ _ _; rw [HU.out, HM.out]; exact HT3.out.more (by omega)
                clear hst hch
                go_wp2
                go_roundw
                case rel => exact ⟨k + 1, by omega, by go_num, HT6.out⟩
                case measure => simp [RowKit.intOf]; omega

theorem specSurv_none (w : World) (ao : Option Addr) (cap : Nat) :
    Calls Try.prog 5 #[.slice ao 0 cap] w fun e w' => ∃ v n, e = .returned v ∧ SvSt w w' v (survO []) n := by
  have HN : Hid (SvSt w (w.alloc (.cells #[] 44)) (.slice (some ⟨w.heap.size, 0, none⟩) 0 0) [] 0) := SvSt.new (Chg.refl 0 0 w)
  have HS : Hid (survO [] = []) := rfl
  go_enter Try.func5, Try.ntmps5
  go_wp2
  go_loopw [3, 4] (fun n x wr => n = .int .i64 0 ∧ x = .int .i64 0 ∧ wr = w) (fun _ _ _ => 0)
  case atStart => exact ⟨rfl, rfl, rfl⟩
  case round =>
    obtain ⟨rfl, rfl, rfl⟩ := hrel
    go_wp2
    go_loopw [5, 6, 7, 8] (fun o x _ _ wr2 => x = .int .i64 0 ∧ o = .slice (some ⟨wr.heap.size, 0, none⟩) 0 0 ∧ wr2 = wr.alloc (.cells #[] 44)) (fun _ _ _ _ _ => 0)
    case atStart => exact ⟨rfl, rfl, rfl⟩
    case round =>
      obtain ⟨rfl, rfl, rfl⟩ := hrel
      go_wp2
      go_ret
      first | exact ⟨_, _, rfl, HN.out⟩ | exact ⟨_, HN.out⟩

/-- Survivors of the model. -/
theorem specSurv_calls (w : World) {lo hi : Nat} {a : Value} {ts : List Tx} (hl : cntTS ts ≤ 1048576) (h1 : TSView w lo hi a ts) :
    Calls Try.prog 5 #[a] w fun e w' => ∃ v n, e = .returned v ∧ SvSt w w' v (survO ts) n := by
  obtain ⟨ao, cap, rfl, _, _, h1⟩ := h1
  have := cntTS_ge ts
  rcases h1 with rfl | ⟨b, off, rfl, _, _, h1⟩
  · exact specSurv_none w ao cap
  · exact specSurv_some w ts lo hi b off cap hl (by omega) h1

end Go.Proofs.Ytmfcaiadcmgjbaa
