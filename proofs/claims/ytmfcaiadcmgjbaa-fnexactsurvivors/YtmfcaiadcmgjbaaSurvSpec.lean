/- What survives, in the model: l5Without, l5With. -/
import Derived.Test.YtmfcaiadcmgjbaaSurvRow
namespace Go.Proofs.Ytmfcaiadcmgjbaa
open Go.RowKit

set_option maxHeartbeats 4000000 in
theorem l5Without_calls (w : World) {lo g cp : Nat} {es : List Hv} (b : Int) (hl : es.length ≤ 90000) (h1 : OwnH w lo (.slice (some ⟨g, 0, none⟩) es.length cp) es) (hs : SeenH w lo es) :
    Calls Try.prog 14 #[.slice (some ⟨g, 0, none⟩) es.length cp, .int .i64 b] w fun e w' => ∃ g' cp', e = .returned (.slice (some ⟨g', 0, none⟩) (woL es b).length cp') ∧ OwnH w' w.heap.size (.slice (some ⟨g', 0, none⟩) (woL es b).length cp') (woL es b) ∧ Chg 0 0 w w' := by
  have HO0 : Hid (OwnH (w.alloc (.cells #[] 44)) w.heap.size (.slice (some ⟨w.heap.size, 0, none⟩) 0 0) []) := OwnH.nil w
  have C0 : Chg 0 0 w (w.alloc (.cells #[] 44)) := Chg.alloc (Chg.refl 0 0 w) _
  have H1 : Hid (OwnH w lo (.slice (some ⟨g, 0, none⟩) es.length cp) es) := h1
  have HS : Hid (SeenH w lo es) := hs
  have hgl := (h1.lt g rfl).2
  clear h1 hs
  go_enter Try.func14, Try.ntmps14
  go_wp2
  go_loopw [5, 6] (fun o x wr => ∃ (k g' cp' : Nat) (ps : List Hv), k ≤ es.length ∧ ps.length ≤ k ∧ x = .int .i64 k ∧ o = .slice (some ⟨g', 0, none⟩) ps.length cp' ∧ OwnH wr w.heap.size (.slice (some ⟨g', 0, none⟩) ps.length cp') ps ∧ Chg 0 0 w wr ∧ ps = woL (es.take k) b) (fun _ x _ => es.length - (RowKit.intOf x).toNat)
  case atStart => exact ⟨0, _, _, [], Nat.zero_le _, Nat.le_refl _, rfl, rfl, HO0.out, C0, rfl⟩
  case round =>
    obtain ⟨k, g', cp', ps, hk, hpk, rfl, rfl, ho, hch, hR⟩ := hrel
    have HC : Hid (Chg 0 0 w wr) := hch
    have HO : Hid (OwnH wr w.heap.size (.slice (some ⟨g', 0, none⟩) ps.length cp') ps) := ho
    have sz := hch.size
    by_cases hlt : k < es.length
    · have hi : (k : Int) < (es.length : Int) := by omega
      obtain ⟨c0, c1⟩ := (H1.out.chg hch (by omega)).cells k hlt
      obtain ⟨da, dl, dc, hd⟩ := row_slice (HS.out _ (List.getElem_mem hlt))
      have HN : Hid (woL (es.take (k + 1)) b = ps ++ (if es[k].1 = b then [] else [es[k]])) := by
        show _ = _
        rw [List.take_succ_eq_append_getElem hlt, woL_snoc, ← hR]
      obtain ⟨⟨q, dv, xs⟩, HE⟩ : ∃ e, es[k] = e := ⟨_, rfl⟩
      rw [HE] at c0 c1 hd HN
      clear HE
      simp only at c0 c1 hd HN
      subst hd
      have hgw : g < wr.heap.size := by omega
      clear ho hch hR
      by_cases hb : q = b
      · subst hb
        have HN2 : Hid (ps = woL (es.take (k + 1)) q) := by show _ = _; rw [HN.out, if_pos rfl, List.append_nil]
        clear HN
        go_wp2
        go_roundw
        case rel => exact ⟨k + 1, g', cp', ps, by omega, by omega, by go_num, rfl, HO.out, HC.out, HN2.out⟩
        case measure => simp [RowKit.intOf]; omega
      · have hbb : (q == b) = false := by simpa using hb
        have HN2 : Hid (ps ++ [(q, .slice da dl dc, xs)] = woL (es.take (k + 1)) b) := by show _ = _; rw [HN.out, if_neg hb]
        clear HN
        go_wp2_with (at_builtin; refine wpList_app_h1 xs rfl (.tmp 21) (.tmp 26) rfl w.heap.size _ ps rfl HO.out (by omega) rfl (by omega) ⟨_, _, _, rfl⟩ ?_)
        intro g5 cp5 w5 r5 ho5 hc5 _
        have HO5 : Hid (OwnH w5 w.heap.size (.slice (some ⟨g5, 0, none⟩) (ps.length + 1) cp5) (ps ++ [(q, .slice da dl dc, xs)])) := ho5
        have HC5 : Hid (Chg 0 0 w w5) := (HC.out.alloc _).step hc5 (Or.inr (Or.inl (Nat.le_refl _)))
        clear ho5 hc5
        go_wp2
        go_roundw
        case rel => exact ⟨k + 1, g5, cp5, ps ++ [(q, .slice da dl dc, xs)], by omega, by simp; omega, by go_num, by simp, by rw [List.length_append]; exact HO5.out, HC5.out, HN2.out⟩
        case measure => simp [RowKit.intOf]; omega
    · obtain rfl : k = es.length := by omega
      have Hn : Hid (ps = woL es b) := by show _ = _; rw [hR, List.take_length]
      clear ho hch hR
      go_wp2
      go_ret
      exact ⟨g', cp', by rw [← Hn.out]; rfl, by rw [← Hn.out]; exact HO.out, HC.out⟩

end Go.Proofs.Ytmfcaiadcmgjbaa
