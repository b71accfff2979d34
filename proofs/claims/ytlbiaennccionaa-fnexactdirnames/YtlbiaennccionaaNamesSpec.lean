/- DirNames of the model. -/
import Derived.Test.YtlbiaennccionaaSortSpec
namespace Go.Proofs.Ytlbiaennccionaa
open Go.RowKit

def nms (ts : List Ent) (k : Nat) : List ByteArray := (ts.take k).map (·.2)
theorem nms_len (ts : List Ent) {k : Nat} (h : k ≤ ts.length) : (nms ts k).length = k := by simp [nms]; omega
theorem nms_succ (ts : List Ent) {k : Nat} (h : k < ts.length) : nms ts (k + 1) = nms ts k ++ [(ts.getD k Ent.none).2] := by
  unfold nms
  rw [List.take_succ_eq_append_getElem h, List.map_append]
  simp [List.getD_eq_getElem?_getD, h]
def namesD (ts : List Ent) : List ByteArray := if 1000 < ts.length then [] else sortTo (nms ts ts.length) ts.length
theorem namesD_len (ts : List Ent) : (namesD ts).length ≤ ts.length := by
  unfold namesD
  split
  · simp
  · rw [sortTo_len]; exact Nat.le_refl _

set_option maxRecDepth 20000 in
set_option maxHeartbeats 1000000 in
theorem specNames_some (w : World) (ts : List Ent) (ao : Option Addr) (cap : Nat) (hl : ts.length ≤ 1000)
    (h1 : ts = [] ∨ ∃ b off, ao = some ⟨b, off, none⟩ ∧ ∀ i, i < ts.length → EAt w b (off + i * 2) (ts.getD i Ent.none)) :
    Calls Try.prog 5 #[.slice ao ts.length cap] w fun e w' => ∃ v, e = .returned v ∧ OwnS w' w.heap.size 9 v (sortTo (nms ts ts.length) ts.length) ∧ Chg 0 0 w w' := by
  have HO0 : Hid (OwnS (w.alloc (.cells #[] 9)) w.heap.size 9 (.slice (some ⟨w.heap.size, 0, none⟩) 0 0) (nms ts 0)) := OwnS.nil w _
  have C0 : Chg 0 0 w (w.alloc (.cells #[] 9)) := Chg.alloc (Chg.refl 0 0 w) _
  have e0 : ¬ (1000 : Int) < (ts.length : Int) := by omega
  go_enter Try.func5, Try.ntmps5
  go_wp2
  go_loopw [3, 4] (fun o x wr => ∃ (k g cp : Nat), k ≤ ts.length ∧ x = .int .i64 k ∧ o = .slice (some ⟨g, 0, none⟩) k cp ∧ OwnS wr w.heap.size 9 (.slice (some ⟨g, 0, none⟩) k cp) (nms ts k) ∧ Chg 0 0 w wr) (fun _ x _ => ts.length - (intOf x).toNat)
  case atStart => exact ⟨0, _, _, Nat.zero_le _, rfl, rfl, HO0.out, C0⟩
  case round =>
    obtain ⟨k, g, cp, hk, rfl, rfl, ho, hch⟩ := hrel
    have HC : Hid (Chg 0 0 w wr) := hch
    have HO : Hid (OwnS wr w.heap.size 9 (.slice (some ⟨g, 0, none⟩) k cp) (nms ts k)) := ho
    have Hnl : Hid ((nms ts k).length = k) := nms_len ts hk
    have sz := hch.size
    by_cases hlt : k < ts.length
    · obtain ⟨b, off, rfl, hce⟩ := h1.resolve_left (fun h => by rw [h] at hlt; exact absurd hlt (Nat.not_lt_zero k))
      have hi : (k : Int) < (ts.length : Int) := by omega
      have c1 := ((hce k hlt).chg hch (by omega)).2
      have HS : Hid (nms ts (k + 1) = nms ts k ++ [(ts.getD k Ent.none).2]) := nms_succ ts hlt
      generalize (ts.getD k Ent.none).2 = s at *
      have HOq : Hid (OwnS (wr.alloc (.cells #[.string s] 9)) w.heap.size 9 (.slice (some ⟨g, 0, none⟩) k cp) (nms ts k)) := HO.out.chg ((Chg.refl 0 0 wr).alloc _) (by intro g _; omega)
      have HCq : Hid (Chg 0 0 w (wr.alloc (.cells #[.string s] 9))) := HC.out.alloc _
      have HNW : Hid ((wr.alloc (.cells #[.string s] 9)).cell? ⟨wr.heap.size, 0, none⟩ = some (.string s)) := by
        have hh := heap_new wr (.cells #[.string s] 9)
        show _ = _
        simp only [World.cell?, hh]; rfl
      clear ho hch h1 hce
      go_wp2_with (at_builtin; refine wpList_app_text rfl (.tmp 16) (.tmp 22) rfl w.heap.size _ (nms ts k) rfl HOq.out wr.heap.size 1 s rfl HNW.out (by rw [Hnl.out]; omega) (by simp; omega) ?_)
      intro v' w5 g' cap' hv' ho5 hc5
      rw [Hnl.out] at hv'
      subst hv'
      have HO5 : Hid (OwnS w5 w.heap.size 9 (.slice (some ⟨g', 0, none⟩) (k + 1) cap') (nms ts (k + 1))) := by show OwnS _ _ _ _ _; rw [HS.out]; exact ho5
      have HC5 : Hid (Chg 0 0 w w5) := HCq.out.step hc5 (Or.inr (Or.inl (Nat.le_refl _)))
      clear ho5 hc5 HNW HOq HCq
      go_wp2
      go_roundw
      case rel => exact ⟨k + 1, g', cap', by omega, by go_num, rfl, HO5.out, HC5.out⟩
      case measure => simp [intOf]; omega
    · obtain rfl : k = ts.length := by omega
      have hN := l10Sorted_some wr (nms ts ts.length) g 0 cp (by rw [Hnl.out]; exact hl) (fun j hj => by rw [Nat.zero_add]; exact (ho.cell Hnl.out j (by rw [Hnl.out] at hj; exact hj)).1)
      rw [Hnl.out] at hN
      clear h1 ho hch
      go_wp2_with fail
      refine hN.mono ?_
      rintro e w5 ⟨v, rfl, o5, h5⟩
      have HO5 : Hid (OwnS w5 w.heap.size 9 v (sortTo (nms ts ts.length) ts.length)) := by
        obtain ⟨a1, a2⟩ := o5
        refine ⟨a1, ?_⟩
        rcases a2 with a2 | ⟨g', cap', cur, hv, hg', r⟩
        · exact Or.inl a2
        · exact Or.inr ⟨g', cap', cur, hv, by omega, r⟩
      have HC5 : Hid (Chg 0 0 w w5) := HC.out.trans h5
      obtain ⟨x0, x1, x2, rfl⟩ := row_slice o5
      clear o5 h5 hN
      go_wp2
      go_ret
      exact ⟨_, rfl, HO5.out, HC5.out⟩

set_option maxRecDepth 20000 in
set_option maxHeartbeats 400000 in
theorem specNames_long (w : World) (n : Nat) (ao : Option Addr) (cap : Nat) (hn : 1000 < n) (_hl : n ≤ 1048576) :
    Calls Try.prog 5 #[.slice ao n cap] w fun e w' => ∃ v, e = .returned v ∧ OwnS w' w.heap.size 9 v [] ∧ Chg 0 0 w w' := by
  have HO0 : Hid (OwnS (w.alloc (.cells #[] 9)) w.heap.size 9 (.slice (some ⟨w.heap.size, 0, none⟩) 0 0) []) := OwnS.nil w _
  have C0 : Hid (Chg 0 0 w (w.alloc (.cells #[] 9))) := Chg.alloc (Chg.refl 0 0 w) _
  have e0 : (1000 : Int) < (n : Int) := by omega
  go_enter Try.func5, Try.ntmps5
  go_wp2
  go_ret
  exact ⟨_, rfl, HO0.out, C0.out⟩

theorem specDirNames_calls (w : World) {lo hi : Nat} {a : Value} {ts : List Ent} (hl : ts.length ≤ 1048576) (h1 : EView w lo hi a ts) :
    Calls Try.prog 5 #[a] w fun e w' => ∃ v, e = .returned v ∧ OwnS w' w.heap.size 9 v (namesD ts) ∧ Chg 0 0 w w' := by
  obtain ⟨ao, cap, rfl, _, _, h1⟩ := h1
  by_cases hn : 1000 < ts.length
  · rw [show namesD ts = [] from by unfold namesD; rw [if_pos hn]]
    exact specNames_long w ts.length ao cap hn hl
  · rw [show namesD ts = sortTo (nms ts ts.length) ts.length from by unfold namesD; rw [if_neg hn]]
    refine specNames_some w ts ao cap (by omega) ?_
    rcases h1 with h1 | ⟨x, off, hao, _, _, h1⟩
    · exact Or.inl h1
    · exact Or.inr ⟨x, off, hao, h1⟩

end Go.Proofs.Ytlbiaennccionaa
