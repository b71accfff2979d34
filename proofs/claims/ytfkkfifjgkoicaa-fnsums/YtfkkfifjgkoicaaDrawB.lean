/- The model's draws: l1DrawBytes. -/
import Derived.Test.YtfkkfifjgkoicaaDraw
namespace Go.Proofs.Ytfkkfifjgkoicaa
open Go.RowKit

/-- The bytes that are drawn from a place on. -/
def drawB (code : List Int) (at' n : Nat) : List Int := (List.range n).map fun i => nxt code (at' + i) 256

theorem drawB_length (code : List Int) (at' n : Nat) : (drawB code at' n).length = n := by simp [drawB]
theorem drawB_succ (code : List Int) (at' n : Nat) : drawB code at' (n + 1) = drawB code at' n ++ [nxt code (at' + n) 256] := by simp [drawB, List.range_succ]
theorem drawB_byt (code : List Int) (at' n : Nat) : Byt (drawB code at' n) := by
  intro x hx
  simp only [drawB, List.mem_map] at hx
  obtain ⟨i, _, rfl⟩ := hx
  have := nxt_range code (at' + i) 256
  exact ⟨this.1, this.2 (by omega)⟩

theorem Try.infoU2 : (Try.prog.info? 5).map (fun i => (i.zero, i.size, i.bytes)) = some (some (.int .u8 0), 1, 1) := by kernel_rfl

set_option maxHeartbeats 1000000 in
theorem l1DrawBytes_calls (w : World) (p at' sz : Nat) {lo hi : Nat} {cv : Value} {code : List Int} (m : Nat) (hm : m ≤ 1048576) (hB : Byt code) (hcl : code.length ≤ 1048576) (hat : at' + m ≤ 1099511627776)
    (hs : SrcAt w p cv at' sz) (hc : View w lo hi .u8 cv code) (hp : p < lo ∨ hi ≤ p) :
    Calls Try.prog 15 #[.pointer (some ⟨p, 0, none⟩), .int .i64 m] w fun e w' => ∃ v, e = .returned v ∧ (∃ g cap, v = .slice (some ⟨g, 0, none⟩) m cap) ∧ OwnB w' w.heap.size 5 v (drawB code at' m) ∧ SrcAt w' p cv (at' + m) sz ∧ Chg p (p + 1) w w' := by
  obtain ⟨ti, hti, hz0, hz1, hz2⟩ := info_parts Try.infoU2
  have hps : p < w.heap.size := (Array.getElem?_eq_some_iff.1 hs).1
  have C0 : Chg p (p + 1) w (w.alloc (.cells #[] 5)) := Chg.alloc (Chg.refl p (p + 1) w) _
  have HS0 : Hid (SrcAt (w.alloc (.cells #[] 5)) p cv (at' + 0) sz) := hs.chg (Chg.alloc (Chg.refl 0 0 w) _) (by omega)
  have HO0 : Hid (OwnB (w.alloc (.cells #[] 5)) w.heap.size 5 (.slice (some ⟨w.heap.size, 0, none⟩) 0 0) (drawB code at' 0)) := by
    show OwnB _ _ _ _ _
    have := World.ownsRow_lit (base := w.heap.size) (e := 5) (size := 1) w #[] 0 (Nat.le_refl _) (by unfold maxLen; omega) rfl
    simpa [OwnB, drawB] using this
  have HC0 : Hid _ := C0
  clear C0 hs
  go_enter Try.func15, Try.ntmps15
  go_wp2
  go_loopw [5, 6] (fun out i wr => ∃ k : Nat, k ≤ m ∧ i = .int .i64 k ∧ (∃ g cap, out = .slice (some ⟨g, 0, none⟩) k cap) ∧ OwnB wr w.heap.size 5 out (drawB code at' k) ∧ SrcAt wr p cv (at' + k) sz ∧ Chg p (p + 1) w wr) (fun _ i _ => m - (intOf i).toNat)
  case atStart => exact ⟨0, Nat.zero_le _, rfl, ⟨_, _, rfl⟩, HO0.out, HS0.out, HC0.out⟩
  case round =>
    obtain ⟨k, hk, rfl, ⟨og, oc, rfl⟩, ho, hs, hch⟩ := hrel
    clear HO0 HS0 HC0
    by_cases hlt : k < m
    · have hi' : (k : Int) < (m : Int) := by omega
      have hcv := hc.chg hch (by omega)
      have hN := l1Next_calls wr p (at' + k) sz 256 (by omega) hB hcl (by omega) hs hcv hp
      have hr := nxt_range code (at' + k) 256
      have HD : Hid (drawB code at' (k + 1) = drawB code at' k ++ [nxt code (at' + k) 256]) := drawB_succ code at' k
      have HL : Hid ((drawB code at' k).length = k) := drawB_length code at' k
      generalize hx : nxt code (at' + k) 256 = x at *
      have HOW : Hid (OwnB wr w.heap.size 5 (.slice (some ⟨og, 0, none⟩) k oc) (drawB code at' k)) := ho
      have HCH : Hid (Chg p (p + 1) w wr) := hch
      clear ho hch hcv hs hx
      go_wp2_with fail
      refine hN.mono ?_
      rintro e w1 ⟨rfl, hs1, hc1⟩
      clear hN
      have hs1' : Hid (SrcAt w1 p cv (at' + k + 1) sz) := hs1
      have ho1 := HOW.out.chg hc1 (fun g hg => by have := HOW.out.lt g hg; omega)
      have HC1 : Hid (Chg p (p + 1) w w1) := HCH.out.trans hc1
      have sz1 := hc1.size
      have sz0 := HCH.out.size
      clear hs1 hc1 HOW HCH
      have ho2 := ho1.chg (Chg.alloc (Chg.refl 0 0 w1) (.cells #[.int .u8 x] 5)) (by intro g _; omega)
      have HO2 : Hid ((w1.alloc (.cells #[.int .u8 x] 5)).ownsRow w.heap.size 5 1 (.slice (some ⟨og, 0, none⟩) k oc) k ((drawB code at' k).map (Value.int .u8))) := by
        have := ho2; unfold OwnB at this; rw [HL.out] at this; exact this
      have hgb := fun g hg => (ho1.lt g hg).1
      have Hgb : Hid (∀ g, (Value.slice (some ⟨og, 0, none⟩) k oc).ownBlock = some g → w.heap.size ≤ g) := hgb
      have hnews : ∀ j u, [Value.int .u8 x][j]? = some u → (w1.alloc (.cells #[.int .u8 x] 5)).cell? ((⟨w1.heap.size, 0, none⟩ : Addr).add j) = some u := by
        intro j u hj
        have hj0 : j = 0 := by have := (List.getElem?_eq_some_iff.1 hj).1; simp at this; exact this
        subst hj0
        simp at hj
        subst hj
        simp [Addr.add]
      have HNW : Hid _ := hnews
      have bs : Hid (w.heap.size ≤ (w1.alloc (.cells #[.int .u8 x] 5)).heap.size) := by show _ ≤ _; simp; omega
      clear ho1 ho2 hgb hnews
      go_wp2_with (at_builtin; refine wpList_append_own _ rfl (.tmp 13) (.tmp 17) 22 rfl w.heap.size 5 ti (.int .u8 0) 1 1 Try.underlying22 hti hz0 hz1 hz2 rfl (by decide) _ k ((drawB code at' k).map (Value.int .u8)) rfl HO2.out ⟨w1.heap.size, 0, none⟩ 1 1 [.int .u8 x] rfl rfl HNW.out (by simp [Value.oneCell']) (by unfold maxLen; omega) (by omega) bs.out ?_)
      intro v' w3 hown hgrow hnn
      have HV : Hid (∃ g cap, v' = .slice (some ⟨g, 0, none⟩) (k + 1) cap) := by
        show ∃ g cap, _
        rcases hown.2 with ⟨e, h0⟩ | ⟨g', cap', cur, e, _⟩
        · omega
        · exact ⟨g', cap', e⟩
      have HO3 : Hid (OwnB w3 w.heap.size 5 v' (drawB code at' (k + 1))) := by
        show OwnB _ _ _ _ _
        unfold OwnB
        rw [drawB_length, HD.out, List.map_append]
        exact hown
      have G : Chg w.heap.size (w1.heap.size + 1) (w1.alloc (.cells #[.int .u8 x] 5)) w3 := Chg.ofGrown hgrow (fun g hg hlt => ⟨Hgb.out g hg, by simpa using hlt⟩)
      have HC3 : Hid (Chg p (p + 1) w w3) := (HC1.out.alloc _).step G (Or.inr (Or.inl (Nat.le_refl _)))
      have HS3 : Hid (SrcAt w3 p cv (at' + (k + 1)) sz) := (hs1'.out.chg (Chg.alloc (Chg.refl 0 0 w1) _) (by omega)).chg G (Or.inl hps)
      clear hown hgrow G HNW HO2 bs HC1 hnn
      go_wp2
      go_roundw
      case rel => exact ⟨k + 1, by omega, by go_num, HV.out, HO3.out, HS3.out, HC3.out⟩
      case measure => simp [intOf]; omega
    · obtain rfl : k = m := by omega
      have HO : Hid (OwnB wr w.heap.size 5 _ (drawB code at' k)) := ho
      have HS : Hid (SrcAt wr p cv (at' + k) sz) := hs
      clear ho hs
      go_wp2
      go_ret
      exact ⟨_, rfl, ⟨_, _, rfl⟩, HO.out, HS.out, hch⟩

end Go.Proofs.Ytfkkfifjgkoicaa
