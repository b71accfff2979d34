/- lwKeep of the laws. -/
import Derived.Test.YtplfehjaakkldaaLwAt
import Derived.Test.YtplfehjaakkldaaIntsP
import Derived.Deep.DeepCutAuto
import Derived.Laws.AppendOwnNone
namespace Go.Proofs.Ytplfehjaakkldaa
open Go.RowKit

set_option maxRecDepth 20000 in
set_option maxHeartbeats 2000000 in
theorem lwKeep_calls (w : World) (i : Nat) (hi : i ≤ 1000) {lo hi' : Nat} {a : Value} {ms : List Int} (hB : Byt ms) (h1 : View w lo hi' .u8 a ms) (hl : ms.length ≤ 1048576) :
    Calls Try.prog 35 #[a, .int .i64 i] w fun e w' => ∃ v ks, e = .returned v ∧ ks.length = 40 ∧ OwnI w' w.heap.size 2 v ks ∧ Chg 0 0 w w' := by
  obtain ⟨ti, hti, hz0, hz1, hz2⟩ := info_parts Try.infoI
  have C0 : Chg 0 0 w (w.alloc (.cells #[] 2)) := Chg.alloc (Chg.refl 0 0 w) _
  have HO0 : Hid (OwnI (w.alloc (.cells #[] 2)) w.heap.size 2 (.slice (some ⟨w.heap.size, 0, none⟩) 0 0) []) := by
    show OwnI _ _ _ _ _
    have := World.ownsRow_lit (base := w.heap.size) (e := 2) (size := 1) w #[] 0 (Nat.le_refl _) (by unfold maxLen; omega) rfl
    simpa [OwnI] using this
  have HV : Hid (View w lo hi' .u8 a ms) := h1
  obtain ⟨ao, cap, rfl, _, _, _⟩ := h1
  have hN := lwAt_calls (w.alloc (.cells #[] 2)) i 4 (by omega) (by omega) hB (HV.out.chg C0 (by omega)) hl
  have HB : Hid (Byt ms) := hB
  clear hB
  go_enter Try.func35, Try.ntmps35
  go_wp2_with fail
  refine hN.mono ?_
  rintro e w1 ⟨⟨ln, rfl, _, _⟩, hs1⟩
  clear hN
  have HO1 : Hid (OwnI w1 w.heap.size 2 (.slice (some ⟨w.heap.size, 0, none⟩) 0 0) []) := HO0.out.chg (hs1.chg 0 0) (by intro g _; omega)
  have HC1 : Hid (Chg 0 0 w w1) := C0.trans (hs1.chg 0 0)
  clear HO0 C0 hs1
  go_wp2
  go_loopw [5, 7, 8] (fun out i' s8 wr => ∃ k : Nat, k ≤ 40 ∧ i' = .int .i64 k ∧ (∃ g cap, out = .slice (some ⟨g, 0, none⟩) k cap) ∧ (∃ ks, ks.length = k ∧ OwnI wr w.heap.size 2 out ks) ∧ Chg 0 0 w wr) (fun _ i' _ _ => 40 - (intOf i').toNat)
  case atStart => exact ⟨0, Nat.zero_le _, rfl, ⟨_, _, rfl⟩, ⟨[], rfl, HO1.out⟩, HC1.out⟩
  case round =>
    obtain ⟨k, hk, rfl, ⟨og, oc, rfl⟩, ⟨ks, hkl, ho⟩, hch⟩ := hrel
    clear HO1 HC1
    have HO : Hid (ks.length = k ∧ OwnI wr w.heap.size 2 (.slice (some ⟨og, 0, none⟩) k oc) ks) := ⟨hkl, ho⟩
    have HCH : Hid (Chg 0 0 w wr) := hch
    by_cases hlt : k < 40
    · have hik : (k : Int) < 40 := by omega
      have hN := lwAt_calls wr (i + k) 2 (by omega) (by omega) HB.out (HV.out.chg hch (by omega)) hl
      have eik : (i : Int) + (k : Int) = ((i + k : Nat) : Int) := by omega
      have HE : Hid ((i : Int) + (k : Int) = ((i + k : Nat) : Int)) := eik
      generalize hik' : i + k = ik at *
      have Hik : Hid (i + k = ik) := hik'
      clear hkl ho hch hik'
      go_wp2_with fail
      refine hN.mono ?_
      rintro e w2 ⟨⟨r2, rfl, _, _⟩, hs2⟩
      clear hN
      have HO2 : Hid (OwnI w2 w.heap.size 2 (.slice (some ⟨og, 0, none⟩) k oc) ks) := HO.out.2.chg (hs2.chg 0 0) (by intro g _; omega)
      have HC2 : Hid (Chg 0 0 w w2) := HCH.out.trans (hs2.chg 0 0)
      clear HCH hs2
      have hl0 : ((ln : Int) == 0) = (ln == 0) := by
        by_cases h : ln = 0
        · subst h; rfl
        · rw [show (ln == 0) = false by simpa using h]; simp only [beq_eq_false_iff_ne, ne_eq]; omega
      have hl1 : ((ln : Int) == 1) = (ln == 1) := by
        by_cases h : ln = 1
        · subst h; rfl
        · rw [show (ln == 1) = false by simpa using h]; simp only [beq_eq_false_iff_ne, ne_eq]; omega
      generalize (ln == 0) = q0 at *
      generalize (ln == 1) = q1 at *
      have HL1 : Hid (((ln : Int) == 1) = q1) := hl1
      clear hl1
      go_upto_if 23 with fail
      go_cut [8] (fun s8 wx => (∃ x : Int, s8 = .int .i64 x) ∧ wx = w2)
      case first =>
        cases q0
        · go_wp2
          go_meet
          exact ⟨⟨_, rfl⟩, rfl⟩
        · go_wp2
          go_meet
          exact ⟨⟨_, rfl⟩, rfl⟩
      case rest =>
        obtain ⟨⟨x, rfl⟩, rfl⟩ := hcut
        clear hl0
        generalize wc = w2 at *
        have hl1 := HL1.out
        go_upto_region 9 with fail
        go_cut [33] (fun s33 wx => (∃ b : Bool, s33 = .bool b) ∧ Same w2 wx)
        case first =>
          cases q1
          · go_wp2
            go_meet
            exact ⟨⟨_, rfl⟩, Same.refl _⟩
          · have hN := lwAt_calls w2 ik 5 (by have := Hik.out; omega) (by omega) HB.out (HV.out.chg HC2.out (by omega)) hl
            go_wp2_with fail
            refine hN.mono ?_
            rintro e w3 ⟨⟨r3, rfl, _, _⟩, hs3⟩
            by_cases hr : (r3 : Int) > 0
            · go_wp2
              go_meet
              exact ⟨⟨_, rfl⟩, hs3⟩
            · go_wp2
              go_meet
              exact ⟨⟨_, rfl⟩, hs3⟩
        case rest =>
          obtain ⟨⟨b, rfl⟩, hs3⟩ := hcut
          generalize wc = w3 at *
          have HO3 : Hid (OwnI w3 w.heap.size 2 (.slice (some ⟨og, 0, none⟩) k oc) ks) := HO2.out.chg (hs3.chg 0 0) (by intro g _; omega)
          have HC3 : Hid (Chg 0 0 w w3) := HC2.out.trans (hs3.chg 0 0)
          clear HO2 HC2 hs3 hl1 HL1
          go_upto_if 33 with fail
          go_cut [8] (fun s8 wx => (∃ x : Int, s8 = .int .i64 x) ∧ wx = w3)
          case first =>
            cases b
            · go_wp2
              go_meet
              exact ⟨⟨_, rfl⟩, rfl⟩
            · go_wp2
              go_meet
              exact ⟨⟨_, rfl⟩, rfl⟩
          case rest =>
            obtain ⟨⟨y, rfl⟩, rfl⟩ := hcut
            generalize wc = w3 at *
            have sz0 := HC3.out.size
            have HO4 : Hid ((w3.alloc (.cells #[.int .i64 y] 2)).ownsRow w.heap.size 2 1 (.slice (some ⟨og, 0, none⟩) k oc) k (ks.map (Value.int .i64))) := by
              have := HO3.out.chg (Chg.alloc (Chg.refl 0 0 w3) (.cells #[.int .i64 y] 2)) (by intro g _; omega)
              unfold OwnI at this; rw [HO.out.1] at this; exact this
            have Hgb : Hid (∀ g, (Value.slice (some ⟨og, 0, none⟩) k oc).ownBlock = some g → w.heap.size ≤ g) := fun g hg => (HO3.out.lt g hg).1
            have HNW : Hid (∀ j u, [Value.int .i64 y][j]? = some u → (w3.alloc (.cells #[.int .i64 y] 2)).cell? ((⟨w3.heap.size, 0, none⟩ : Addr).add j) = some u) := by
              intro j u hj
              have hj0 : j = 0 := by have := (List.getElem?_eq_some_iff.1 hj).1; simp at this; exact this
              subst hj0
              simp at hj
              subst hj
              simp [Addr.add]
            have bs : Hid (w.heap.size ≤ (w3.alloc (.cells #[.int .i64 y] 2)).heap.size) := by show _ ≤ _; simp; omega
            go_wp2_with (at_builtin; refine wpList_append_own _ rfl (.tmp 34) (.tmp 36) 41 rfl w.heap.size 2 ti (.int .i64 0) 1 8 Try.underlying41 hti hz0 hz1 hz2 rfl (by decide) _ k (ks.map (Value.int .i64)) rfl HO4.out ⟨w3.heap.size, 0, none⟩ 1 1 [.int .i64 y] rfl rfl HNW.out (by simp [Value.oneCell']) (by unfold maxLen; omega) (by omega) bs.out ?_)
            intro v' w5 hown hgrow hnn
            have HV5 : Hid (∃ g cap, v' = .slice (some ⟨g, 0, none⟩) (k + 1) cap) := by
              show ∃ g cap, _
              rcases hown.2 with ⟨e, h0⟩ | ⟨g', cap', cur, e, _⟩
              · omega
              · exact ⟨g', cap', e⟩
            have HO5 : Hid (OwnI w5 w.heap.size 2 v' (ks ++ [y])) := by
              show OwnI _ _ _ _ _
              unfold OwnI
              rw [List.length_append, HO.out.1, List.map_append]
              exact hown
            have HL5 : Hid ((ks ++ [y]).length = k + 1) := by show _ = _; rw [List.length_append, HO.out.1]; rfl
            have G : Chg w.heap.size (w3.heap.size + 1) (w3.alloc (.cells #[.int .i64 y] 2)) w5 := Chg.ofGrown hgrow (fun g hg hlt => ⟨Hgb.out g hg, by simpa using hlt⟩)
            have HC5 : Hid (Chg 0 0 w w5) := (HC3.out.alloc _).step G (Or.inr (Or.inl (Nat.le_refl _)))
            clear hown hgrow G HNW HO4 bs hnn
            go_wp2
            go_roundw
            case rel => exact ⟨k + 1, by omega, by go_num, HV5.out, ⟨_, HL5.out, HO5.out⟩, HC5.out⟩
            case measure => simp [intOf]; omega
    · obtain rfl : k = 40 := by omega
      clear ho hch hkl
      go_wp2
      go_ret
      exact ⟨_, ks, rfl, HO.out.1, HO.out.2, HCH.out⟩

end Go.Proofs.Ytplfehjaakkldaa
