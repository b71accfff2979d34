/- The law on blocks that are escaped and come back: its walk. -/
import Derived.Test.YtihiaodadbndaaaDoorEscMath
import Derived.Test.YtihiaodadbndaaaDoorDrawEsc
import Derived.Test.YtihiaodadbndaaaDoorLwSame
import Derived.Test.YtihiaodadbndaaaDoorAppOwn
import Derived.Test.YtihiaodadbndaaaDoorHeld
import Derived.Deep.DeepCutAuto
namespace Go.Proofs.YtihiaodadbndaaaDoor
open Go.RowKit

theorem OwnB.slice' {w : World} {base : Nat} {e : TypeId} {v : Value} {xs : List Int} (h : OwnB w base e v xs) : ∃ ao cap, v = .slice ao xs.length cap := by
  rcases h.2 with ⟨rfl, h0⟩ | ⟨g, cap, cur, rfl, _⟩
  · exact ⟨none, 0, by rw [h0]⟩
  · exact ⟨_, _, rfl⟩

theorem View.cellAt {w : World} {lo hi g n cap : Nat} {xs : List Int} (h : View w lo hi .u8 (.slice (some ⟨g, 0, none⟩) n cap) xs) (i : Nat) (hi : i < xs.length) : w.cell? ⟨g, i, none⟩ = some (.int .u8 (xs.getD i 0)) := by
  obtain ⟨_, _, e, _, _, h⟩ := h
  simp only [Value.slice.injEq] at e
  rcases h with h | ⟨b, off, ha, _, _, h3⟩
  · rw [h] at hi; simp at hi
  · rw [← e.1] at ha
    cases ha
    have := h3 i hi
    rwa [Nat.zero_add] at this

theorem bne_self' (b : Bool) : (b != b) = false := by cases b <;> rfl

set_option maxRecDepth 20000 in
set_option maxHeartbeats 4000000 in
theorem lawEscB_walk (w : World) {hi : Nat} {a : Value} {code : List Int} {aL aM aK : Addr} (hB : Byt code) (h1 : View w 0 hi .u8 a code) (hhi : hi ≤ w.heap.size) (hG : GlobA w aL aM aK) (hE : ErrT w) :
    Calls Tryd.prog 3 #[a] w fun e w' => e = .returned (.bool true) ∧ Below w.heap.size w w' := by
  have v0 := h1
  obtain ⟨ao, cap, rfl, hl0, _, _⟩ := h1
  have HG : Hid (GlobA w aL aM aK) := hG
  have HE : Hid (ErrT w) := hE
  clear hG hE
  by_cases hl : code.length ≤ 1048576
  case neg =>
    clear v0
    go_enter Tryd.func3, Tryd.ntmps3
    go_wp2
    go_ret
    exact ⟨rfl, (Chg.refl 0 0 w).below (by omega)⟩
  go_enter Tryd.func3, Tryd.ntmps3
  go_wp2_with fail
  refine (drawEscape_calls _ hB hl v0 hhi).mono ?_
  rintro e w1 ⟨_, rfl, ⟨g1, c1, hc1, rfl⟩, hBx, hlx, vx1, ch1⟩
  have s1 := ch1.size
  have hN := drawEscape_calls w1 hB hl (v0.chg ch1 (by omega)) (by omega)
  generalize drawEsc code = xs at *
  go_wp2_with fail
  refine hN.mono ?_
  rintro e w2 ⟨_, rfl, ⟨g2, c2, hc2, rfl⟩, _, _, vx2, ch2⟩
  clear hN
  have s2 := ch2.size
  have hC2 := ch1.trans ch2
  have vx := vx1.chg ch2 (by omega)
  have hN := implEscape_calls w2 vx2 hBx (HG.out.chg hC2)
  have hlG : xs.length = 63 ∨ xs.length = 64 := hlx
  clear vx1 vx2 ch1 ch2 hlx
  go_wp2_with fail
  refine hN.mono ?_
  rintro e w3 ⟨dv, rfl, od, ch3⟩
  clear hN
  have s3 := ch3.size
  have hC3 := hC2.trans ch3
  have vx := vx.chg ch3 (by omega)
  have vd := od.view (hi := w3.heap.size) (by have := escD_length xs; omega) (fun g hg => (od.lt g hg).2)
  obtain ⟨d0, dc, rfl⟩ := od.slice'
  clear ch3 hC2 od
  rcases hlG with hx | hx
  · have hg : escG xs = false := by unfold escG; rw [decide_eq_false (by omega)]
    have hd : escD xs = [] := by unfold escD; rw [if_neg (by omega)]
    have hC4 : Chg 0 0 w (w3.alloc (.cells #[.bool (escG xs), .slice d0 (escD xs).length dc, .bool (escE xs)] 25)) := hC3.alloc _
    have HC4 : Hid (Below w.heap.size w (w3.alloc (.cells #[.bool (escG xs), .slice d0 (escD xs).length dc, .bool (escE xs)] 25))) := hC4.below (by omega)
    rw [hg, hd] at HC4 ⊢
    have hne : ((xs.length : Int) != 64) = true := by simp; omega
    clear hC3 hC4 vx vd hx
    go_wp2
    go_ret
    exact ⟨rfl, HC4.out⟩
  have Hx : Hid (xs.length = 64) := hx
  have hg : escG xs = true := by unfold escG; rw [decide_eq_true hx]
  have hd : escD xs = escL xs := by unfold escD; rw [if_pos hx]
  have he : escE xs = decide (xs.take 4 = mg) := by unfold escE; rw [decide_eq_true hx]; rfl
  have hul := escL_length hx
  rw [hg, hd, he, hul, hx]
  rw [hd, hul] at vd
  rw [hx] at vx
  have ht := take_four hx
  have HT : Hid (xs.take 4 = [xs.getD 0 0, xs.getD 1 0, xs.getD 2 0, xs.getD 3 0]) := ht
  have BE := heap_new w3 (.cells #[.bool true, .slice d0 64 dc, .bool (decide (xs.take 4 = mg))] 25)
  have cE : Chg 0 0 w3 (w3.alloc (.cells #[.bool true, .slice d0 64 dc, .bool (decide (xs.take 4 = mg))] 25)) := Chg.alloc (Chg.refl 0 0 w3) _
  have sE : (w3.alloc (.cells #[.bool true, .slice d0 64 dc, .bool (decide (xs.take 4 = mg))] 25)).heap.size = w3.heap.size + 1 := by simp
  have hC4 := hC3.trans cE
  have HVX : Hid (View (w3.alloc (.cells #[.bool true, .slice d0 64 dc, .bool (decide (xs.take 4 = mg))] 25)) w.heap.size w1.heap.size .u8 (.slice (some ⟨g1, 0, none⟩) 64 c1) xs) := vx.chg cE (by omega)
  have HVD : Hid (View (w3.alloc (.cells #[.bool true, .slice d0 64 dc, .bool (decide (xs.take 4 = mg))] 25)) w2.heap.size w3.heap.size .u8 (.slice d0 64 dc) (escL xs)) := vd.chg cE (by omega)
  have HC4 : Hid (Chg 0 0 w (w3.alloc (.cells #[.bool true, .slice d0 64 dc, .bool (decide (xs.take 4 = mg))] 25))) := hC4
  have HBE : Hid ((w3.alloc (.cells #[.bool true, .slice d0 64 dc, .bool (decide (xs.take 4 = mg))] 25)).heap[w3.heap.size]? = some (.cells #[.bool true, .slice d0 64 dc, .bool (decide (xs.take 4 = mg))] 25 (0, 0))) := BE
  have HBx : Hid (Byt xs) := hBx
  have Hul : Hid ((escL xs).length = 64) := hul
  clear hg hd he ht hul hx vx vd hC3 BE cE hC4 hBx v0 hB
  generalize hbm : decide (xs.take 4 = mg) = bm at *
  have Hbm : Hid (decide (xs.take 4 = mg) = bm) := hbm
  clear hbm
  go_upto_region 7 with fail
  generalize w3.alloc (.cells #[.bool true, .slice d0 64 dc, .bool bm] 25) = w4 at *
  go_cut [5] (fun s5 wx => s5 = .bool bm ∧ wx = w4)
  case first =>
    have k0 := HVX.out.cellAt 0 (by rw [Hx.out]; omega)
    have k1 := HVX.out.cellAt 1 (by rw [Hx.out]; omega)
    have k2 := HVX.out.cellAt 2 (by rw [Hx.out]; omega)
    have k3 := HVX.out.cellAt 3 (by rw [Hx.out]; omega)
    have Hb : Hid (bm = (xs.getD 0 0 == 106 && (xs.getD 1 0 == 108 && (xs.getD 2 0 == 111 && xs.getD 3 0 == 103)))) := by
      show _ = _
      rw [← Hbm.out, HT.out, Bool.eq_iff_iff]; simp [mg]
    generalize xs.getD 0 0 = x0 at *
    generalize xs.getD 1 0 = x1 at *
    generalize xs.getD 2 0 = x2 at *
    generalize xs.getD 3 0 = x3 at *
    cases q0 : (x0 == 106)
    · have hb : bm = false := by rw [Hb.out, q0]; rfl
      go_wp2
      go_meet
      exact ⟨by rw [hb], rfl⟩
    cases q1 : (x1 == 108)
    · have hb : bm = false := by rw [Hb.out, q0, q1]; rfl
      go_wp2
      go_meet
      exact ⟨by rw [hb], rfl⟩
    cases q2 : (x2 == 111)
    · have hb : bm = false := by rw [Hb.out, q0, q1, q2]; rfl
      go_wp2
      go_meet
      exact ⟨by rw [hb], rfl⟩
    cases q3 : (x3 == 103)
    · have hb : bm = false := by rw [Hb.out, q0, q1, q2, q3]; rfl
      go_wp2
      go_meet
      exact ⟨by rw [hb], rfl⟩
    · have hb : bm = true := by rw [Hb.out, q0, q1, q2, q3]; rfl
      go_wp2
      go_meet
      exact ⟨by rw [hb], rfl⟩
  case rest =>
    obtain ⟨rfl, rfl⟩ := hcut
    generalize wc = w4 at *
    have hne := bne_self' bm
    obtain ⟨⟨r0, r1, r2⟩, _, _, _⟩ := three_all' HBE.out
    have hN := implKind_calls w4 HVD.out (escL_byt HBx.out) (HG.out.chg HC4.out).glob (HE.out.chg HC4.out (by omega))
    rw [escL_kind] at hN
    go_wp2_with fail
    refine hN.mono ?_
    rintro e w5 ⟨rfl, ch5⟩
    clear hN
    have s5 := ch5.size
    have HVX5 : Hid (View w5 w.heap.size w1.heap.size .u8 (.slice (some ⟨g1, 0, none⟩) 64 c1) xs) := HVX.out.chg ch5 (by omega)
    have HVD5 : Hid (View w5 w2.heap.size w3.heap.size .u8 (.slice d0 64 dc) (escL xs)) := HVD.out.chg ch5 (by omega)
    have HC5 : Hid (Chg 0 0 w w5) := HC4.out.trans ch5
    have HBE5 : Hid (w5.heap[w3.heap.size]? = some (.cells #[.bool true, .slice d0 64 dc, .bool bm] 25 (0, 0))) := (ch5.block w3.heap.size (by omega) (by omega)).trans HBE.out
    clear ch5 r0 r1 r2 HVX HVD HC4 HBE
    go_upto_region 10 with fail
    go_cut [6] (fun s6 wx => OwnB wx w5.heap.size 5 s6 xs ∧ Chg 0 0 w5 wx)
    case first =>
      obtain ⟨⟨r0, r1, r2⟩, _, _, _⟩ := three_all' HBE5.out
      have HS0 : Hid (w5.drew.cell? ⟨w3.heap.size, 1, none⟩ = some (.slice d0 64 dc) ∧ w5.drew.cell? ⟨w3.heap.size, 2, none⟩ = some (.bool bm)) := ⟨r1, r2⟩
      have HC0 : Hid (Chg 0 0 w5 w5.drew) := Chg.drew (Chg.refl 0 0 w5)
      have hds : w5.drew.heap.size = w5.heap.size := rfl
      clear r0 r1 r2
      refine held_region (fun w' : World => w'.cell? ⟨w3.heap.size, 1, none⟩ = some (.slice d0 64 dc) ∧ w'.cell? ⟨w3.heap.size, 2, none⟩ = some (.bool bm)) (by kernel_rfl) ?_
      refine held_take 1 (.pointer (some ⟨w3.heap.size, 1, none⟩)) rfl (by kernel_rfl) (by kernel_rfl) (by kernel_rfl) (fun _ _ _ h => h) (.inl ⟨by kernel_rfl, fun w' hw' => by have h4 := hw'.1; have h5 := hw'.2; go_simp⟩) HS0.out ?_
      go_simp
      refine held_take 2 (.slice d0 64 dc) rfl (by kernel_rfl) (by kernel_rfl) (by kernel_rfl) (fun _ _ _ h => h) (.inl ⟨by kernel_rfl, fun w' hw' => by have h4 := hw'.1; have h5 := hw'.2; go_simp⟩) HS0.out ?_
      go_simp
      refine held_take 4 (.pointer (some ⟨w3.heap.size, 2, none⟩)) rfl (by kernel_rfl) (by kernel_rfl) (by kernel_rfl) (fun _ _ _ h => h) (.inl ⟨by kernel_rfl, fun w' hw' => by have h4 := hw'.1; have h5 := hw'.2; go_simp⟩) HS0.out ?_
      go_simp
      refine held_take 5 (.bool bm) rfl (by kernel_rfl) (by kernel_rfl) (by kernel_rfl) (fun _ _ _ h => h) (.inl ⟨by kernel_rfl, fun w' hw' => by have h4 := hw'.1; have h5 := hw'.2; go_simp⟩) HS0.out ?_
      go_simp
      generalize w5.drew = w5d at *
      have HOn : Hid (OwnB (w5d.alloc (.cells #[] 5)) w5.heap.size 5 (.slice (some ⟨w5.heap.size, 0, none⟩) 0 0) []) := by
        show OwnB _ _ _ _ _
        have := World.ownsRow_lit (base := w5.heap.size) (e := 5) (size := 1) w5d #[] 0 (by omega) (by unfold maxLen; omega) rfl
        rw [hds] at this
        simpa [OwnB] using this
      have C6 : Chg 0 0 w5d (w5d.alloc (.cells #[] 5)) := Chg.alloc (Chg.refl 0 0 w5d) _
      have HC6 : Hid (Chg 0 0 w5 (w5d.alloc (.cells #[] 5))) := HC0.out.trans C6
      have HS6 : Hid ((w5d.alloc (.cells #[] 5)).cell? ⟨w3.heap.size, 1, none⟩ = some (.slice d0 64 dc) ∧ (w5d.alloc (.cells #[] 5)).cell? ⟨w3.heap.size, 2, none⟩ = some (.bool bm)) := ⟨C6.cell HS0.out.1 (by omega), C6.cell HS0.out.2 (by omega)⟩
      have s6 : (w5d.alloc (.cells #[] 5)).heap.size = w5d.heap.size + 1 := by simp
      clear C6
      refine held_one 0 rfl rfl (by kernel_rfl) ?_
      go_simp
      refine ⟨HS6.out, ?_⟩
      generalize w5d.alloc (.cells #[] 5) = w6 at *
      refine held_one 3 rfl rfl (by kernel_rfl) ?_
      refine wp_app_own (.tmp 72) (.tmp 74) rfl w5.heap.size rfl w5.heap.size HOn.out (by omega) _ _ _ (escL xs) rfl (HVD5.out.chg HC6.out (by omega)) (by rw [Hul.out]; omega) ?_
      rintro v7 w7 ho7 ⟨g7, cap7, rfl, hg7⟩ hc7
      have HC7 : Hid (Chg 0 0 w5 w7) := HC6.out.trans hc7
      have HS7 : Hid (w7.cell? ⟨w3.heap.size, 1, none⟩ = some (.slice d0 64 dc) ∧ w7.cell? ⟨w3.heap.size, 2, none⟩ = some (.bool bm)) := ⟨hc7.cell HS6.out.1 (by omega), hc7.cell HS6.out.2 (by omega)⟩
      have s7 := hc7.size
      refine ⟨HS7.out, ?_⟩
      rw [Hul.out] at ho7 ⊢
      have HV7 : Hid (View w7 w5.heap.size w7.heap.size .u8 (.slice (some ⟨g7, 0, none⟩) 64 cap7) (escL xs)) := ho7.view (by rw [Hul.out]; omega) (fun g hg => (ho7.lt g hg).2)
      clear ho7 hc7 hg7
      go_simp
      have hN := implUnescape_calls w7 bm HV7.out (escL_byt HBx.out) (HG.out.chg (HC5.out.trans HC7.out))
      rw [← Hbm.out, unesc_esc Hx.out, Hbm.out] at hN
      refine held_one 6 rfl rfl (by kernel_rfl) ?_
      refine wp_enter 7 #[.slice (some ⟨g7, 0, none⟩) 64 cap7, .bool bm] (by first | kernel_rfl | go_simp) hN ?_
      rintro e w8 ⟨v8, rfl, o8, hc8⟩
      have HC8 : Hid (Chg 0 0 w5 w8) := HC7.out.trans hc8
      have HS8 : Hid (w8.cell? ⟨w3.heap.size, 1, none⟩ = some (.slice d0 64 dc) ∧ w8.cell? ⟨w3.heap.size, 2, none⟩ = some (.bool bm)) := ⟨hc8.cell HS7.out.1 (by omega), hc8.cell HS7.out.2 (by omega)⟩
      have HO8 : Hid (OwnB w8 w5.heap.size 5 v8 xs) := o8.base (fun g hg => by have := (o8.lt g hg).1; omega)
      obtain ⟨e8, c8, rfl⟩ := o8.slice'
      refine ⟨_, rfl, HS8.out, ?_⟩
      clear o8 hc8 hN
      go_simp
      refine held_one 7 rfl rfl (by kernel_rfl) ?_
      go_simp
      refine ⟨HS8.out, ?_⟩
      refine held_done (by kernel_rfl) (NoPanic.normal ?_)
      go_wp2
      go_meet
      exact ⟨HO8.out, HC8.out⟩
    case rest =>
      obtain ⟨o6, ch6⟩ := hcut
      generalize wc = w6 at *
      have s6 := ch6.size
      have HV6 : Hid (View w6 w5.heap.size w6.heap.size .u8 u6 xs) := o6.view (by rw [Hx.out]; omega) (fun g hg => (o6.lt g hg).2)
      obtain ⟨e6, k6, rfl⟩ := o6.slice'
      have HC6 : Hid (Chg 0 0 w w6) := HC5.out.trans ch6
      have HVX6 : Hid (View w6 w.heap.size w1.heap.size .u8 (.slice (some ⟨g1, 0, none⟩) 64 c1) xs) := HVX5.out.chg ch6 (by omega)
      obtain ⟨bz, hbz⟩ : ∃ bz, bz = decide (xs.take 4 = [0, 0, 0, 0]) := ⟨_, rfl⟩
      have Hbz : Hid (bz = decide (xs.take 4 = [0, 0, 0, 0])) := hbz
      rw [Hx.out] at HV6 ⊢
      clear o6 ch6 HVX5 HVD5 HC5 HBE5 hbz
      go_upto_region 11 with fail
      go_cut [7] (fun s7 wx => s7 = .bool bz ∧ wx = w6)
      case first =>
        have k0 := HVX6.out.cellAt 0 (by rw [Hx.out]; omega)
        have k1 := HVX6.out.cellAt 1 (by rw [Hx.out]; omega)
        have k2 := HVX6.out.cellAt 2 (by rw [Hx.out]; omega)
        have k3 := HVX6.out.cellAt 3 (by rw [Hx.out]; omega)
        have Hb : Hid (bz = (xs.getD 0 0 == 0 && (xs.getD 1 0 == 0 && (xs.getD 2 0 == 0 && xs.getD 3 0 == 0)))) := by
          show _ = _
          rw [Hbz.out, HT.out, Bool.eq_iff_iff]; simp
        generalize xs.getD 0 0 = x0 at *
        generalize xs.getD 1 0 = x1 at *
        generalize xs.getD 2 0 = x2 at *
        generalize xs.getD 3 0 = x3 at *
        cases q0 : (x0 == 0)
        · have hb : bz = false := by rw [Hb.out, q0]; rfl
          go_wp2
          go_meet
          exact ⟨by rw [hb], rfl⟩
        cases q1 : (x1 == 0)
        · have hb : bz = false := by rw [Hb.out, q0, q1]; rfl
          go_wp2
          go_meet
          exact ⟨by rw [hb], rfl⟩
        cases q2 : (x2 == 0)
        · have hb : bz = false := by rw [Hb.out, q0, q1, q2]; rfl
          go_wp2
          go_meet
          exact ⟨by rw [hb], rfl⟩
        cases q3 : (x3 == 0)
        · have hb : bz = false := by rw [Hb.out, q0, q1, q2, q3]; rfl
          go_wp2
          go_meet
          exact ⟨by rw [hb], rfl⟩
        have hb : bz = true := by rw [Hb.out, q0, q1, q2, q3]; rfl
        go_wp2
        go_meet
        exact ⟨by rw [hb], rfl⟩
      case rest =>
        obtain ⟨rfl, rfl⟩ := hcut
        generalize wc = w6 at *
        have HOn : Hid (OwnB (w6.alloc (.cells #[] 5)) w6.heap.size 5 (.slice (some ⟨w6.heap.size, 0, none⟩) 0 0) []) := by
          show OwnB _ _ _ _ _
          have := World.ownsRow_lit (base := w6.heap.size) (e := 5) (size := 1) w6 #[] 0 (by omega) (by unfold maxLen; omega) rfl
          simpa [OwnB] using this
        have C7 : Chg 0 0 w6 (w6.alloc (.cells #[] 5)) := Chg.alloc (Chg.refl 0 0 w6) _
        have HC7 : Hid (Chg 0 0 w6 (w6.alloc (.cells #[] 5))) := C7
        have b7 : Hid (w6.heap.size ≤ (w6.alloc (.cells #[] 5)).heap.size) := C7.size
        have HVX7 : Hid (View (w6.alloc (.cells #[] 5)) w.heap.size w1.heap.size .u8 (.slice (some ⟨g1, 0, none⟩) 64 c1) xs) := HVX6.out.chg C7 (by omega)
        have Hlm : Hid (xs.length ≤ 1048576) := by show _ ≤ _; rw [Hx.out]; omega
        clear C7
        go_wp2_with (at_builtin; refine wpList_app_own rfl (.tmp 101) (.tmp 102) rfl w6.heap.size rfl w6.heap.size HOn.out b7.out _ _ _ xs rfl HVX7.out Hlm.out ?_)
        intro v8 w8 ho8 hg8 hc8
        obtain ⟨g8, ⟨k8, rfl⟩, _⟩ := hg8.out
        have HC8 : Hid (Chg 0 0 w6 w8) := HC7.out.trans hc8
        have HV8 : Hid (View w8 w6.heap.size w8.heap.size .u8 (.slice (some ⟨g8, 0, none⟩) xs.length k8) xs) := ho8.view (by rw [Hx.out]; omega) (fun g hg => (ho8.lt g hg).2)
        have s8 := HC8.out.size
        have hN := implUnescape_calls w8 (!bm) HV8.out HBx.out (HG.out.chg (HC6.out.trans HC8.out))
        have hul := unesc_other Hx.out
        rw [Hbm.out] at hul
        rw [Hx.out] at hN ⊢
        clear ho8 hg8 hc8
        go_wp2_with fail
        refine hN.mono ?_
        rintro e w9 ⟨v9, rfl, o9, hc9⟩
        obtain ⟨e9, k9, rfl⟩ := o9.slice'
        rw [hul]
        have HC9 : Hid (Chg 0 0 w6 w9) := HC8.out.trans hc9
        have hS := lwSameBytes_calls w9 (HV6.out.chg HC9.out (by omega)) (HVX6.out.chg HC9.out (by omega))
        clear hN o9 hc9 hul
        by_cases hz : xs.take 4 = [0, 0, 0, 0]
        · have hb : bz = true := by rw [Hbz.out, decide_eq_true hz]
          subst hb
          rw [if_pos hz]
          clear hz
          go_wp2_with fail
          refine hS.mono ?_
          rintro e w10 ⟨rfl, rfl⟩
          have HF : Hid (Below w.heap.size w w10) := (HC6.out.trans HC9.out).below (by omega)
          clear hS
          go_wp2
          go_ret
          exact ⟨rfl, HF.out⟩
        · have hb : bz = false := by rw [Hbz.out, decide_eq_false hz]
          subst hb
          rw [if_neg hz]
          clear hz
          go_wp2_with fail
          refine hS.mono ?_
          rintro e w10 ⟨rfl, rfl⟩
          have HF : Hid (Below w.heap.size w w10) := (HC6.out.trans HC9.out).below (by omega)
          clear hS
          go_wp2
          go_ret
          exact ⟨rfl, HF.out⟩

end Go.Proofs.YtihiaodadbndaaaDoor
