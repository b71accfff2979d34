/- One write on the model's disk: l1Do. -/
import Derived.Test.YtplfehjaakkldaaSpecDo1
import Derived.Test.YtplfehjaakkldaaInv
namespace Go.Proofs.Ytplfehjaakkldaa
open Go.RowKit

/-- What each operation of l1Do's second test leaves: b the box of the disk, its two slices; a, yv, n the operation's block, bytes, and how many; c4, c5 the last two tests. -/
def doG (b : Nat) (dv pv yv : Value) (m blocks n : Nat) (a : Int) (c4 c5 : Bool) : Nat → Value → World → Prop
  | 0, v, _ => v = .pointer (some ⟨b + 1, 0, none⟩)
  | 1, v, _ => v = .int .i64 1
  | 4, v, _ => v = .pointer (some ⟨b, 1, none⟩)
  | 5, v, _ => v = pv
  | 6, v, _ => v = .int .i64 m
  | 10, v, _ | 15, v, _ => v = .pointer (some ⟨b + 1, 1, none⟩)
  | 11, v, _ | 16, v, _ => v = .int .i64 a
  | 17, v, _ => v = .agg #[dv, pv]
  | 18, v, _ => v = .int .i64 blocks
  | 19, v, _ | 20, v, _ | 21, v, _ => v = .bool c4
  | 22, v, _ => c4 = true ∨ v = .pointer (some ⟨b + 1, 2, none⟩)
  | 23, v, _ => c4 = true ∨ v = yv
  | 24, v, _ => c4 = true ∨ v = .int .i64 n
  | 25, v, _ => c4 = true ∨ v = .bool c5
  | 26, v, _ => v = .bool (c4 || c5)
  | _, v, _ => v = .bool false

theorem doG_mono (b : Nat) (dv pv yv : Value) (m blocks n : Nat) (a : Int) (c4 c5 : Bool) : ∀ i v w w', Chg 0 0 w w' → doG b dv pv yv m blocks n a c4 c5 i v w → doG b dv pv yv m blocks n a c4 c5 i v w' := by
  intro i v w w' _ h
  unfold doG at *
  split at h
  all_goals exact h

set_option maxRecDepth 20000 in
set_option maxHeartbeats 8000000 in
theorem l1Do_one (w : World) {lo hi blo bhi : Nat} {v : Value} {d : Dsk} (a : Int) (ys : List Int) (bo : Option Addr) (bcap : Nat) (h : OwnD w lo hi 55 5 v d) (hVal : Valid d)
    (hb : View w blo bhi .u8 (.slice bo ys.length bcap) ys) (hp600 : d.pend.length < 600) (ha : 0 ≤ a) (hhi : hi ≤ w.heap.size) :
    Calls Try.prog 67 #[v, .agg #[.int .i64 1, .int .i64 a, .slice bo ys.length bcap]] w fun e w' => DidD w w' lo (opD d (1, a, ys)) e := by
  obtain ⟨dvv, pvv, cells, dvs, od⟩ := h
  obtain rfl := od.agg
  have hdl : d.dur.length ≤ 1048576 := by have := hVal.2.2.1; have := hVal.1; omega
  obtain ⟨g, gcap, rfl⟩ := od.dur.slice_of (by have := hVal.2.1; omega)
  obtain ⟨po, pcap, rfl⟩ : ∃ po pcap, pvv = .slice po d.pend.length pcap := by
    rcases od.pend.row.2 with ⟨e, h0⟩ | ⟨g', cap', cur, e, _⟩
    · exact ⟨none, 0, by rw [e, h0]⟩
    · exact ⟨_, _, e⟩
  have hyl : ys.length ≤ 9223372036854775807 := by obtain ⟨_, _, _, h, _⟩ := hb; exact h
  obtain ⟨z1, z2, z3, z4⟩ := alloc3 w (.cells #[.slice (some ⟨g, 0, none⟩) d.dur.length gcap, .slice po d.pend.length pcap] 29) (.cells #[.int .i64 1, .int .i64 a, .slice bo ys.length bcap] 89) (.cells #[.slice none 0 0, .slice none 0 0] 29)
  have hA : Chg 0 0 w (((w.alloc (.cells #[.slice (some ⟨g, 0, none⟩) d.dur.length gcap, .slice po d.pend.length pcap] 29)).alloc (.cells #[.int .i64 1, .int .i64 a, .slice bo ys.length bcap] 89)).alloc (.cells #[.slice none 0 0, .slice none 0 0] 29)) := ((Chg.alloc (Chg.refl 0 0 w) _).alloc _).alloc _
  obtain ⟨nbk, hnbk⟩ : ∃ nbk, nbk = d.dur.length / 64 := ⟨_, rfl⟩
  have HNB : Hid (nbk = d.dur.length / 64) := hnbk
  obtain ⟨c4, h4⟩ : ∃ c4, c4 = decide (a ≥ (nbk : Int)) := ⟨_, rfl⟩
  obtain ⟨c5, h5⟩ : ∃ c5, c5 = ((ys.length : Int) != 64) := ⟨_, rfl⟩
  have H4 : Hid (c4 = decide (a ≥ (nbk : Int))) := h4
  have H5 : Hid (c5 = ((ys.length : Int) != 64)) := h5
  have HOD : Hid (OwnDx w lo hi 55 5 (.agg #[.slice (some ⟨g, 0, none⟩) d.dur.length gcap, .slice po d.pend.length pcap]) d (.slice (some ⟨g, 0, none⟩) d.dur.length gcap) (.slice po d.pend.length pcap) cells dvs) := od
  have HVB : Hid (View w blo bhi .u8 (.slice bo ys.length bcap) ys) := hb
  clear h4 h5 od hb hVal hnbk
  go_enter Try.func67, Try.ntmps67
  go_upto_region 8 with fail
  generalize ((w.alloc (.cells #[.slice (some ⟨g, 0, none⟩) d.dur.length gcap, .slice po d.pend.length pcap] 29)).alloc (.cells #[.int .i64 1, .int .i64 a, .slice bo ys.length bcap] 89)).alloc (.cells #[.slice none 0 0, .slice none 0 0] 29) = wd at *
  obtain ⟨x0, x1, _, _⟩ := two_cells z2
  obtain ⟨k0, k1, k2⟩ := three_cells' z3
  go_cut [72] (fun s72 wx => s72 = .bool (c4 || c5) ∧ Chg 0 0 wd wx)
  case first =>
    refine region_amid' 86 46 27 (doG w.heap.size (.slice (some ⟨g, 0, none⟩) d.dur.length gcap) (.slice po d.pend.length pcap) (.slice bo ys.length bcap) d.pend.length nbk ys.length a c4 c5) (by kernel_rfl) rfl (by kernel_rfl) rfl (by omega) ?step ?fin
    case step =>
      intro listed a' w5 h i hi
      obtain ⟨_, o, ho, hall⟩ := mem_ready.1 hi
      have mono := doG_mono w.heap.size (.slice (some ⟨g, 0, none⟩) d.dur.length gcap) (.slice po d.pend.length pcap) (.slice bo ys.length bcap) d.pend.length nbk ys.length a c4 c5
      have hi27 : i < 27 := (Array.getElem?_eq_some_iff.1 ho).1
      have e2 : a'.tmps.getD 2 undef = .pointer (some ⟨w.heap.size, 0, none⟩) := h.init 2 (by omega)
      have e3 : a'.tmps.getD 3 undef = .pointer (some ⟨w.heap.size + 1, 0, none⟩) := h.init 3 (by omega)
      have CR : Chg 0 0 w5 w5 := Chg.refl 0 0 w5
      rcases i with _ | _ | _ | _ | _ | _ | _ | _ | _ | _ | _ | _ | _ | _ | _ | _ | _ | _ | _ | _ | _ | _ | _ | _ | _ | _ | _ | i
      · obtain rfl := Option.some.inj (ho.symm.trans rfl)
        refine h.op mono (by omega) (by omega) rfl rfl rfl (wp_value (v := .pointer (some ⟨w.heap.size + 1, 0, none⟩)) (w' := w5) ?_ ⟨_, rfl, CR, rfl⟩)
        simp only [execOp, Act.eval]
        go_simp
      · obtain rfl := Option.some.inj (ho.symm.trans rfl)
        have g0 : a'.tmps.getD 46 undef = .pointer (some ⟨w.heap.size + 1, 0, none⟩) := h.got 0 (by omega) (dep_of hall 0 rfl)
        have kk := h.chg.cell k0 (by omega)
        refine h.op mono (by omega) (by omega) rfl rfl rfl (wp_value (v := .int .i64 1) (w' := w5) ?_ ⟨_, rfl, CR, rfl⟩)
        simp only [execOp, Act.eval]
        go_simp
      · obtain rfl := Option.some.inj (ho.symm.trans rfl)
        have g1 : a'.tmps.getD 47 undef = .int .i64 1 := h.got 1 (by omega) (dep_of hall 1 rfl)
        have hq : ((1 : Int) != 1) = false := rfl
        refine h.op mono (by omega) (by omega) rfl rfl rfl (wp_value (v := .bool false) (w' := w5) ?_ ⟨_, rfl, CR, rfl⟩)
        simp only [execOp, Act.eval]
        go_simp
      · obtain rfl := Option.some.inj (ho.symm.trans rfl)
        have g2 : a'.tmps.getD 48 undef = .bool false := h.got 2 (by omega) (dep_of hall 2 rfl)
        exact h.op mono (by omega) (by omega) rfl rfl rfl (wp_value (v := a'.tmps.getD 48 undef) rfl ⟨_, rfl, CR, g2⟩)
      · obtain rfl := Option.some.inj (ho.symm.trans rfl)
        have g3 : a'.tmps.getD 49 undef = .bool false := h.got 3 (by omega) (dep_of hall 3 rfl)
        have hw := h.at (s := 49) (by omega)
        rw [g3] at hw
        refine h.op mono (by omega) (by omega) rfl rfl (wanted_of (j := 3) (d := 49) rfl rfl hw) (wp_value (v := .pointer (some ⟨w.heap.size, 1, none⟩)) (w' := w5) ?_ ⟨_, rfl, CR, rfl⟩)
        simp only [execOp, Act.eval]
        go_simp
      · obtain rfl := Option.some.inj (ho.symm.trans rfl)
        have g4 : a'.tmps.getD 50 undef = .pointer (some ⟨w.heap.size, 1, none⟩) := h.got 4 (by omega) (dep_of hall 4 rfl)
        have g3 : a'.tmps.getD 49 undef = .bool false := h.got 3 (by omega) (dep_of hall 3 rfl)
        have hw := h.at (s := 49) (by omega)
        rw [g3] at hw
        have kk := h.chg.cell x1 (by omega)
        refine h.op mono (by omega) (by omega) rfl rfl (wanted_of (j := 3) (d := 49) rfl rfl hw) (wp_value (v := .slice po d.pend.length pcap) (w' := w5) ?_ ⟨_, rfl, CR, rfl⟩)
        simp only [execOp, Act.eval]
        go_simp
      · obtain rfl := Option.some.inj (ho.symm.trans rfl)
        have g5 : a'.tmps.getD 51 undef = .slice po d.pend.length pcap := h.got 5 (by omega) (dep_of hall 5 rfl)
        have g3 : a'.tmps.getD 49 undef = .bool false := h.got 3 (by omega) (dep_of hall 3 rfl)
        have hw := h.at (s := 49) (by omega)
        rw [g3] at hw
        refine h.op mono (by omega) (by omega) rfl rfl (wanted_of (j := 3) (d := 49) rfl rfl hw) (wp_value (v := .int .i64 d.pend.length) (w' := w5) ?_ ⟨_, rfl, CR, rfl⟩)
        simp only [execOp, Act.eval]
        go_simp
      · obtain rfl := Option.some.inj (ho.symm.trans rfl)
        have g6 : a'.tmps.getD 52 undef = .int .i64 d.pend.length := h.got 6 (by omega) (dep_of hall 6 rfl)
        have g3 : a'.tmps.getD 49 undef = .bool false := h.got 3 (by omega) (dep_of hall 3 rfl)
        have hw := h.at (s := 49) (by omega)
        rw [g3] at hw
        have hpl : ((d.pend.length : Int) == 600) = false := by simp only [beq_eq_false_iff_ne, ne_eq]; omega
        refine h.op mono (by omega) (by omega) rfl rfl (wanted_of (j := 3) (d := 49) rfl rfl hw) (wp_value (v := .bool false) (w' := w5) ?_ ⟨_, rfl, CR, rfl⟩)
        simp only [execOp, Act.eval]
        go_simp
      · obtain rfl := Option.some.inj (ho.symm.trans rfl)
        have g3 : a'.tmps.getD 49 undef = .bool false := h.got 3 (by omega) (dep_of hall 3 rfl)
        have g7 : a'.tmps.getD 53 undef = .bool false := h.got 7 (by omega) (dep_of hall 7 rfl)
        refine h.op mono (by omega) (by omega) rfl rfl rfl (wp_value (v := .bool false) (w' := w5) ?_ ⟨_, rfl, CR, rfl⟩)
        simp only [execOp, Act.eval]
        go_simp
      · obtain rfl := Option.some.inj (ho.symm.trans rfl)
        have g8 : a'.tmps.getD 54 undef = .bool false := h.got 8 (by omega) (dep_of hall 8 rfl)
        exact h.op mono (by omega) (by omega) rfl rfl rfl (wp_value (v := a'.tmps.getD 54 undef) rfl ⟨_, rfl, CR, g8⟩)
      · obtain rfl := Option.some.inj (ho.symm.trans rfl)
        have g9 : a'.tmps.getD 55 undef = .bool false := h.got 9 (by omega) (dep_of hall 9 rfl)
        have hw := h.at (s := 55) (by omega)
        rw [g9] at hw
        refine h.op mono (by omega) (by omega) rfl rfl (wanted_of (j := 9) (d := 55) rfl rfl hw) (wp_value (v := .pointer (some ⟨w.heap.size + 1, 1, none⟩)) (w' := w5) ?_ ⟨_, rfl, CR, rfl⟩)
        simp only [execOp, Act.eval]
        go_simp
      · obtain rfl := Option.some.inj (ho.symm.trans rfl)
        have g10 : a'.tmps.getD 56 undef = .pointer (some ⟨w.heap.size + 1, 1, none⟩) := h.got 10 (by omega) (dep_of hall 10 rfl)
        have g9 : a'.tmps.getD 55 undef = .bool false := h.got 9 (by omega) (dep_of hall 9 rfl)
        have hw := h.at (s := 55) (by omega)
        rw [g9] at hw
        have kk := h.chg.cell k1 (by omega)
        refine h.op mono (by omega) (by omega) rfl rfl (wanted_of (j := 9) (d := 55) rfl rfl hw) (wp_value (v := .int .i64 a) (w' := w5) ?_ ⟨_, rfl, CR, rfl⟩)
        simp only [execOp, Act.eval]
        go_simp
      · obtain rfl := Option.some.inj (ho.symm.trans rfl)
        have g11 : a'.tmps.getD 57 undef = .int .i64 a := h.got 11 (by omega) (dep_of hall 11 rfl)
        have g9 : a'.tmps.getD 55 undef = .bool false := h.got 9 (by omega) (dep_of hall 9 rfl)
        have hw := h.at (s := 55) (by omega)
        rw [g9] at hw
        have hna : ¬ a < 0 := by omega
        refine h.op mono (by omega) (by omega) rfl rfl (wanted_of (j := 9) (d := 55) rfl rfl hw) (wp_value (v := .bool false) (w' := w5) ?_ ⟨_, rfl, CR, rfl⟩)
        simp only [execOp, Act.eval]
        go_simp
      · obtain rfl := Option.some.inj (ho.symm.trans rfl)
        have g9 : a'.tmps.getD 55 undef = .bool false := h.got 9 (by omega) (dep_of hall 9 rfl)
        have g12 : a'.tmps.getD 58 undef = .bool false := h.got 12 (by omega) (dep_of hall 12 rfl)
        refine h.op mono (by omega) (by omega) rfl rfl rfl (wp_value (v := .bool false) (w' := w5) ?_ ⟨_, rfl, CR, rfl⟩)
        simp only [execOp, Act.eval]
        go_simp
      · obtain rfl := Option.some.inj (ho.symm.trans rfl)
        have g13 : a'.tmps.getD 59 undef = .bool false := h.got 13 (by omega) (dep_of hall 13 rfl)
        exact h.op mono (by omega) (by omega) rfl rfl rfl (wp_value (v := a'.tmps.getD 59 undef) rfl ⟨_, rfl, CR, g13⟩)
      · obtain rfl := Option.some.inj (ho.symm.trans rfl)
        have g14 : a'.tmps.getD 60 undef = .bool false := h.got 14 (by omega) (dep_of hall 14 rfl)
        have hw := h.at (s := 60) (by omega)
        rw [g14] at hw
        refine h.op mono (by omega) (by omega) rfl rfl (wanted_of (j := 14) (d := 60) rfl rfl hw) (wp_value (v := .pointer (some ⟨w.heap.size + 1, 1, none⟩)) (w' := w5) ?_ ⟨_, rfl, CR, rfl⟩)
        simp only [execOp, Act.eval]
        go_simp
      · obtain rfl := Option.some.inj (ho.symm.trans rfl)
        have g15 : a'.tmps.getD 61 undef = .pointer (some ⟨w.heap.size + 1, 1, none⟩) := h.got 15 (by omega) (dep_of hall 15 rfl)
        have g14 : a'.tmps.getD 60 undef = .bool false := h.got 14 (by omega) (dep_of hall 14 rfl)
        have hw := h.at (s := 60) (by omega)
        rw [g14] at hw
        have kk := h.chg.cell k1 (by omega)
        refine h.op mono (by omega) (by omega) rfl rfl (wanted_of (j := 14) (d := 60) rfl rfl hw) (wp_value (v := .int .i64 a) (w' := w5) ?_ ⟨_, rfl, CR, rfl⟩)
        simp only [execOp, Act.eval]
        go_simp
      · obtain rfl := Option.some.inj (ho.symm.trans rfl)
        have g14 : a'.tmps.getD 60 undef = .bool false := h.got 14 (by omega) (dep_of hall 14 rfl)
        have hw := h.at (s := 60) (by omega)
        rw [g14] at hw
        have kk := h.chg.cell x0 (by omega)
        have kk2 := h.chg.cell x1 (by omega)
        refine h.op mono (by omega) (by omega) rfl rfl (wanted_of (j := 14) (d := 60) rfl rfl hw) (wp_value (v := .agg #[.slice (some ⟨g, 0, none⟩) d.dur.length gcap, .slice po d.pend.length pcap]) (w' := w5) ?_ ⟨_, rfl, CR, rfl⟩)
        simp only [execOp, Act.eval]
        go_simp
      · obtain rfl := Option.some.inj (ho.symm.trans rfl)
        have g17 : a'.tmps.getD 63 undef = .agg #[.slice (some ⟨g, 0, none⟩) d.dur.length gcap, .slice po d.pend.length pcap] := h.got 17 (by omega) (dep_of hall 17 rfl)
        have g14 : a'.tmps.getD 60 undef = .bool false := h.got 14 (by omega) (dep_of hall 14 rfl)
        have hw := h.at (s := 60) (by omega)
        rw [g14] at hw
        refine h.op mono (by omega) (by omega) rfl rfl (wanted_of (j := 14) (d := 60) rfl rfl hw) (wp_call 46 #[.agg #[.slice (some ⟨g, 0, none⟩) d.dur.length gcap, .slice po d.pend.length pcap]] (by simp only [execOp, Act.eval]; go_simp) (l1Blocks_calls w5 (some ⟨g, 0, none⟩) d.dur.length gcap (.slice po d.pend.length pcap) (by omega)) ?_)
        rintro e w6 ⟨rfl, c6⟩
        exact ⟨_, rfl, _, rfl, c6, by rw [← HNB.out]; rfl⟩
      · obtain rfl := Option.some.inj (ho.symm.trans rfl)
        have g16 : a'.tmps.getD 62 undef = .int .i64 a := h.got 16 (by omega) (dep_of hall 16 rfl)
        have g18 : a'.tmps.getD 64 undef = .int .i64 (nbk : Int) := h.got 18 (by omega) (dep_of hall 18 rfl)
        have g14 : a'.tmps.getD 60 undef = .bool false := h.got 14 (by omega) (dep_of hall 14 rfl)
        have hw := h.at (s := 60) (by omega)
        rw [g14] at hw
        refine h.op mono (by omega) (by omega) rfl rfl (wanted_of (j := 14) (d := 60) rfl rfl hw) (wp_value (v := .bool c4) (w' := w5) ?_ ⟨_, rfl, CR, rfl⟩)
        rw [H4.out]
        by_cases hge : a ≥ (nbk : Int)
        · rw [decide_eq_true hge]
          simp only [execOp, Act.eval]
          go_simp
        · rw [decide_eq_false hge]
          simp only [execOp, Act.eval]
          go_simp
      · obtain rfl := Option.some.inj (ho.symm.trans rfl)
        have g14 : a'.tmps.getD 60 undef = .bool false := h.got 14 (by omega) (dep_of hall 14 rfl)
        have g19 : a'.tmps.getD 65 undef = .bool c4 := h.got 19 (by omega) (dep_of hall 19 rfl)
        refine h.op mono (by omega) (by omega) rfl rfl rfl (wp_value (v := .bool c4) (w' := w5) ?_ ⟨_, rfl, CR, rfl⟩)
        simp only [execOp, Act.eval]
        go_simp
      · obtain rfl := Option.some.inj (ho.symm.trans rfl)
        have g20 : a'.tmps.getD 66 undef = .bool c4 := h.got 20 (by omega) (dep_of hall 20 rfl)
        exact h.op mono (by omega) (by omega) rfl rfl rfl (wp_value (v := a'.tmps.getD 66 undef) rfl ⟨_, rfl, CR, g20⟩)
      · obtain rfl := Option.some.inj (ho.symm.trans rfl)
        have g21 : a'.tmps.getD 67 undef = .bool c4 := h.got 21 (by omega) (dep_of hall 21 rfl)
        have hw := h.at (s := 67) (by omega)
        rw [g21] at hw
        rcases Bool.eq_false_or_eq_true c4 with hc4 | hc4
        · rw [hc4] at hw
          exact h.skip mono (by omega) (by omega) rfl rfl (wanted_not (j := 21) (d := 67) rfl rfl hw) (Or.inl hc4)
        · rw [hc4] at hw
          refine h.op mono (by omega) (by omega) rfl rfl (wanted_of (j := 21) (d := 67) rfl rfl hw) (wp_value (v := .pointer (some ⟨w.heap.size + 1, 2, none⟩)) (w' := w5) ?_ ⟨_, rfl, CR, Or.inr rfl⟩)
          simp only [execOp, Act.eval]
          go_simp
      · obtain rfl := Option.some.inj (ho.symm.trans rfl)
        have g22 : c4 = true ∨ a'.tmps.getD 68 undef = .pointer (some ⟨w.heap.size + 1, 2, none⟩) := h.got 22 (by omega) (dep_of hall 22 rfl)
        have g21 : a'.tmps.getD 67 undef = .bool c4 := h.got 21 (by omega) (dep_of hall 21 rfl)
        have hw := h.at (s := 67) (by omega)
        rw [g21] at hw
        rcases Bool.eq_false_or_eq_true c4 with hc4 | hc4
        · rw [hc4] at hw
          exact h.skip mono (by omega) (by omega) rfl rfl (wanted_not (j := 21) (d := 67) rfl rfl hw) (Or.inl hc4)
        · rw [hc4] at hw
          have g22 := g22.resolve_left (by rw [hc4]; simp)
          have kk := h.chg.cell k2 (by omega)
          refine h.op mono (by omega) (by omega) rfl rfl (wanted_of (j := 21) (d := 67) rfl rfl hw) (wp_value (v := .slice bo ys.length bcap) (w' := w5) ?_ ⟨_, rfl, CR, Or.inr rfl⟩)
          simp only [execOp, Act.eval]
          go_simp
      · obtain rfl := Option.some.inj (ho.symm.trans rfl)
        have g23 : c4 = true ∨ a'.tmps.getD 69 undef = .slice bo ys.length bcap := h.got 23 (by omega) (dep_of hall 23 rfl)
        have g21 : a'.tmps.getD 67 undef = .bool c4 := h.got 21 (by omega) (dep_of hall 21 rfl)
        have hw := h.at (s := 67) (by omega)
        rw [g21] at hw
        rcases Bool.eq_false_or_eq_true c4 with hc4 | hc4
        · rw [hc4] at hw
          exact h.skip mono (by omega) (by omega) rfl rfl (wanted_not (j := 21) (d := 67) rfl rfl hw) (Or.inl hc4)
        · rw [hc4] at hw
          have g23 := g23.resolve_left (by rw [hc4]; simp)
          refine h.op mono (by omega) (by omega) rfl rfl (wanted_of (j := 21) (d := 67) rfl rfl hw) (wp_value (v := .int .i64 ys.length) (w' := w5) ?_ ⟨_, rfl, CR, Or.inr rfl⟩)
          simp only [execOp, Act.eval]
          go_simp
      · obtain rfl := Option.some.inj (ho.symm.trans rfl)
        have g24 : c4 = true ∨ a'.tmps.getD 70 undef = .int .i64 ys.length := h.got 24 (by omega) (dep_of hall 24 rfl)
        have g21 : a'.tmps.getD 67 undef = .bool c4 := h.got 21 (by omega) (dep_of hall 21 rfl)
        have hw := h.at (s := 67) (by omega)
        rw [g21] at hw
        rcases Bool.eq_false_or_eq_true c4 with hc4 | hc4
        · rw [hc4] at hw
          exact h.skip mono (by omega) (by omega) rfl rfl (wanted_not (j := 21) (d := 67) rfl rfl hw) (Or.inl hc4)
        · rw [hc4] at hw
          have g24 := g24.resolve_left (by rw [hc4]; simp)
          refine h.op mono (by omega) (by omega) rfl rfl (wanted_of (j := 21) (d := 67) rfl rfl hw) (wp_value (v := .bool c5) (w' := w5) ?_ ⟨_, rfl, CR, Or.inr rfl⟩)
          rw [H5.out]
          by_cases hne : ys.length = 64
          · have hb : ((ys.length : Int) != 64) = false := by rw [hne]; rfl
            rw [hb]
            simp only [execOp, Act.eval]
            go_simp
          · have hb : ((ys.length : Int) != 64) = true := by rw [bne_iff_ne]; omega
            rw [hb]
            simp only [execOp, Act.eval]
            go_simp
      · obtain rfl := Option.some.inj (ho.symm.trans rfl)
        have g21 : a'.tmps.getD 67 undef = .bool c4 := h.got 21 (by omega) (dep_of hall 21 rfl)
        have g25 : c4 = true ∨ a'.tmps.getD 71 undef = .bool c5 := h.got 25 (by omega) (dep_of hall 25 rfl)
        rcases Bool.eq_false_or_eq_true c4 with hc4 | hc4
        · rw [hc4] at g21
          refine h.op mono (by omega) (by omega) rfl rfl rfl (wp_value (v := .bool true) (w' := w5) ?_ ⟨_, rfl, CR, by show _ = _; rw [hc4]; rfl⟩)
          simp only [execOp, Act.eval]
          go_simp
        · have g25 := g25.resolve_left (by rw [hc4]; simp)
          rw [hc4] at g21
          refine h.op mono (by omega) (by omega) rfl rfl rfl (wp_value (v := .bool c5) (w' := w5) ?_ ⟨_, rfl, CR, by show _ = _; rw [hc4]; rfl⟩)
          simp only [execOp, Act.eval]
          go_simp
      · omega
    case fin =>
      intro vals w5 hlen hc5 hG
      obtain ⟨x0', x1', x2', x3', x4', x5', x6', x7', x8', x9', x10', x11', x12', x13', x14', x15', x16', x17', x18', x19', x20', x21', x22', x23', x24', x25', x26', rfl⟩ := len27 vals hlen
      have g72 : x26' = .bool (c4 || c5) := hG 26 (by omega)
      subst g72
      clear hG hlen
      simp only [List.take_succ_cons, List.take_zero, List.drop_succ_cons, List.drop_zero, List.cons_append, List.nil_append]
      go_wp2_with fail
      go_meet
      exact ⟨rfl, hc5⟩
  case rest =>
    obtain ⟨rfl, C5⟩ := hcut
    have B0 := (C5.block w.heap.size (by omega) (by omega)).trans z2
    have B2 := (C5.block (w.heap.size + 1 + 1) (by omega) (by omega)).trans z4
    have s5 := C5.size
    have x0 := C5.cell x0 (by omega)
    have x1 := C5.cell x1 (by omega)
    have k1 := C5.cell k1 (by omega)
    have k2 := C5.cell k2 (by omega)
    have CW := hA.trans C5
    by_cases hno : a ≥ (nbk : Int) ∨ ys.length ≠ 64
    · have HN : Hid (opD d (1, a, ys) = none) := by
        show _ = _
        refine opD_no (by simp) (fun h => ?_)
        obtain ⟨_, _, _, h4, h5⟩ := h
        rw [← HNB.out] at h4
        rcases hno with h | h
        · omega
        · exact h h5
      have hcc : (c4 || c5) = true := by
        rw [H4.out, H5.out]
        rcases hno with h | h
        · rw [decide_eq_true h]; rfl
        · have : ((ys.length : Int) != 64) = true := by rw [bne_iff_ne]; omega
          rw [this]; simp
      rw [hcc]
      obtain ⟨y0, y1, yf0, yf1⟩ := two_cells B2
      have hz : Chg 0 0 w ((wc.setCell ⟨w.heap.size + 1 + 1, 0, none⟩ (.slice (some ⟨g, 0, none⟩) d.dur.length gcap)).setCell ⟨w.heap.size + 1 + 1, 1, none⟩ (.slice po d.pend.length pcap)) := (CW.setCell (p := ⟨w.heap.size + 1 + 1, 0, none⟩) (Or.inr (by show w.heap.size ≤ w.heap.size + 1 + 1; omega)) _).setCell (p := ⟨w.heap.size + 1 + 1, 1, none⟩) (Or.inr (by show w.heap.size ≤ w.heap.size + 1 + 1; omega)) _
      have HK : Hid (Chg lo w.heap.size w ((wc.setCell ⟨w.heap.size + 1 + 1, 0, none⟩ (.slice (some ⟨g, 0, none⟩) d.dur.length gcap)).setCell ⟨w.heap.size + 1 + 1, 1, none⟩ (.slice po d.pend.length pcap)) ∧ Keep w ((wc.setCell ⟨w.heap.size + 1 + 1, 0, none⟩ (.slice (some ⟨g, 0, none⟩) d.dur.length gcap)).setCell ⟨w.heap.size + 1 + 1, 1, none⟩ (.slice po d.pend.length pcap))) := ⟨hz.into (base := lo) (Chg.refl _ _ _), fun k hk _ _ => hz.block k hk (by omega)⟩
      clear hz
      clear B2 B0 C5 CW hA z2 z3 z4 hno hcc
      go_wp2
      refine bodyPost_ret (v := .tuple #[.agg #[.slice (some ⟨g, 0, none⟩) d.dur.length gcap, .slice po d.pend.length pcap], .bool false]) (by simp [results, Try.results67, go_sem, y0, y1]) rfl ⟨_, false, rfl, ⟨_, _, _, _, _, _, rfl⟩, HK.out.1, HK.out.2, Or.inr ⟨rfl, HN.out⟩⟩
    · have k3 : a < (nbk : Int) := by omega
      have k4 : ys.length = 64 := by omega
      have HF : Hid (opD d (1, a, ys) = some ⟨d.dur, d.pend ++ [(a, ys)]⟩) := by
        show _ = _
        unfold opD; rw [if_pos rfl, if_pos ⟨hp600, ha, by rw [← HNB.out]; exact k3, k4⟩]
      have hcc : (c4 || c5) = false := by
        rw [H4.out, H5.out, decide_eq_false (by omega), k4]; rfl
      rw [hcc]
      have Hk4 : Hid (ys.length = 64) := k4
      have HD : Hid (OwnB wc lo 5 (.slice (some ⟨g, 0, none⟩) d.dur.length gcap) d.dur) := HOD.out.dur.chg CW (by intro g' _; omega)
      have HPx : Hid (OwnPx wc lo 55 5 (.slice po d.pend.length pcap) d.pend cells dvs) := HOD.out.pend.chg CW (by intro g' _; omega) (by intro i g' _ _; omega)
      have HB2 : Hid (wc.heap[w.heap.size]? = some (.cells #[.slice (some ⟨g, 0, none⟩) d.dur.length gcap, .slice po d.pend.length pcap] 29 (0, 0))) := B0
      have HB1 : Hid (wc.heap[w.heap.size + 1 + 1]? = some (.cells #[.slice none 0 0, .slice none 0 0] 29 (0, 0))) := B2
      have HCw : Hid (Chg 0 0 w wc) := CW
      have Hb0 : Hid (View wc blo bhi .u8 (.slice bo ys.length bcap) ys) := HVB.out.chg CW (by omega)
      have hlo1 : lo ≤ w.heap.size := by have := (HOD.out.dur.lt g rfl).1; have := HOD.out.hiD g rfl; omega
      have HS : Hid ((fun w' : World => w'.cell? ⟨w.heap.size, 1, none⟩ = some (.slice po d.pend.length pcap) ∧ w'.cell? ⟨w.heap.size + 1, 1, none⟩ = some (.int .i64 a) ∧ w'.cell? ⟨w.heap.size + 1, 2, none⟩ = some (.slice bo ys.length bcap)) wc.drew) := ⟨x1, k1, k2⟩
      clear B0 B2 C5 CW hA z2 z3 z4 hno hcc k4 k3 hyl HNB H4 H5 HVB x0 k0
      go_wp2
      refine weak_region 11 (fun w' : World => w'.cell? ⟨w.heap.size, 1, none⟩ = some (.slice po d.pend.length pcap) ∧ w'.cell? ⟨w.heap.size + 1, 1, none⟩ = some (.int .i64 a) ∧ w'.cell? ⟨w.heap.size + 1, 2, none⟩ = some (.slice bo ys.length bcap)) (by kernel_rfl) ?_
      refine weak_take 0 (.pointer (some ⟨w.heap.size, 1, none⟩)) rfl (by kernel_rfl) (by kernel_rfl) (by kernel_rfl) (by kernel_rfl) (fun _ _ _ h => h) (.inl ⟨by kernel_rfl, fun w' hw' => by go_simp⟩) HS.out ?_
      go_simp
      refine weak_take 1 (.slice po d.pend.length pcap) rfl (by kernel_rfl) (by kernel_rfl) (by kernel_rfl) (by kernel_rfl) (fun _ _ _ h => h) (.inl ⟨by kernel_rfl, fun w' hw' => by have h4 := hw'.1; go_simp⟩) HS.out ?_
      go_simp
      refine weak_take 2 (.pointer (some ⟨w.heap.size + 1, 1, none⟩)) rfl (by kernel_rfl) (by kernel_rfl) (by kernel_rfl) (by kernel_rfl) (fun _ _ _ h => h) (.inl ⟨by kernel_rfl, fun w' hw' => by go_simp⟩) HS.out ?_
      go_simp
      refine weak_take 3 (.int .i64 a) rfl (by kernel_rfl) (by kernel_rfl) (by kernel_rfl) (by kernel_rfl) (fun _ _ _ h => h) (.inl ⟨by kernel_rfl, fun w' hw' => by have h4 := hw'.2.1; go_simp⟩) HS.out ?_
      go_simp
      refine weak_take 4 (.pointer (some ⟨w.heap.size + 1, 2, none⟩)) rfl (by kernel_rfl) (by kernel_rfl) (by kernel_rfl) (by kernel_rfl) (fun _ _ _ h => h) (.inl ⟨by kernel_rfl, fun w' hw' => by go_simp⟩) HS.out ?_
      go_simp
      refine weak_take 5 (.slice bo ys.length bcap) rfl (by kernel_rfl) (by kernel_rfl) (by kernel_rfl) (by kernel_rfl) (fun _ _ _ h => h) (.inl ⟨by kernel_rfl, fun w' hw' => by have h4 := hw'.2.2; go_simp⟩) HS.out ?_
      go_simp
      refine weak_one 6 rfl rfl (by kernel_rfl) ?_
      have hds : wc.drew.heap.size = wc.heap.size := rfl
      refine wp_enter 48 #[.slice bo ys.length bcap] (by first | kernel_rfl | go_simp) (l1Copy_calls wc.drew (by rw [Hk4.out]; omega) (Hb0.out.chg (Chg.drew (Chg.refl 0 0 wc)) (by omega))) ?_
      rintro e w5 ⟨v5, rfl, ho5, hc5⟩
      obtain ⟨g5, cap5, rfl⟩ := ho5.slice_of (by rw [Hk4.out]; omega)
      refine ⟨_, rfl, ?_⟩
      have HS5 : Hid ((fun w' : World => w'.cell? ⟨w.heap.size, 1, none⟩ = some (.slice po d.pend.length pcap) ∧ w'.cell? ⟨w.heap.size + 1, 1, none⟩ = some (.int .i64 a) ∧ w'.cell? ⟨w.heap.size + 1, 2, none⟩ = some (.slice bo ys.length bcap)) w5) := ⟨hc5.cell HS.out.1 (by omega), hc5.cell HS.out.2.1 (by omega), hc5.cell HS.out.2.2 (by omega)⟩
      have HC5 : Hid (Chg 0 0 wc w5) := (Chg.drew (Chg.refl 0 0 wc)).trans hc5
      have s5b := hc5.size
      have g5b := ho5.lt g5 rfl
      rw [hds] at s5b g5b
      have HO5 : Hid (OwnB w5 lo 5 (.slice (some ⟨g5, 0, none⟩) ys.length cap5) ys) := ho5.base (fun g' hg' => by cases hg'; show lo ≤ g5; omega)
      clear HS ho5 hc5
      refine ⟨fun _ => HS5.out, ?_⟩
      go_simp
      refine weak_take 7 (.agg #[.int .i64 a, .slice (some ⟨g5, 0, none⟩) ys.length cap5]) rfl (by kernel_rfl) (by kernel_rfl) (by kernel_rfl) (by kernel_rfl) (fun _ _ _ h => h) (.inl ⟨by kernel_rfl, fun w' hw' => by go_simp⟩) HS5.out ?_
      go_simp
      obtain ⟨ic, hic, hcz0, hcz1, hcz2⟩ := info_parts Try.infoW'
      refine weak_one 8 rfl rfl (by kernel_rfl) ?_
      refine wp_buildSlice 27 55 1 #[(0, .tmp 81)] rfl #[.int .i64 a, .slice (some ⟨g5, 0, none⟩) ys.length cap5] ic _ Try.underlying27 hic hcz0 (by rw [hcz1]; decide) (by rw [hcz1]; decide) (by rw [hcz1, Array.toList_map]; refine fill_row 2 _ ?_ [.int .i64 a, .slice (some ⟨g5, 0, none⟩) ys.length cap5] rfl; simp) ?_
      have C6 : Chg 0 0 wc (w5.alloc (.cells #[.int .i64 a, .slice (some ⟨g5, 0, none⟩) ys.length cap5] 55)) := HC5.out.alloc _
      have C6' : Chg 0 0 w5 (w5.alloc (.cells #[.int .i64 a, .slice (some ⟨g5, 0, none⟩) ys.length cap5] 55)) := Chg.alloc (Chg.refl 0 0 w5) _
      have B6 := heap_new w5 (.cells #[.int .i64 a, .slice (some ⟨g5, 0, none⟩) ys.length cap5] 55)
      have s6 : (w5.alloc (.cells #[.int .i64 a, .slice (some ⟨g5, 0, none⟩) ys.length cap5] 55)).heap.size = w5.heap.size + 1 := by simp
      generalize w5.alloc (.cells #[.int .i64 a, .slice (some ⟨g5, 0, none⟩) ys.length cap5] 55) = w6 at *
      have HO6 := HO5.out.chg C6' (by intro g' _; omega)
      have S6 : (fun w' : World => w'.cell? ⟨w.heap.size, 1, none⟩ = some (.slice po d.pend.length pcap) ∧ w'.cell? ⟨w.heap.size + 1, 1, none⟩ = some (.int .i64 a) ∧ w'.cell? ⟨w.heap.size + 1, 2, none⟩ = some (.slice bo ys.length bcap)) w6 := ⟨C6'.cell HS5.out.1 (by omega), C6'.cell HS5.out.2.1 (by omega), C6'.cell HS5.out.2.2 (by omega)⟩
      refine ⟨fun _ => S6, ?_⟩
      go_simp
      have P6 := HPx.out.chg C6 (by intro g' _; omega) (by intro i g' _ _; omega)
      have D6 := HD.out.chg C6 (by intro g' _; omega)
      have Bx6 := (C6.block w.heap.size (by omega) (by omega)).trans HB2.out
      have R6 := (C6.block (w.heap.size + 1 + 1) (by omega) (by omega)).trans HB1.out
      have hnews : ∀ j u, ([.int .i64 a, .slice (some ⟨g5, 0, none⟩) ys.length cap5] : List Value)[j]? = some u → w6.cell? ((⟨w5.heap.size, 0, none⟩ : Addr).add j) = some u := by
        intro j u hj
        rw [Addr.add_mid, Nat.zero_add, cell_of_row w6 w5.heap.size j _ _ _ B6]
        simpa using hj
      refine weak_one 9 rfl rfl (by kernel_rfl) ?_
      refine wp_append_own w6 (.tmp 75) (.tmp 82) 27 rfl lo 55 ic _ 2 32 Try.underlying27 hic hcz0 hcz1 hcz2 rfl (by decide) _ _ cells rfl P6.row ⟨w5.heap.size, 0, none⟩ 1 1 [.int .i64 a, .slice (some ⟨g5, 0, none⟩) ys.length cap5] rfl rfl hnews (by simp [Value.oneCell']) (by unfold maxLen; omega) (by omega) (by omega) ?_
      intro v' w8 hown8 hgrow _
      obtain ⟨vo, vl, vc, rfl⟩ := row_slice hown8
      have s8 := hgrow.size
      have K8 : ∀ j, j < w6.heap.size → (Value.slice po d.pend.length pcap).ownBlock ≠ some j → w8.heap[j]? = w6.heap[j]? := fun j hj hne' => hgrow.block j hj (fun e => hne' e.symm)
      have hpB : ∀ j, (Value.slice po d.pend.length pcap).ownBlock = some j → lo ≤ j ∧ j < w.heap.size := fun j hj => ⟨(World.ownsRow.lt HPx.out.row j hj).1, by have := HOD.out.hiP j hj; omega⟩
      have hpE : ∀ j, (Value.slice po d.pend.length pcap).ownBlock = some j → ∃ cur, w6.heap[j]? = some (.cells cur 55 (0, 0)) := fun j hj => row_elem' P6.row hj
      have Bx8 : w8.heap[w.heap.size]? = _ := (K8 w.heap.size (by omega) (fun e => by have := hpB _ e; omega)).trans Bx6
      have R8 : w8.heap[w.heap.size + 1 + 1]? = _ := (K8 (w.heap.size + 1 + 1) (by omega) (fun e => by have := hpB _ e; omega)).trans R6
      have D8 : OwnB w8 lo 5 _ d.dur := D6.same (fun j hj => K8 j (D6.lt j hj).2 (fun e => by obtain ⟨cur, hcur⟩ := hpE _ e; obtain ⟨cur', hcur'⟩ := D6.elem hj; exact cells_ne hcur hcur' (by decide) rfl))
      have O8 : OwnB w8 lo 5 _ ys := HO6.same (fun j hj => K8 j (HO6.lt j hj).2 (fun e => by obtain ⟨cur, hcur⟩ := hpE _ e; obtain ⟨cur', hcur'⟩ := HO6.elem hj; exact cells_ne hcur hcur' (by decide) rfl))
      have X8 : ∀ i, i < d.pend.length → OwnB w8 lo 5 (dvs i) (d.pend.getD i (0, [])).2 := fun i hi => (P6.data i hi).same (fun j hj => K8 j ((P6.data i hi).lt j hj).2 (fun e => by obtain ⟨cur, hcur⟩ := hpE _ e; obtain ⟨cur', hcur'⟩ := (P6.data i hi).elem hj; exact cells_ne hcur hcur' (by decide) rfl))
      have C6w := HCw.out.trans C6
      have C8 : Chg lo w.heap.size w w8 := by
        refine ⟨hgrow.os.trans C6w.os, hgrow.tape.trans C6w.tape, hgrow.output.trans C6w.output, by omega, fun j hj hh => (K8 j (by omega) (fun e => ?_)).trans (C6w.block j hj (by omega))⟩
        have := hpB j e
        omega
      have e1 := (two_cells Bx8).2.1
      have ef1 := (two_cells Bx8).2.2.2
      have S8 : (fun w' : World => w'.cell? ⟨w.heap.size, 1, none⟩ = some (.slice po d.pend.length pcap) ∧ w'.cell? ⟨w.heap.size + 1, 1, none⟩ = some (.int .i64 a) ∧ w'.cell? ⟨w.heap.size + 1, 2, none⟩ = some (.slice bo ys.length bcap)) w8 := ⟨e1, (World.cell?_of_block (a := ⟨w.heap.size + 1, 1, none⟩) (K8 (w.heap.size + 1) (by omega) (fun e => by have := hpB _ e; omega))).trans S6.2.1, (World.cell?_of_block (a := ⟨w.heap.size + 1, 2, none⟩) (K8 (w.heap.size + 1) (by omega) (fun e => by have := hpB _ e; omega))).trans S6.2.2⟩
      refine ⟨fun _ => S8, ?_⟩
      have C9 : Chg w.heap.size (w.heap.size + 1) w8 (w8.setCell ⟨w.heap.size, 1, none⟩ (.slice vo vl vc)) := Chg.setCell (lo := w.heap.size) (hi := w.heap.size + 1) (Chg.refl _ _ _) (Or.inl ⟨Nat.le_refl _, Nat.lt_succ_self _⟩) _
      have B9 : (w8.setCell ⟨w.heap.size, 1, none⟩ (.slice vo vl vc)).heap[w.heap.size]? = some (.cells #[.slice (some ⟨g, 0, none⟩) d.dur.length gcap, .slice vo vl vc] 29 (0, 0)) := by
        have := heap_setCell_same w8 w.heap.size 1 _ _ (.slice vo vl vc) Bx8
        simpa using this
      have R9 := (C9.block (w.heap.size + 1 + 1) (by omega) (by omega)).trans R8
      have C10 : Chg (w.heap.size + 1 + 1) (w.heap.size + 1 + 1 + 1) (w8.setCell ⟨w.heap.size, 1, none⟩ (.slice vo vl vc)) (((w8.setCell ⟨w.heap.size, 1, none⟩ (.slice vo vl vc)).setCell ⟨w.heap.size + 1 + 1, 0, none⟩ (.slice (some ⟨g, 0, none⟩) d.dur.length gcap)).setCell ⟨w.heap.size + 1 + 1, 1, none⟩ (.slice vo vl vc)) := Chg.set2 _ _ _ _
      have HCf : Hid (Chg lo w.heap.size w (((w8.setCell ⟨w.heap.size, 1, none⟩ (.slice vo vl vc)).setCell ⟨w.heap.size + 1 + 1, 0, none⟩ (.slice (some ⟨g, 0, none⟩) d.dur.length gcap)).setCell ⟨w.heap.size + 1 + 1, 1, none⟩ (.slice vo vl vc))) := (C8.step C9 (by omega)).step C10 (by omega)
      have HKp : Hid (Keep w (((w8.setCell ⟨w.heap.size, 1, none⟩ (.slice vo vl vc)).setCell ⟨w.heap.size + 1 + 1, 0, none⟩ (.slice (some ⟨g, 0, none⟩) d.dur.length gcap)).setCell ⟨w.heap.size + 1 + 1, 1, none⟩ (.slice vo vl vc))) := by
        intro k hk _ h2
        have q0 : w8.heap[k]? = w.heap[k]? := (K8 k (by omega) (fun e => by obtain ⟨cur, hcur⟩ := row_elem' HOD.out.pend.row e; exact h2 cur hcur)).trans (C6w.block k hk (by omega))
        rw [C10.block k (by simp [World.setCell]; omega) (by omega), C9.block k (by omega) (by omega)]; exact q0
      have HSf : Hid ((((w8.setCell ⟨w.heap.size, 1, none⟩ (.slice vo vl vc)).setCell ⟨w.heap.size + 1 + 1, 0, none⟩ (.slice (some ⟨g, 0, none⟩) d.dur.length gcap)).setCell ⟨w.heap.size + 1 + 1, 1, none⟩ (.slice vo vl vc)).heap.size = w8.heap.size) := by show _ = _; simp [World.setCell]
      have nn : ∀ {v xs}, OwnB w8 lo 5 v xs → ∀ j, v.ownBlock = some j → j ≠ w.heap.size ∧ j ≠ w.heap.size + 1 + 1 := fun ho j hj => by
        obtain ⟨cur, hcur⟩ := ho.elem hj
        exact ⟨fun e => cells_ne hcur Bx8 (by decide) e, fun e => cells_ne hcur R8 (by decide) e⟩
      have mv : ∀ {v xs}, OwnB w8 lo 5 v xs → OwnB (((w8.setCell ⟨w.heap.size, 1, none⟩ (.slice vo vl vc)).setCell ⟨w.heap.size + 1 + 1, 0, none⟩ (.slice (some ⟨g, 0, none⟩) d.dur.length gcap)).setCell ⟨w.heap.size + 1 + 1, 1, none⟩ (.slice vo vl vc)) lo 5 v xs := fun ho =>
        (ho.chg C9 (fun j hj => by have := nn ho j hj; omega)).chg C10 (fun j hj => by have := nn ho j hj; omega)
      have nv : ∀ j, (Value.slice vo vl vc).ownBlock = some j → lo ≤ j ∧ j < w8.heap.size ∧ j ≠ w.heap.size ∧ j ≠ w.heap.size + 1 + 1 := fun j hj => by
        obtain ⟨cur, hcur⟩ := row_elem' hown8 hj
        exact ⟨(World.ownsRow.lt hown8 j hj).1, (World.ownsRow.lt hown8 j hj).2, fun e => cells_ne hcur Bx8 (by decide) e, fun e => cells_ne hcur R8 (by decide) e⟩
      have row9 : (((w8.setCell ⟨w.heap.size, 1, none⟩ (.slice vo vl vc)).setCell ⟨w.heap.size + 1 + 1, 0, none⟩ (.slice (some ⟨g, 0, none⟩) d.dur.length gcap)).setCell ⟨w.heap.size + 1 + 1, 1, none⟩ (.slice vo vl vc)).ownsRow lo 55 2 (.slice vo vl vc) (d.pend.length + 1) (cells ++ [.int .i64 a, .slice (some ⟨g5, 0, none⟩) ys.length cap5]) := by
        have q1 := ownsRow_setCell_other (a := ⟨w.heap.size, 1, none⟩) hown8 (fun e => (nv _ e).2.2.1 rfl) (.slice vo vl vc)
        have q2 := ownsRow_setCell_other (a := ⟨w.heap.size + 1 + 1, 0, none⟩) q1 (fun e => (nv _ e).2.2.2 rfl) (.slice (some ⟨g, 0, none⟩) d.dur.length gcap)
        exact ownsRow_setCell_other (a := ⟨w.heap.size + 1 + 1, 1, none⟩) q2 (fun e => (nv _ e).2.2.2 rfl) (.slice vo vl vc)
      have HO : Hid (OwnD (((w8.setCell ⟨w.heap.size, 1, none⟩ (.slice vo vl vc)).setCell ⟨w.heap.size + 1 + 1, 0, none⟩ (.slice (some ⟨g, 0, none⟩) d.dur.length gcap)).setCell ⟨w.heap.size + 1 + 1, 1, none⟩ (.slice vo vl vc)) lo w8.heap.size 55 5 (.agg #[.slice (some ⟨g, 0, none⟩) d.dur.length gcap, .slice vo vl vc]) ⟨d.dur, d.pend ++ [(a, ys)]⟩) := by
        have lt : ∀ i j, i < d.pend.length → (dvs i).ownBlock = some j → j < w.heap.size := fun i j hi' hj => by have := HOD.out.hiX i j hi' hj; omega
        have fr : ∀ i g', i < d.pend.length → (dvs i).ownBlock = some g' → (Value.slice (some ⟨g5, 0, none⟩) ys.length cap5).ownBlock ≠ some g' := by
          intro i g' hi' hg' e
          have := lt i g' hi' hg'
          have e2 : g5 = g' := by simpa [Value.ownBlock] using e
          omega
        have P10 := HPx.out.snoc a _ ys row9 (fun i hi' => mv (X8 i hi')) (mv O8) fr
        refine ⟨_, _, _, _, rfl, mv D8, P10, ?_, fun j hj => (D8.lt j hj).2, fun j hj => (nv j hj).2.1, ?_⟩
        · intro i j hi' hj
          simp only [List.length_append, List.length_cons, List.length_nil] at hi'
          by_cases e : i = d.pend.length
          · simp only [if_pos e]
            have := HOD.out.hiD j hj
            simp [Value.ownBlock]
            omega
          · simp only [if_neg e]
            exact HOD.out.apart i j (by omega) hj
        · intro i j hi' hj
          simp only [List.length_append, List.length_cons, List.length_nil] at hi'
          by_cases e : i = d.pend.length
          · simp only [if_pos e] at hj
            exact (O8.lt j hj).2
          · simp only [if_neg e] at hj
            have := lt i j (by omega) hj
            omega
      obtain ⟨y0, y1, yf0, yf1⟩ := two_cells R9
      obtain ⟨u0, u1, _, _⟩ := two_cells B9
      have hS8 : Hid ((fun w' : World => w'.cell? ⟨w.heap.size, 1, none⟩ = some (.slice po d.pend.length pcap) ∧ w'.cell? ⟨w.heap.size + 1, 1, none⟩ = some (.int .i64 a) ∧ w'.cell? ⟨w.heap.size + 1, 2, none⟩ = some (.slice bo ys.length bcap)) w8) := S8
      clear S6 S8 X8 O8 D8 R8 hpE hpB K8 hgrow hown8 hnews P6 D6 Bx6 R6 HO6 C6 C6' C6w C8 B6 Bx8 HO5 HC5 HS5 nn mv nv row9 R9 B9 C9 C10
      go_simp
      refine weak_one 10 rfl rfl (by kernel_rfl) ?_
      go_simp
      refine ⟨hS8.out.2, ?_⟩
      refine weak_one 11 rfl rfl (by kernel_rfl) ?_
      go_simp
      refine weak_done (by kernel_rfl) (NoPanic.normal ?_)
      generalize (w8.setCell ⟨w.heap.size, 1, none⟩ (.slice vo vl vc)) = w9 at *
      go_wp2
      refine bodyPost_ret (v := .tuple #[.agg #[.slice (some ⟨g, 0, none⟩) d.dur.length gcap, .slice vo vl vc], .bool true]) (by simp [results, Try.results67, go_sem, y0, y1]) rfl ⟨_, true, rfl, ⟨_, _, _, _, _, _, rfl⟩, HCf.out, HKp.out, Or.inl ⟨rfl, _, HF.out, ?_⟩⟩
      rw [HSf.out]; exact HO.out

end Go.Proofs.Ytplfehjaakkldaa
