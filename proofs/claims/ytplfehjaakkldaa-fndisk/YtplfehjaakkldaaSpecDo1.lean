/- One operation on the model's disk: l1Do. -/
import Derived.Test.YtplfehjaakkldaaCopyDisk
import Derived.Test.YtplfehjaakkldaaImplDo
import Derived.Deep.DeepCutAuto
namespace Go.Proofs.Ytplfehjaakkldaa
open Go.RowKit

/-- What holds neither bytes nor writes is as it was. -/
def Keep (w w' : World) : Prop := ∀ k, k < w.heap.size → (∀ cur, w.heap[k]? ≠ some (.cells cur 5 (0, 0))) → (∀ cur, w.heap[k]? ≠ some (.cells cur 55 (0, 0))) → w'.heap[k]? = w.heap[k]?

/-- What l1Do leaves of a disk of one's own. -/
def DidD (w w' : World) (lo : Nat) (r : Option Dsk) (e : Ending) : Prop :=
  ∃ (v : Value) (b : Bool), e = .returned (.tuple #[v, .bool b]) ∧ (∃ a l c a' l' c', v = .agg #[.slice a l c, .slice a' l' c']) ∧ Chg lo w.heap.size w w' ∧ Keep w w' ∧
    ((b = true ∧ ∃ d', r = some d' ∧ OwnD w' lo w'.heap.size 55 5 v d') ∨ (b = false ∧ r = none))

set_option maxRecDepth 20000 in
set_option maxHeartbeats 4000000 in
theorem l1Do_flush (w : World) {lo hi : Nat} {v : Value} {d : Dsk} (bo : Option Addr) (bcap : Nat) (h : OwnD w lo hi 55 5 v d) (hVal : Valid d) :
    Calls Try.prog 67 #[v, .agg #[.int .i64 2, .int .i64 0, .slice bo 0 bcap]] w fun e w' => DidD w w' lo (some (setD (fun _ => true) d)) e := by
  obtain ⟨dvv, pvv, cells, dvs, od⟩ := h
  obtain rfl := od.agg
  have hm := hVal.2.2.2.1
  have hdl : d.dur.length ≤ 1048576 := by have := hVal.2.2.1; have := hVal.1; omega
  obtain ⟨g, gcap, rfl⟩ := od.dur.slice_of (by have := hVal.2.1; omega)
  obtain ⟨po, pcap, rfl⟩ : ∃ po pcap, pvv = .slice po d.pend.length pcap := by
    rcases od.pend.row.2 with ⟨e, h0⟩ | ⟨g', cap', cur, e, _⟩
    · exact ⟨none, 0, by rw [e, h0]⟩
    · exact ⟨_, _, e⟩
  have pv0 := od.pend.view (by omega) (fun i hi => by have := (hVal.2.2.2.2 i hi).2.2; omega) od.hiP od.hiX
  obtain ⟨z1, z2, z3, z4⟩ := alloc3 w (.cells #[.slice (some ⟨g, 0, none⟩) d.dur.length gcap, .slice po d.pend.length pcap] 29) (.cells #[.int .i64 2, .int .i64 0, .slice bo 0 bcap] 89) (.cells #[.slice none 0 0, .slice none 0 0] 29)
  have hA : Chg 0 0 w (((w.alloc (.cells #[.slice (some ⟨g, 0, none⟩) d.dur.length gcap, .slice po d.pend.length pcap] 29)).alloc (.cells #[.int .i64 2, .int .i64 0, .slice bo 0 bcap] 89)).alloc (.cells #[.slice none 0 0, .slice none 0 0] 29)) := ((Chg.alloc (Chg.refl 0 0 w) _).alloc _).alloc _
  have gb := od.dur.lt g rfl
  have hgh := od.hiD g rfl
  go_enter Try.func67, Try.ntmps67
  go_wp2
  generalize ((w.alloc (.cells #[.slice (some ⟨g, 0, none⟩) d.dur.length gcap, .slice po d.pend.length pcap] 29)).alloc (.cells #[.int .i64 2, .int .i64 0, .slice bo 0 bcap] 89)).alloc (.cells #[.slice none 0 0, .slice none 0 0] 29) = wd at *
  have HP : Hid (∀ k, k < d.pend.length → ∃ pb j dcap, po = some ⟨pb, 0, none⟩ ∧ pb ≠ g ∧ pb < w.heap.size ∧ j ≠ g ∧ wd.cell? ⟨pb, k * 2, none⟩ = some (.int .i64 (d.pend.getD k (0, [])).1) ∧ wd.cell? ⟨pb, k * 2 + 1, none⟩ = some (.slice (some ⟨j, 0, none⟩) (d.pend.getD k (0, [])).2.length dcap) ∧ View wd j (j + 1) .u8 (.slice (some ⟨j, 0, none⟩) (d.pend.getD k (0, [])).2.length dcap) (d.pend.getD k (0, [])).2) := by
    intro k hk
    have h64 := (hVal.2.2.2.2 k hk).2.2
    have hrow := od.pend.row
    rcases hrow.2 with ⟨e, h0⟩ | ⟨pb, cap', cur, e, hpb, hh, _⟩
    · omega
    · obtain rfl : po = some ⟨pb, 0, none⟩ := by injection e
      have hpg : pb ≠ g := by
        intro e2
        obtain ⟨cur', hcur'⟩ := od.dur.elem (g := g) rfl
        rw [e2] at hh
        exact cells_ne hh hcur' (by decide) rfl
      have c1 := World.ownsRow.cellAt hrow (k * 2) (by omega)
      rw [od.pend.at0 k hk] at c1
      have c2 := World.ownsRow.cellAt hrow (k * 2 + 1) (by omega)
      rw [od.pend.at1 k hk] at c2
      obtain ⟨j, dcap, ej⟩ := (od.pend.data k hk).slice_of (by omega)
      have hjb : (dvs k).ownBlock = some j := by rw [ej]; rfl
      have hjg : j ≠ g := fun e2 => od.apart k g hk rfl (by rw [hjb, e2])
      have od1 := (od.pend.data k hk).chg hA (by intro g' _; omega)
      rw [ej] at od1 c2
      have od2 := od1.base (base' := j) (fun g' hg' => by cases hg'; exact Nat.le_refl _)
      exact ⟨pb, j, dcap, rfl, hpg, lt_of_cell c1, hjg, hA.cell c1 (by omega), hA.cell c2 (by omega), od2.view (by omega) (fun g' hg' => by cases hg'; exact Nat.lt_succ_self _)⟩
  have HVal : Hid (Valid d) := hVal
  have O0 : Hid (OwnB wd lo 5 (.slice (some ⟨g, 0, none⟩) d.dur.length gcap) d.dur) := od.dur.chg hA (by intro g' _; omega)
  obtain ⟨x0, x1, xf0, xf1⟩ := two_cells z2
  clear hVal pv0
  go_loopw [6] (fun i wr => ∃ k : Nat, k ≤ d.pend.length ∧ i = .int .i64 k ∧ OwnB wr lo 5 (.slice (some ⟨g, 0, none⟩) d.dur.length gcap) (stl (fun _ => true) d.pend d.dur k) ∧ Chg g (g + 1) wd wr) (fun i _ => d.pend.length - (intOf i).toNat)
  case atStart => exact ⟨0, Nat.zero_le _, rfl, O0.out, Chg.refl _ _ _⟩
  case round =>
    obtain ⟨k, hk, rfl, hown, hcw⟩ := hrel
    have u0r := hcw.cell x0 (by omega)
    have x1r := hcw.cell x1 (by omega)
    clear x0 x1
    have szr := hcw.size
    by_cases hlt : k < d.pend.length
    · obtain ⟨pb, j, dcap, rfl, hpg, hpw, hjg, c1w, c2w, vww⟩ := HP.out k hlt
      obtain ⟨hq0, hq1, hx64⟩ := HVal.out.2.2.2.2 k hlt
      have hmod := HVal.out.1
      have hlenk := stl_length (fun _ => true) d HVal.out k hk
      have hstep : stl (fun _ => true) d.pend d.dur (k + 1) = splice (stl (fun _ => true) d.pend d.dur k) ((d.pend.getD k (0, [])).1.toNat * 64) (d.pend.getD k (0, [])).2 := by
        conv => lhs; unfold stl
        rw [if_pos rfl]
      have c1 := hcw.cell c1w (by omega)
      have c2 := hcw.cell c2w (by omega)
      have vw := vww.chg hcw (by omega)
      clear c1w c2w vww
      have Hstep : Hid (stl (fun _ => true) d.pend d.dur (k + 1) = splice (stl (fun _ => true) d.pend d.dur k) ((d.pend.getD k (0, [])).1.toNat * 64) (d.pend.getD k (0, [])).2) := hstep
      clear hstep
      generalize d.pend.getD k (0, []) = pr at *
      obtain ⟨q, xs⟩ := pr
      simp only at hq0 hq1 hx64 c1 c2 vw Hstep
      obtain ⟨qn, rfl⟩ := Int.eq_ofNat_of_zero_le hq0
      rw [Int.toNat_natCast] at Hstep
      generalize hX : stl (fun _ => true) d.pend d.dur k = X at *
      rw [← hlenk] at hown u0r
      have Hl : Hid (X.length = d.dur.length) := hlenk
      have hX2 : X.length ≤ 1048576 := by omega
      have hX3 : qn * 64 + 64 ≤ X.length := by omega
      have hgd : g < j ∨ j + 1 ≤ g := by omega
      have Hown : Hid (OwnB wr lo 5 (.slice (some ⟨g, 0, none⟩) X.length gcap) X) := hown
      have Hvw : Hid (View wr j (j + 1) .u8 (.slice (some ⟨j, 0, none⟩) xs.length dcap) xs) := vw
      have Hx : Hid (xs.length = 64) := hx64
      have Hcw : Hid (Chg g (g + 1) wd wr) := hcw
      clear hlenk hown vw hX hx64 hcw HP HVal O0
      have hik : (k : Int) < (d.pend.length : Int) := by omega
      go_wp2
      go_region_held3 (fun w' => w'.cell? ⟨w.heap.size, 0, none⟩ = some (.slice (some ⟨g, 0, none⟩) X.length gcap) ∧ w'.cell? ⟨w.heap.size, 1, none⟩ = some (.slice (some ⟨pb, 0, none⟩) d.pend.length pcap) ∧ w'.cell? ⟨pb, k * 2, none⟩ = some (.int .i64 (qn : Int)) ∧ w'.cell? ⟨pb, k * 2 + 1, none⟩ = some (.slice (some ⟨j, 0, none⟩) xs.length dcap))
        (first | exact ⟨u0r, x1r, c1, c2⟩ | exact ⟨C2.cell (w := wr.drew) u0r (by omega), C2.cell (w := wr.drew) x1r (by omega), C2.cell (w := wr.drew) c1 (by omega), C2.cell (w := wr.drew) c2 (by omega)⟩)
        ((go_at_call 56; refine (l1Put_calls _ X xs qn (by exact Hown.out) (by exact Hvw.out) Hx.out hX3 hX2 hgd).mono ?_; rintro e w2 ⟨rfl, ho, C2⟩))
      have R1 : Hid (OwnB w2 lo 5 (.slice (some ⟨g, 0, none⟩) d.dur.length gcap) (stl (fun _ => true) d.pend d.dur (k + 1))) := by
        rw [Hstep.out, ← Hl.out]; exact ho
      have R2 : Chg g (g + 1) wd w2 := Hcw.out.drew.trans C2
      clear ho C2 Hown Hvw Hcw Hstep c1 c2 u0r x1r
      go_wp2
      go_roundw
      case rel => exact ⟨k + 1, by omega, by go_num, R1.out, R2⟩
      case measure => simp [intOf]; omega
    · obtain rfl : k = d.pend.length := by omega
      have hl := stl_length (fun _ => true) d HVal.out d.pend.length (Nat.le_refl _)
      have B0r := (hcw.block w.heap.size (by omega) (by omega)).trans z2
      have B2r := (hcw.block (w.heap.size + 1 + 1) (by omega) (by omega)).trans z4
      have Cq : Chg 0 0 wr (wr.alloc (.cells #[] 55)) := Chg.alloc (Chg.refl 0 0 wr) _
      have B0q := (Cq.block w.heap.size (by omega) (by omega)).trans B0r
      have B2q := (Cq.block (w.heap.size + 1 + 1) (by omega) (by omega)).trans B2r
      have sq : (wr.alloc (.cells #[] 55)).heap.size = wr.heap.size + 1 := by simp
      have hrow : (wr.alloc (.cells #[] 55)).ownsRow lo 55 2 (.slice (some ⟨wr.heap.size, 0, none⟩) 0 0) 0 [] := by
        have := World.ownsRow_lit (base := lo) (e := 55) (size := 2) wr #[] 0 (by omega) (by unfold maxLen; omega) rfl
        simpa using this
      have hownq := hown.chg Cq (by intro g' _; omega)
      obtain ⟨y0, y1, yf0, yf1⟩ := two_cells B2q
      obtain ⟨b0, b1, bf0, bf1⟩ := two_cells B0q
      obtain ⟨r0, r1, rf0, rf1⟩ := two_cells B0r
      have HOq : Hid (OwnB (wr.alloc (.cells #[] 55)) lo 5 (.slice (some ⟨g, 0, none⟩) d.dur.length gcap) (stl (fun _ => true) d.pend d.dur d.pend.length)) := hownq
      have Hrow : Hid ((wr.alloc (.cells #[] 55)).ownsRow lo 55 2 (.slice (some ⟨wr.heap.size, 0, none⟩) 0 0) 0 []) := hrow
      have HCq : Hid (Chg g (g + 1) w (wr.alloc (.cells #[] 55))) := ((hA.widen (lo' := g) (hi' := g + 1) (Or.inr (Nat.le_refl _)) (Or.inr (Nat.le_refl _))).trans hcw).trans (Cq.widen (Or.inr (Nat.le_refl _)) (Or.inr (Nat.le_refl _)))
      have HB0 : Hid ((wr.alloc (.cells #[] 55)).heap[w.heap.size]? = some (.cells #[.slice (some ⟨g, 0, none⟩) d.dur.length gcap, .slice po d.pend.length pcap] 29 (0, 0))) := B0q
      have HB2 : Hid ((wr.alloc (.cells #[] 55)).heap[w.heap.size + 1 + 1]? = some (.cells #[.slice none 0 0, .slice none 0 0] 29 (0, 0))) := B2q
      clear hown hownq hrow hcw B0q B2q B0r B2r Cq HP O0 HVal z2 z3 z4
      go_upto_region 7 with fail
      have B9 : ((wr.alloc (.cells #[] 55)).setCell ⟨w.heap.size, 1, none⟩ (.slice (some ⟨wr.heap.size, 0, none⟩) 0 0)).heap[w.heap.size]? = some (.cells #[.slice (some ⟨g, 0, none⟩) d.dur.length gcap, .slice (some ⟨wr.heap.size, 0, none⟩) 0 0] 29 (0, 0)) := by
        have := heap_setCell_same (wr.alloc (.cells #[] 55)) w.heap.size 1 _ _ (.slice (some ⟨wr.heap.size, 0, none⟩) 0 0) HB0.out
        simpa using this
      have C9 : Chg w.heap.size (w.heap.size + 1) (wr.alloc (.cells #[] 55)) ((wr.alloc (.cells #[] 55)).setCell ⟨w.heap.size, 1, none⟩ (.slice (some ⟨wr.heap.size, 0, none⟩) 0 0)) := Chg.setCell (p := ⟨w.heap.size, 1, none⟩) (Chg.refl _ _ _) (Or.inl ⟨Nat.le_refl _, Nat.lt_succ_self _⟩) _
      have R9 := (C9.block (w.heap.size + 1 + 1) (by omega) (by omega)).trans HB2.out
      have s9 : ((wr.alloc (.cells #[] 55)).setCell ⟨w.heap.size, 1, none⟩ (.slice (some ⟨wr.heap.size, 0, none⟩) 0 0)).heap.size = wr.heap.size + 1 := by simp [World.setCell]
      have K9 : Chg g (g + 1) w ((wr.alloc (.cells #[] 55)).setCell ⟨w.heap.size, 1, none⟩ (.slice (some ⟨wr.heap.size, 0, none⟩) 0 0)) := HCq.out.setCell (p := ⟨w.heap.size, 1, none⟩) (Or.inr (Nat.le_refl _)) _
      have O9 := HOq.out.set (p := ⟨w.heap.size, 1, none⟩) (by simp [Value.ownBlock]; omega) (.slice (some ⟨wr.heap.size, 0, none⟩) 0 0)
      have W9r := ownsRow_setCell_other (a := ⟨w.heap.size, 1, none⟩) Hrow.out (by simp [Value.ownBlock]; omega) (.slice (some ⟨wr.heap.size, 0, none⟩) 0 0)
      clear HB0 HB2 HCq HOq Hrow y0 y1 yf0 yf1 b0 b1 bf0 bf1 r0 r1 rf0 rf1 C9
      generalize ((wr.alloc (.cells #[] 55)).setCell ⟨w.heap.size, 1, none⟩ (.slice (some ⟨wr.heap.size, 0, none⟩) 0 0)) = w9 at *
      obtain ⟨y0, y1, yf0, yf1⟩ := two_cells R9
      obtain ⟨b0, b1, bf0, bf1⟩ := two_cells B9
      have HK : Hid (Chg g (g + 1) w ((w9.setCell ⟨w.heap.size + 1 + 1, 0, none⟩ (.slice (some ⟨g, 0, none⟩) d.dur.length gcap)).setCell ⟨w.heap.size + 1 + 1, 1, none⟩ (.slice (some ⟨wr.heap.size, 0, none⟩) 0 0))) := (K9.setCell (p := ⟨w.heap.size + 1 + 1, 0, none⟩) (Or.inr (by show w.heap.size ≤ w.heap.size + 1 + 1; omega)) _).setCell (p := ⟨w.heap.size + 1 + 1, 1, none⟩) (Or.inr (by show w.heap.size ≤ w.heap.size + 1 + 1; omega)) _
      obtain ⟨gcur, hgcur⟩ := od.dur.elem (g := g) rfl
      have HKp : Hid (Keep w ((w9.setCell ⟨w.heap.size + 1 + 1, 0, none⟩ (.slice (some ⟨g, 0, none⟩) d.dur.length gcap)).setCell ⟨w.heap.size + 1 + 1, 1, none⟩ (.slice (some ⟨wr.heap.size, 0, none⟩) 0 0))) := by
        intro k hk h1 _
        refine HK.out.block k hk ?_
        have : k ≠ g := fun e => h1 gcur (by rw [e]; exact hgcur)
        omega
      have HKc : Hid (Chg lo w.heap.size w ((w9.setCell ⟨w.heap.size + 1 + 1, 0, none⟩ (.slice (some ⟨g, 0, none⟩) d.dur.length gcap)).setCell ⟨w.heap.size + 1 + 1, 1, none⟩ (.slice (some ⟨wr.heap.size, 0, none⟩) 0 0))) := HK.out.widen (Or.inl gb.1) (Or.inl (by omega))
      have HO : Hid (OwnD ((w9.setCell ⟨w.heap.size + 1 + 1, 0, none⟩ (.slice (some ⟨g, 0, none⟩) d.dur.length gcap)).setCell ⟨w.heap.size + 1 + 1, 1, none⟩ (.slice (some ⟨wr.heap.size, 0, none⟩) 0 0)) lo w9.heap.size 55 5 (.agg #[.slice (some ⟨g, 0, none⟩) d.dur.length gcap, .slice (some ⟨wr.heap.size, 0, none⟩) 0 0]) (setD (fun _ => true) d)) := by
        have n1 : (Value.slice (some ⟨g, 0, none⟩) d.dur.length gcap).ownBlock ≠ some (w.heap.size + 1 + 1) := by simp [Value.ownBlock]; omega
        have n2 : (Value.slice (some ⟨wr.heap.size, 0, none⟩) 0 0).ownBlock ≠ some (w.heap.size + 1 + 1) := by simp [Value.ownBlock]; omega
        have q2 := ownsRow_setCell_other (a := ⟨w.heap.size + 1 + 1, 1, none⟩) (ownsRow_setCell_other (a := ⟨w.heap.size + 1 + 1, 0, none⟩) W9r n2 (.slice (some ⟨g, 0, none⟩) d.dur.length gcap)) n2 (.slice (some ⟨wr.heap.size, 0, none⟩) 0 0)
        refine ⟨_, _, [], fun _ => .slice none 0 0, rfl, (O9.set (p := ⟨w.heap.size + 1 + 1, 0, none⟩) n1 _).set (p := ⟨w.heap.size + 1 + 1, 1, none⟩) n1 _, ⟨q2, by simp [setD], by simp [setD], by simp [setD], by simp [setD]⟩, by simp [setD], ?_, ?_, by simp [setD]⟩
        · intro g' hg'; cases hg'; show g < _; omega
        · intro g' hg'; cases hg'; show wr.heap.size < _; omega
      have HS : Hid (((w9.setCell ⟨w.heap.size + 1 + 1, 0, none⟩ (.slice (some ⟨g, 0, none⟩) d.dur.length gcap)).setCell ⟨w.heap.size + 1 + 1, 1, none⟩ (.slice (some ⟨wr.heap.size, 0, none⟩) 0 0)).heap.size = w9.heap.size) := by show _ = _; simp [World.setCell]
      clear K9 O9 W9r R9 B9 hl
      go_wp2
      refine bodyPost_ret (v := .tuple #[.agg #[.slice (some ⟨g, 0, none⟩) d.dur.length gcap, .slice (some ⟨wr.heap.size, 0, none⟩) 0 0], .bool true]) (by simp [results, Try.results67, go_sem, y0, y1]) rfl ⟨_, true, rfl, ⟨_, _, _, _, _, _, rfl⟩, HKc.out, HKp.out, Or.inl ⟨rfl, _, rfl, ?_⟩⟩
      rw [HS.out]; exact HO.out

/-- What is refused. -/
theorem opD_no {d : Dsk} {q a : Int} {ys : List Int} (h1 : ¬ (q = 2 ∧ a = 0 ∧ ys.length = 0)) (h2 : ¬ (q = 1 ∧ d.pend.length < 600 ∧ 0 ≤ a ∧ a < ((d.dur.length / 64 : Nat) : Int) ∧ ys.length = 64)) : opD d (q, a, ys) = none := by
  unfold opD
  simp only
  split
  · rename_i e; rw [if_neg (fun h => h2 ⟨e, h⟩)]
  · split
    · rename_i e; rw [if_neg (fun h => h1 ⟨e, h⟩)]
    · rfl

set_option maxRecDepth 20000 in
set_option maxHeartbeats 4000000 in
theorem l1Do_no (w : World) {lo hi : Nat} {v : Value} {d : Dsk} (q a : Int) (ys : List Int) (bo : Option Addr) (bcap : Nat) (h : OwnD w lo hi 55 5 v d) (hVal : Valid d)
    (h1 : ¬ (q = 2 ∧ a = 0 ∧ ys.length = 0)) (h2 : ¬ (q = 1 ∧ d.pend.length < 600 ∧ 0 ≤ a ∧ a < ((d.dur.length / 64 : Nat) : Int) ∧ ys.length = 64)) (h3 : ¬ (q = 1 ∧ d.pend.length < 600 ∧ 0 ≤ a)) :
    Calls Try.prog 67 #[v, .agg #[.int .i64 q, .int .i64 a, .slice bo ys.length bcap]] w fun e w' => DidD w w' lo (opD d (q, a, ys)) e := by
  have HN : Hid (opD d (q, a, ys) = none) := opD_no h1 h2
  obtain ⟨dvv, pvv, cells, dvs, od⟩ := h
  obtain rfl := od.agg
  have hm := hVal.2.2.2.1
  have hdl : d.dur.length ≤ 1048576 := by have := hVal.2.2.1; have := hVal.1; omega
  obtain ⟨g, gcap, rfl⟩ := od.dur.slice_of (by have := hVal.2.1; omega)
  obtain ⟨po, pcap, rfl⟩ : ∃ po pcap, pvv = .slice po d.pend.length pcap := by
    rcases od.pend.row.2 with ⟨e, h0⟩ | ⟨g', cap', cur, e, _⟩
    · exact ⟨none, 0, by rw [e, h0]⟩
    · exact ⟨_, _, e⟩
  have key : ∀ w9 : World, Chg 0 0 w w9 → w9.heap[w.heap.size + 1 + 1]? = some (.cells #[.slice none 0 0, .slice none 0 0] 29 (0, 0)) →
      Chg lo w.heap.size w ((w9.setCell ⟨w.heap.size + 1 + 1, 0, none⟩ (.slice (some ⟨g, 0, none⟩) d.dur.length gcap)).setCell ⟨w.heap.size + 1 + 1, 1, none⟩ (.slice po d.pend.length pcap)) ∧ Keep w ((w9.setCell ⟨w.heap.size + 1 + 1, 0, none⟩ (.slice (some ⟨g, 0, none⟩) d.dur.length gcap)).setCell ⟨w.heap.size + 1 + 1, 1, none⟩ (.slice po d.pend.length pcap)) := by
    intro w9 hc _
    have hz : Chg 0 0 w ((w9.setCell ⟨w.heap.size + 1 + 1, 0, none⟩ (.slice (some ⟨g, 0, none⟩) d.dur.length gcap)).setCell ⟨w.heap.size + 1 + 1, 1, none⟩ (.slice po d.pend.length pcap)) := (hc.setCell (p := ⟨w.heap.size + 1 + 1, 0, none⟩) (Or.inr (by show w.heap.size ≤ w.heap.size + 1 + 1; omega)) _).setCell (p := ⟨w.heap.size + 1 + 1, 1, none⟩) (Or.inr (by show w.heap.size ≤ w.heap.size + 1 + 1; omega)) _
    exact ⟨hz.into (base := lo) (Chg.refl _ _ _), fun k hk _ _ => hz.block k hk (by omega)⟩
  have HKey : Hid (∀ w9 : World, Chg 0 0 w w9 → w9.heap[w.heap.size + 1 + 1]? = some (.cells #[.slice none 0 0, .slice none 0 0] 29 (0, 0)) →
      Chg lo w.heap.size w ((w9.setCell ⟨w.heap.size + 1 + 1, 0, none⟩ (.slice (some ⟨g, 0, none⟩) d.dur.length gcap)).setCell ⟨w.heap.size + 1 + 1, 1, none⟩ (.slice po d.pend.length pcap)) ∧ Keep w ((w9.setCell ⟨w.heap.size + 1 + 1, 0, none⟩ (.slice (some ⟨g, 0, none⟩) d.dur.length gcap)).setCell ⟨w.heap.size + 1 + 1, 1, none⟩ (.slice po d.pend.length pcap))) := key
  obtain ⟨z1, z2, z3, z4⟩ := alloc3 w (.cells #[.slice (some ⟨g, 0, none⟩) d.dur.length gcap, .slice po d.pend.length pcap] 29) (.cells #[.int .i64 q, .int .i64 a, .slice bo ys.length bcap] 89) (.cells #[.slice none 0 0, .slice none 0 0] 29)
  have hA : Chg 0 0 w (((w.alloc (.cells #[.slice (some ⟨g, 0, none⟩) d.dur.length gcap, .slice po d.pend.length pcap] 29)).alloc (.cells #[.int .i64 q, .int .i64 a, .slice bo ys.length bcap] 89)).alloc (.cells #[.slice none 0 0, .slice none 0 0] 29)) := ((Chg.alloc (Chg.refl 0 0 w) _).alloc _).alloc _
  clear key od hVal
  go_enter Try.func67, Try.ntmps67
  go_upto_region 1 with fail
  generalize ((w.alloc (.cells #[.slice (some ⟨g, 0, none⟩) d.dur.length gcap, .slice po d.pend.length pcap] 29)).alloc (.cells #[.int .i64 q, .int .i64 a, .slice bo ys.length bcap] 89)).alloc (.cells #[.slice none 0 0, .slice none 0 0] 29) = wd at *
  obtain ⟨x0, x1, _, _⟩ := two_cells z2
  obtain ⟨k0, k1, k2⟩ := three_cells' z3
  go_cut [20] (fun s20 wx => s20 = .bool false ∧ wx = wd)
  case first =>
    by_cases e1 : q = 2
    · have e1' : (q == 2) = true := by rw [e1]; rfl
      by_cases e2 : a = 0
      · have e2' : (a == 0) = true := by rw [e2]; rfl
        have e3' : ((ys.length : Int) == 0) = false := by simp only [beq_eq_false_iff_ne, ne_eq]; intro e3; exact h1 ⟨e1, e2, by omega⟩
        clear h1 h2 e1 e2
        go_wp2
        go_meet
        exact ⟨rfl, rfl⟩
      · have e2' : (a == 0) = false := by simp only [beq_eq_false_iff_ne, ne_eq]; exact e2
        clear h1 h2 e1 e2
        go_wp2
        go_meet
        exact ⟨rfl, rfl⟩
    · have e1' : (q == 2) = false := by simp only [beq_eq_false_iff_ne, ne_eq]; exact e1
      clear h1 h2 e1
      go_wp2
      go_meet
      exact ⟨rfl, rfl⟩
  case rest =>
    obtain ⟨rfl, hw⟩ := hcut
    rw [hw]
    clear hw wc
    go_upto_region 8 with fail
    go_cut [72] (fun s72 wx => s72 = .bool true ∧ Chg 0 0 wd wx)
    case first =>
      by_cases e1 : q = 1
      · have e1' : (q != 1) = false := by rw [e1]; rfl
        by_cases e2 : d.pend.length = 600
        · have e2' : ((d.pend.length : Int) == 600) = true := by rw [e2]; rfl
          clear h1 h2 h3 e1 e2
          go_quiet (fail)
          go_wp2
          go_meet
          exact ⟨rfl, (Chg.refl 0 0 wd).drewN _⟩
        · have e2' : ((d.pend.length : Int) == 600) = false := by simp only [beq_eq_false_iff_ne, ne_eq]; omega
          by_cases e3 : a < 0
          · clear h1 h2 h3 e1 e2
            go_quiet (fail)
            go_wp2
            go_meet
            exact ⟨rfl, (Chg.refl 0 0 wd).drewN _⟩
          · exact absurd ⟨e1, by omega, by omega⟩ h3
      · have e1' : (q != 1) = true := by simp only [bne_iff_ne, ne_eq]; exact e1
        clear h1 h2 h3 e1
        go_quiet (fail)
        go_wp2
        go_meet
        exact ⟨rfl, (Chg.refl 0 0 wd).drewN _⟩
    case rest =>
      obtain ⟨rfl, C5⟩ := hcut
      have B2 := (C5.block (w.heap.size + 1 + 1) (by omega) (by omega)).trans z4
      obtain ⟨y0, y1, yf0, yf1⟩ := two_cells B2
      have x0 := C5.cell x0 (by omega)
      have x1 := C5.cell x1 (by omega)
      have HK : Hid (Chg lo w.heap.size w ((wc.setCell ⟨w.heap.size + 1 + 1, 0, none⟩ (.slice (some ⟨g, 0, none⟩) d.dur.length gcap)).setCell ⟨w.heap.size + 1 + 1, 1, none⟩ (.slice po d.pend.length pcap)) ∧ Keep w ((wc.setCell ⟨w.heap.size + 1 + 1, 0, none⟩ (.slice (some ⟨g, 0, none⟩) d.dur.length gcap)).setCell ⟨w.heap.size + 1 + 1, 1, none⟩ (.slice po d.pend.length pcap))) := HKey.out wc (hA.trans C5) B2
      clear B2 C5 HKey hA z2 z3 z4 h1 h2 h3
      go_wp2
      refine bodyPost_ret (v := .tuple #[.agg #[.slice (some ⟨g, 0, none⟩) d.dur.length gcap, .slice po d.pend.length pcap], .bool false]) (by simp [results, Try.results67, go_sem, y0, y1]) rfl ⟨_, false, rfl, ⟨_, _, _, _, _, _, rfl⟩, HK.out.1, HK.out.2, Or.inr ⟨rfl, HN.out⟩⟩

end Go.Proofs.Ytplfehjaakkldaa
