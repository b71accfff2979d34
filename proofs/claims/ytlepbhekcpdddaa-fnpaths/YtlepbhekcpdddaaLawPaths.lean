/- The law FnPaths: its walk. -/
import Derived.Test.YtlepbhekcpdddaaPathMath
import Derived.Test.YtlepbhekcpdddaaPathDraw3
import Derived.Test.YtlepbhekcpdddaaImplPath
import Derived.Test.YtlepbhekcpdddaaHeld
import Derived.Test.YtlepbhekcpdddaaWeak
import Derived.Test.YtlepbhekcpdddaaOpenB
import Derived.Deep.DeepCutAuto
namespace Go.Proofs.Ytlepbhekcpdddaa
open Go.ChangeShapes Go.WideShapes Go.ChangeAt Go.RowKit

theorem OwnS.sliceOf {w : World} {base : Nat} {e : TypeId} {v : Value} {ps : List ByteArray} (h : OwnS w base e v ps) : ∃ ao cap, v = .slice ao ps.length cap := by
  obtain ⟨_, h2⟩ := h
  rcases h2 with ⟨rfl, h0⟩ | ⟨g, cap, cur, rfl, _⟩
  · exact ⟨Option.none, 0, by simp at h0; rw [h0]; rfl⟩
  · exact ⟨_, _, rfl⟩

theorem field_path (c : Int) (v : Value) (w : World) : (Instr.field 26 (.agg #[.int .i64 c, v]) 0).run Try.prog w = .ok (.int .i64 c) w := by
  simp [Instr.field, run_underlying Try.underlying26, asAgg, part, isAgg, run_underlying Try.underlying2]

set_option maxRecDepth 20000 in
set_option maxHeartbeats 8000000 in
theorem lawPaths_walk (w : World) {hi : Nat} {a : Value} {code : List Int} (hB : Byt code) (h1 : View w 0 hi .u8 a code) (hhi : hi ≤ w.heap.size) :
    Calls Try.prog 3 #[a] w fun e w' => e = .returned (.bool true) ∧ Below w.heap.size w w' := by
  have v0 := h1
  obtain ⟨ao, cap, rfl, hl0, _, _⟩ := h1
  by_cases hcl : code.length ≤ 1048576
  case neg =>
    clear v0
    go_enter Try.func3, Try.ntmps3
    go_wp2
    go_ret
    exact ⟨rfl, (Chg.refl 0 0 w).below (by omega)⟩
  have hD := drawSplitPath_calls w hB hcl v0 hhi
  clear v0
  go_enter Try.func3, Try.ntmps3
  go_wp2_with fail
  refine hD.mono ?_
  rintro e w1 ⟨s, rfl, hsz, c1⟩
  have HC1 : Hid (Chg 0 0 w w1) := c1
  have z1 := c1.size
  have hI := implSplitPath_calls w1 s (by omega)
  clear hD c1
  go_wp2_with fail
  refine hI.mono ?_
  rintro e w2 ⟨nv, rfl, o2, c2⟩
  obtain ⟨ra, rc, rfl⟩ := o2.sliceOf
  have HC2 : Hid (Chg 0 0 w w2) := HC1.out.trans c2
  have HO2 : Hid (OwnS w2 w1.heap.size 9 (.slice ra (pathD s).2.length rc) (pathD s).2) := o2
  have z2 := c2.size
  have hS := specSplitPath_calls
  clear hI c2 o2 HC1
  have HBad : Hid ((pathD s).1 ≠ 0 → (pathD s).2 = []) := fun h => path_bad h
  have HG : Hid ((pathD s).1 = 0 → _) := fun h => path_good (s := s) h
  have HSl : Hid ((pathD s).1 = 0 → (pathD (s ++ (⟨#[47]⟩ : ByteArray))).1 ≠ 0) := fun h => path_slash h rfl
  have HAh : Hid ((pathD ((⟨#[120]⟩ : ByteArray) ++ s)).1 = 30) := path_ahead (x := 120) rfl (by decide)
  have HNn : Hid ((pathD s).1 = 0 → nameB s = false) := fun h => path_noname h
  have HP : Hid (∀ W, Calls Try.prog 6 #[.string s] W fun e w' => ∃ nv, e = .returned (.agg #[.int .i64 (pathD s).1, nv]) ∧ Chg 0 0 W w') := fun W => (specSplitPath_calls W s (by omega)).mono (by rintro e w' ⟨nv, rfl, _, c⟩; exact ⟨nv, rfl, c⟩)
  generalize (pathD s).1 = C at *
  generalize (pathD s).2 = ns at *
  clear hS
  have HB := heap_new w2 (.cells #[.int .i64 C, .slice ra ns.length rc] 26)
  have HCb : Hid (Chg 0 0 w (w2.alloc (.cells #[.int .i64 C, .slice ra ns.length rc] 26))) := Chg.alloc HC2.out _
  have HOb : Hid (OwnS (w2.alloc (.cells #[.int .i64 C, .slice ra ns.length rc] 26)) w1.heap.size 9 (.slice ra ns.length rc) ns) := HO2.out.chg (Chg.alloc (Chg.refl 0 0 w2) _) (by intro g _; omega)
  have zb : (w2.alloc (.cells #[.int .i64 C, .slice ra ns.length rc] 26)).heap.size = w2.heap.size + 1 := by simp
  have hcc : (C != C) = false := by simp
  clear HC2 HO2
  go_wp2
  generalize w2.alloc (.cells #[.int .i64 C, .slice ra ns.length rc] 26) = wb at *
  generalize w2.heap.size = NB at *
  have HBb : Hid (wb.heap[NB]? = some (.cells #[.int .i64 C, .slice ra ns.length rc] 26 (0, 0))) := HB
  have cd : Chg 0 0 wb wb.drew := Chg.drew (Chg.refl 0 0 wb)
  have HCd : Hid (Chg 0 0 w wb.drew) := HCb.out.trans cd
  have HOd : Hid (OwnS wb.drew w1.heap.size 9 (.slice ra ns.length rc) ns) := HOb.out.chg cd (by intro g _; omega)
  have HBd : Hid (wb.drew.heap[NB]? = some (.cells #[.int .i64 C, .slice ra ns.length rc] 26 (0, 0))) := (cd.block NB (by omega) (by omega)).trans HB
  have zd : NB < wb.drew.heap.size := by have := cd.size; omega
  have HS0 : Hid ((fun w' : World => w'.cell? ⟨NB, 0, none⟩ = some (.int .i64 C)) wb.drew) := (duo_all HBd.out).1.1
  clear HB cd HCb HOb HBb
  refine held_region (fun w' : World => w'.cell? ⟨NB, 0, none⟩ = some (.int .i64 C)) (by kernel_rfl) ?_
  generalize wb.drew = wd at *
  refine held_take 0 (.pointer (some ⟨NB, 0, none⟩)) rfl (by kernel_rfl) (by kernel_rfl) (by kernel_rfl) (fun _ _ _ h => h) (.inl ⟨by kernel_rfl, fun w' hw' => by go_simp⟩) HS0.out ?_
  go_simp
  refine held_take 1 (.int .i64 C) rfl (by kernel_rfl) (by kernel_rfl) (by kernel_rfl) (fun _ _ _ h => h) (.inl ⟨by kernel_rfl, fun w' hw' => by have h4 := hw'; go_simp⟩) HS0.out ?_
  go_simp
  refine held_take 2 (.string s) rfl (by kernel_rfl) (by kernel_rfl) (by kernel_rfl) (fun _ _ _ h => h) (.inl ⟨by kernel_rfl, fun w' hw' => by go_simp⟩) HS0.out ?_
  go_simp
  refine held_one 3 rfl rfl (by kernel_rfl) ?_
  refine wp_enter 6 #[.string s] (by first | kernel_rfl | go_simp) (HP.out wd) ?_
  rintro e w5 ⟨nv', rfl, c5⟩
  have HS5 : Hid ((fun w' : World => w'.cell? ⟨NB, 0, none⟩ = some (.int .i64 C)) w5) := c5.cell HS0.out (by omega)
  have HC5 : Hid (Chg 0 0 w w5) := HCd.out.trans c5
  have HO5 : Hid (OwnS w5 w1.heap.size 9 (.slice ra ns.length rc) ns) := HOd.out.chg c5 (by intro g _; omega)
  have HB5 : Hid (w5.heap[NB]? = some (.cells #[.int .i64 C, .slice ra ns.length rc] 26 (0, 0))) := (c5.block NB zd (by omega)).trans HBd.out
  have z5 : NB < w5.heap.size := by have := c5.size; omega
  refine ⟨_, rfl, HS5.out, ?_⟩
  have hfd := field_path
  clear c5 HS0 HCd HOd HBd HP
  go_simp
  refine held_one 4 rfl rfl (by kernel_rfl) ?_
  go_simp
  refine ⟨HS5.out, ?_⟩
  refine held_one 5 rfl rfl (by kernel_rfl) ?_
  go_simp
  refine ⟨HS5.out, ?_⟩
  refine held_done (by kernel_rfl) (NoPanic.normal ?_)
  obtain ⟨⟨y0, y1⟩, _, _⟩ := duo_all HB5.out
  by_cases hC : C = 0
  case neg =>
    have hns := HBad.out hC
    have hb : (C != 0) = true := by simpa using hC
    clear HG HSl HAh HNn
    subst hns
    go_wp2
    go_ret
    exact ⟨by simp, HC5.out.below (by omega)⟩
  subst hC
  obtain ⟨g1, g2, g3, g4, g5, g6⟩ := HG.out rfl
  have HNm : Hid (∀ p ∈ ns, nameB p = true) := g5
  have HTx : Hid ((if ns = [] then [47] else joinL ns) = bsOf s) := g6
  have HSl' : Hid ((pathD (s ++ (⟨#[47]⟩ : ByteArray))).1 ≠ 0) := HSl.out rfl
  have HNn' : Hid (nameB s = false) := HNn.out rfl
  clear HG g5 g6 HBad g3 HSl HNn
  go_wp2
  clear y0 y1
  go_loopw [5, 6] (fun s5 s6 wr => ∃ (i : Nat) (t : ByteArray), i ≤ ns.length ∧ s6 = .int .i64 i ∧ s5 = .string t ∧ bsOf t = joinL (ns.take i) ∧ t.size ≤ 14 * i ∧ Chg 0 0 w5 wr) (fun _ s6 _ => ns.length - (intOf s6).toNat)
  case atStart => exact ⟨0, _, Nat.zero_le _, rfl, rfl, rfl, Nat.le_refl _, Chg.refl _ _ _⟩
  case round =>
    obtain ⟨i, t, hi', rfl, rfl, htx, hts, hch⟩ := hrel
    have HCr : Hid (Chg 0 0 w5 wr) := hch
    have Htx : Hid (bsOf t = joinL (ns.take i)) := htx
    have hBr := (hch.block NB z5 (by omega)).trans HB5.out
    obtain ⟨⟨y0, y1⟩, _, _⟩ := duo_all hBr
    have hOr := HO5.out.chg hch (by intro g _; omega)
    clear hch htx hBr
    by_cases hlt : i < ns.length
    · have hii : (i : Int) < (ns.length : Int) := by omega
      obtain ⟨g, rfl, hcell⟩ : ∃ g, ra = some ⟨g, 0, none⟩ ∧ wr.cell? ⟨g, i, none⟩ = some (.string ns[i]) := by
        have hrow : wr.ownsRow w1.heap.size 9 1 (.slice ra ns.length rc) ns.length (ns.map Value.string) := hOr
        have h9 := hrow
        obtain ⟨_, h2⟩ := h9
        rcases h2 with ⟨e, h0⟩ | ⟨g, cap', cur, e, _⟩
        · omega
        · simp only [Value.slice.injEq] at e
          obtain ⟨e1, _, _⟩ := e
          subst e1
          refine ⟨g, rfl, ?_⟩
          rw [World.ownsRow.cellAt hrow i (by omega), List.getElem?_map, List.getElem?_eq_getElem hlt]
          rfl
      have hnm := HNm.out ns[i] (List.getElem_mem hlt)
      have hnz : (ns[i]).size ≤ 13 := by have := hnm; unfold nameB at this; rw [decide_eq_true_eq] at this; exact this.2.2.1
      have HJn : Hid (joinL (ns.take (i + 1)) = joinL (ns.take i) ++ (47 :: bsOf ns[i])) := by
        show _ = _
        rw [List.take_succ_eq_append_getElem hlt, joinL_app]
        show _ ++ (47 :: (bsOf ns[i] ++ [])) = _
        rw [List.append_nil]
      generalize ns[i] = nm at *
      have hN := implValidName_calls wr nm (by omega)
      rw [hnm] at hN
      clear hOr hnm
      go_wp2_with fail
      refine hN.mono ?_
      rintro e w6 ⟨rfl, c6⟩
      have y1' := c6.cell y1 (by omega)
      have hc' := c6.cell hcell (by omega)
      have HC6 : Hid (Chg 0 0 w5 w6) := HCr.out.trans c6
      have z47 : (⟨#[47]⟩ : ByteArray).size = 1 := rfl
      have hz : (t ++ (⟨#[47]⟩ : ByteArray)).size = t.size + 1 := by rw [ByteArray.size_append, z47]
      have Hz2 : Hid ((t ++ (⟨#[47]⟩ : ByteArray) ++ nm).size = t.size + 1 + nm.size) := by show _ = _; rw [ByteArray.size_append, hz]
      have Hbs : Hid (bsOf (t ++ (⟨#[47]⟩ : ByteArray) ++ nm) = joinL (ns.take (i + 1))) := by
        show _ = _
        rw [bsOf_app, bsOf_app, Htx.out, HJn.out, List.append_assoc]
        rfl
      have ha : t.size + (⟨#[47]⟩ : ByteArray).size ≤ 10000 := by rw [z47]; omega
      have hb : (t ++ (⟨#[47]⟩ : ByteArray)).size + nm.size ≤ 10000 := by omega
      have hb2 : t.size + (⟨#[47]⟩ : ByteArray).size + nm.size ≤ 10000 := by rw [z47]; omega
      clear hN c6 y0 y1 hcell
      go_wp2
      go_roundw
      case rel => exact ⟨i + 1, _, by omega, by go_num, rfl, Hbs.out, by rw [Hz2.out]; omega, HC6.out⟩
      case measure => simp [intOf]; omega
    · obtain rfl : i = ns.length := by omega
      have HCw : Hid (Chg 0 0 w wr) := HC5.out.trans HCr.out
      have z47 : (⟨#[47]⟩ : ByteArray).size = 1 := rfl
      have z120 : (⟨#[120]⟩ : ByteArray).size = 1 := rfl
      have hsl := HSl'.out
      have hah := HAh.out
      have hnn := HNn'.out
      have hT := Htx.out
      rw [List.take_length] at hT
      have ha : s.size + (⟨#[47]⟩ : ByteArray).size ≤ 10000 := by rw [z47]; omega
      have ha2 : (⟨#[120]⟩ : ByteArray).size + s.size ≤ 10000 := by rw [z120]; omega
      have hI1 := fun W => (implSplitPath_calls W (s ++ (⟨#[47]⟩ : ByteArray)) (by rw [ByteArray.size_append, z47]; omega)).mono (R' := fun e w' => ∃ nv, e = .returned (.agg #[.int .i64 (pathD (s ++ (⟨#[47]⟩ : ByteArray))).1, nv]) ∧ Chg 0 0 W w') (by rintro e w' ⟨nv, rfl, _, c⟩; exact ⟨nv, rfl, c⟩)
      have hI2 := fun W => (implSplitPath_calls W ((⟨#[120]⟩ : ByteArray) ++ s) (by rw [ByteArray.size_append, z120]; omega)).mono (R' := fun e w' => ∃ nv, e = .returned (.agg #[.int .i64 (pathD ((⟨#[120]⟩ : ByteArray) ++ s)).1, nv]) ∧ Chg 0 0 W w') (by rintro e w' ⟨nv, rfl, _, c⟩; exact ⟨nv, rfl, c⟩)
      have hI3 := fun W => implValidName_calls W s (by omega)
      rw [hnn] at hI3
      rw [hah] at hI2
      generalize (pathD (s ++ (⟨#[47]⟩ : ByteArray))).1 = C1 at *
      have hb1 : (C1 != 0) = true := by simpa using hsl
      have H1 : Hid (∀ W, Calls Try.prog 5 #[.string (s ++ (⟨#[47]⟩ : ByteArray))] W fun e w' => ∃ nv, e = .returned (.agg #[.int .i64 C1, nv]) ∧ Chg 0 0 W w') := hI1
      have H2 : Hid (∀ W, Calls Try.prog 5 #[.string ((⟨#[120]⟩ : ByteArray) ++ s)] W fun e w' => ∃ nv, e = .returned (.agg #[.int .i64 30, nv]) ∧ Chg 0 0 W w') := hI2
      have H3 : Hid (∀ W, Calls Try.prog 7 #[.string s] W fun e w' => e = .returned (.bool false) ∧ Chg 0 0 W w') := hI3
      have hii : ¬ (ns.length : Int) < (ns.length : Int) := by omega
      clear hI1 hI2 hI3 HSl' HAh HNn' hah hnn hsl z47 z120 hOr Htx HCr y0 HC5 HO5 HB5
      have h16 : (ns.length : Int) ≤ 16 := by omega
      by_cases hn0 : ns = []
      · subst hn0
        obtain rfl : s = (⟨#[47]⟩ : ByteArray) := bsOf_inj (by rw [← HTx.out]; rfl)
        have he : (((⟨#[47]⟩ : ByteArray)).toList == ((⟨#[47]⟩ : ByteArray)).toList) = true := by simp
        go_wp2_with fail
        refine (H1.out _).mono ?_
        rintro e wx ⟨nv1, rfl, cx⟩
        have HX : Hid (Chg 0 0 w wx) := HCw.out.trans cx
        clear cx
        go_wp2_with fail
        refine (H2.out _).mono ?_
        rintro e wy ⟨nv2, rfl, cy⟩
        have HY : Hid (Chg 0 0 w wy) := HX.out.trans cy
        clear cy
        go_wp2_with fail
        refine (H3.out _).mono ?_
        rintro e wz ⟨rfl, cz⟩
        have HZ : Hid (Chg 0 0 w wz) := HY.out.trans cz
        clear cz
        go_wp2
        go_ret
        exact ⟨rfl, HZ.out.below (by omega)⟩
      · have hlz : ((ns.length : Int) == 0) = false := by have := List.length_pos_iff.2 hn0; simp; omega
        obtain rfl : t = s := bsOf_inj (by rw [hT, ← HTx.out, if_neg hn0])
        have he : (t.toList == t.toList) = true := by simp
        go_wp2_with fail
        refine (H1.out _).mono ?_
        rintro e wx ⟨nv1, rfl, cx⟩
        have HX : Hid (Chg 0 0 w wx) := HCw.out.trans cx
        clear cx
        go_wp2_with fail
        refine (H2.out _).mono ?_
        rintro e wy ⟨nv2, rfl, cy⟩
        have HY : Hid (Chg 0 0 w wy) := HX.out.trans cy
        clear cy
        go_wp2_with fail
        refine (H3.out _).mono ?_
        rintro e wz ⟨rfl, cz⟩
        have HZ : Hid (Chg 0 0 w wz) := HY.out.trans cz
        clear cz
        go_wp2
        go_ret
        exact ⟨rfl, HZ.out.below (by omega)⟩

end Go.Proofs.Ytlepbhekcpdddaa
