/- openBlock of the program, of 64 bytes. -/
import Derived.Test.YtcgemenhkjfejaaDoorOpenBlk
import Derived.Test.YtcgemenhkjfejaaDoorArrEq
namespace Go.Proofs.YtcgemenhkjfejaaDoor
open Go.RowKit

theorem arrayAt_64 (w : World) (a : Addr) (cap : Nat) : (Instr.arrayAt 33 (.slice (some a) 64 cap)).run Tryd.prog w = .ok (.pointer (some a)) w := by
  simp [Instr.arrayAt, run_underlying Tryd.underlying33]

/-- What openBlock says of 64 bytes. -/
def OpenRes (xs : List Int) (w' : World) (lo : Nat) (tM tK : TypeId) (vM vK : Value) (ev : Value) : Prop :=
  (xs.take 4 ≠ mg ∧ Wraps w' lo ev tM vM) ∨ (xs.take 4 = mg ∧ ¬ (1 ≤ xs.getD 4 0 ∧ xs.getD 4 0 ≤ 4) ∧ Wraps w' lo ev tK vK) ∨ (xs.take 4 = mg ∧ (1 ≤ xs.getD 4 0 ∧ xs.getD 4 0 ≤ 4) ∧ ev = .nilIface)

set_option maxRecDepth 20000 in
set_option maxHeartbeats 8000000 in
theorem openBlock_full (w : World) {lo hi : Nat} {a : Value} {xs : List Int} {tL tM tK : TypeId} {vL vM vK : Value} (h1 : View w lo hi .u8 a xs) (hB : Byt xs) (hG : Glob w tL tM tK vL vM vK) (hx : xs.length = 64) :
    Calls Tryd.prog 16 #[a] w fun e w' => ∃ ev, e = .returned (.tuple #[.agg (xs.map (Value.int .u8)).toArray, .agg (hd7 xs), ev]) ∧ Chg 0 0 w w' ∧ OpenRes xs w' w.heap.size tM tK vM vK ev := by
  obtain ⟨ao, cap, rfl, hl, ⟨hcap, _⟩, hcell⟩ := h1
  obtain ⟨xb, xo, rfl, hxc⟩ : ∃ xb xo, ao = some ⟨xb, xo, none⟩ ∧ ∀ i, i < xs.length → w.cell? ⟨xb, xo + i, none⟩ = some (.int .u8 (xs.getD i 0)) := by
    rcases hcell with e | ⟨x, o, e, _, _, h⟩
    · rw [e] at hx; simp at hx
    · exact ⟨x, o, e, h⟩
  obtain ⟨cs, hcs⟩ : ∃ cs, cs = xs.map (Value.int .u8) := ⟨_, rfl⟩
  have L1 : cs.length = 64 := by rw [hcs]; simpa using hx
  have L2 : ∀ v ∈ cs, v.oneCell' = true := by rw [hcs]; exact ints_oneCell _ _
  have R0 : w.rangeAt xb xo cs := by
    intro j v hj
    have hj64 : j < xs.length := by have := (List.getElem?_eq_some_iff.1 hj).1; omega
    rw [hxc j hj64, ← hj, hcs, List.getElem?_map]
    simp only [List.getD_eq_getElem?_getD]
    rw [List.getElem?_eq_getElem hj64]
    rfl
  have HL1 : Hid _ := L1
  have HL2 : Hid _ := L2
  have Hcs : Hid _ := hcs
  have Hx : Hid _ := hx
  have HB : Hid (Byt xs) := hB
  have hi28 : (Tryd.prog.info? 33).map (·.size) = some cs.length := by rw [L1]; kernel_rfl
  have u28 := Tryd.underlying33
  have hne : ((64 : Int) != 64) = false := by simp
  rw [← hcs, hx]
  rw [hx] at hcap
  obtain ⟨z1, z2, z3⟩ := alloc2 w (.cells Z64.toArray 33) (.cells z7.toArray 36)
  have hA : Chg 0 0 w ((w.alloc (.cells Z64.toArray 33)).alloc (.cells z7.toArray 36)) := (Chg.alloc (Chg.refl 0 0 w) _).alloc _
  have hgl : 2 < w.heap.size ∧ 3 < w.heap.size := ⟨lt_of_cell hG.eM, lt_of_cell hG.eK⟩
  clear hcell hxc L1 L2 hcs hx hB
  go_enter Tryd.func16, Tryd.ntmps16
  go_upto_region 1 with fail
  simp only [Z64_eq]
  have har := fun w' => arrayAt_64 w' ⟨xb, xo, none⟩ cap
  generalize (w.alloc (.cells Z64.toArray 33)).alloc (.cells z7.toArray 36) = wa at *
  have HG : Hid _ := hG.chg hA (by omega)
  have HR : Hid (wa.rangeAt xb xo cs) := fun j v hj => hA.cell (R0 j v hj) (by omega)
  have Hz2 : Hid _ := z2
  have Hz3 : Hid _ := z3
  have HA : Hid _ := hA
  clear z2 z3 hA R0 hG
  go_upto_region 4 with (first
    | (refine wpList_load_mid rfl 33 (.tmp 15) rfl xb xo rfl cs _ HR.out u28 rfl hi28 ?_)
    | (refine wpList_store_row rfl 33 (.tmp 5) (.tmp 16) rfl rfl (w.heap.size + 2) rfl cs Z64 33 rfl (by rw [← z1, ← Z64_eq]; exact heap_new _ _) (by rw [Z64_length]; exact HL1.out) hi28 HL2.out ?_; intro w2 hb2 hc2))
  have c2 : Chg 0 0 wa w2 := (Chg.alloc (Chg.refl 0 0 wa) _).step hc2 (by omega)
  have s2 := c2.size
  have s2' := (Array.getElem?_eq_some_iff.1 hb2).1
  have hN := headerOf_calls w2 xs Hx.out HB.out
  rw [← Hcs.out] at hN
  have HR2 : Hid _ := row_rng hb2
  have HC2 : Hid _ := c2
  have Hb2 : Hid _ := hb2
  obtain ⟨h0, h1, h2, h3, h4, h5, h6, e7, x4⟩ : ∃ h0 h1 h2 h3 h4 h5 h6 : Int, hd7 xs = #[.int .u8 h0, .int .u8 h1, .int .u8 h2, .int .u8 h3, .int .i64 h4, .int .i64 h5, .int .i64 h6] ∧ xs.take 4 = [h0, h1, h2, h3] ∧ xs.getD 4 0 = h4 := by
    refine ⟨_, _, _, _, _, _, _, rfl, ?_, rfl⟩
    have := Hx.out
    match xs, this with
    | a :: b :: c :: d :: r, _ => simp
  obtain ⟨hmg, x4⟩ := x4
  have He7 : Hid _ := e7
  have Hmg : Hid _ := hmg
  have Hx4 : Hid _ := x4
  rw [e7] at hN
  clear hb2 hc2 c2 e7 hmg x4 HR har
  go_upto_region 5 with (first
    | (refine wpList_load_mid rfl 33 (.tmp 5) rfl (w.heap.size + 2) 0 rfl cs _ HR2.out u28 rfl hi28 ?_)
    | (refine hN.mono ?_; rintro e w3 ⟨rfl, hc3⟩)
    | (refine wpList_store_row rfl 36 (.tmp 6) (.tmp 18) rfl rfl w3.heap.size rfl [.int .u8 h0, .int .u8 h1, .int .u8 h2, .int .u8 h3, .int .i64 h4, .int .i64 h5, .int .i64 h6] z7 36 rfl (heap_new _ _) rfl (by kernel_rfl) (by simp [Value.oneCell']) ?_; intro w4 hb4 hc4))
  have s3 := hc3.size
  have s4 := (Array.getElem?_eq_some_iff.1 hb4).1
  have C4 : Chg 0 0 w2 w4 := (hc3.trans (Chg.alloc (Chg.refl 0 0 w3) _)).step hc4 (by omega)
  have HC4 : Hid _ := HC2.out.trans C4
  have HH4 : Hid _ := hb4
  have HD4 : Hid _ := (C4.block (w.heap.size + 2) (by omega) (by omega)).trans Hb2.out
  have HG4 : Hid _ := HG.out.chg HC4.out (by omega)
  clear hb4 hc4 hc3 C4 HC2 Hb2 HR2 hN HG
  go_cut [22] (fun s22 wx => s22 = .bool (!decide (xs.take 4 = mg)) ∧ Chg 0 0 w4 wx)
  case first =>
    have HS : Hid (_ ∧ _) := ⟨HH4.out, HG4.out.chg (Chg.drew (Chg.refl 0 0 w4)) (by omega)⟩
    refine held_region (fun w' : World => w'.heap[w3.heap.size]? = some (.cells (List.toArray [.int .u8 h0, .int .u8 h1, .int .u8 h2, .int .u8 h3, .int .i64 h4, .int .i64 h5, .int .i64 h6]) 36 (0, 0)) ∧ Glob w' tL tM tK vL vM vK) (by kernel_rfl) ?_
    refine held_take 0 (.agg (List.toArray [.int .u8 h0, .int .u8 h1, .int .u8 h2, .int .u8 h3, .int .i64 h4, .int .i64 h5, .int .i64 h6])) rfl (by kernel_rfl) (by kernel_rfl) (by kernel_rfl) (fun _ _ _ h => h) (yieldsIf_load_mid (by kernel_rfl) 36 (.tmp 6) rfl w3.heap.size 0 rfl [.int .u8 h0, .int .u8 h1, .int .u8 h2, .int .u8 h3, .int .i64 h4, .int .i64 h5, .int .i64 h6] _ (fun w' hw' => row_rng hw'.1) Tryd.underlying36 rfl (by kernel_rfl)) HS.out ?_
    go_simp
    refine held_take 2 (.agg #[.int .u8 106, .int .u8 108, .int .u8 111, .int .u8 103]) rfl (by kernel_rfl) (by kernel_rfl) (by kernel_rfl) (fun _ _ _ h => h) (.inl ⟨by kernel_rfl, fun w' hw' => by have m0 := hw'.2.m0; have m1 := hw'.2.m1; have m2 := hw'.2.m2; have m3 := hw'.2.m3; go_simp⟩) HS.out ?_
    go_simp
    refine held_one 1 rfl rfl (by kernel_rfl) ?_
    refine wp_enter 22 #[.agg (List.toArray [.int .u8 h0, .int .u8 h1, .int .u8 h2, .int .u8 h3, .int .i64 h4, .int .i64 h5, .int .i64 h6])] (by first | kernel_rfl | go_simp) (magic_calls w4.drew h0 h1 h2 h3 h4 h5 h6) ?_
    rintro e w5 ⟨rfl, hc5⟩
    have HS5 : Hid (_ ∧ _) := ⟨(hc5.block w3.heap.size (Array.getElem?_eq_some_iff.1 HS.out.1).1 (by omega)).trans HS.out.1, HS.out.2.chg hc5 (by omega)⟩
    have HC5 : Hid _ := (Chg.drew (Chg.refl 0 0 w4)).trans hc5
    refine ⟨_, rfl, HS5.out, ?_⟩
    clear hc5
    go_simp
    refine held_one 3 rfl rfl (by kernel_rfl) ?_
    have heq := equal_bytes w5 34 4 Tryd.underlying34 (xs := [h0, h1, h2, h3]) (ys := mg) (by rw [← Hmg.out]; exact HB.out.take 4) byt_mg rfl rfl
    obtain ⟨bm, hbm⟩ : ∃ bm, bm = decide (xs.take 4 = mg) := ⟨_, rfl⟩
    have hb4 : decide ([h0, h1, h2, h3] = mg) = bm := by rw [hbm, Hmg.out]
    rw [hb4] at heq
    simp only [mg, List.map_cons, List.map_nil] at heq
    have Hbm : Hid _ := hbm
    clear hb4 hbm
    refine wp_given (v := .bool (!bm)) (w' := w5) (by simp only [execOp, Act.eval]; go_simp) ⟨HS5.out, ?_⟩
    go_simp
    refine held_done (by kernel_rfl) (NoPanic.normal ?_)
    go_wp2
    go_meet
    exact ⟨by rw [Hbm.out], HC5.out⟩
  case rest =>
    obtain ⟨rfl, hC5⟩ := hcut
    generalize wc = w5 at *
    have s5 := hC5.size
    have HC5 : Hid _ := HC4.out.trans hC5
    have HH5 : Hid _ := (hC5.block w3.heap.size (by omega) (by omega)).trans HH4.out
    have HD5 : Hid _ := (hC5.block (w.heap.size + 2) (by omega) (by omega)).trans HD4.out
    have HR5 : Hid _ := (HC5.out.block w.heap.size (by omega) (by omega)).trans Hz2.out
    have HQ5 : Hid _ := (HC5.out.block (w.heap.size + 1) (by omega) (by omega)).trans Hz3.out
    have HG5 : Hid _ := HG4.out.chg hC5 (by omega)
    have HC5w : Hid _ := HA.out.trans HC5.out
    clear hC5 HH4 HD4 HG4 HC4 Hz2 Hz3
    by_cases hm : xs.take 4 = mg
    · have hmd : (!decide (xs.take 4 = mg)) = false := by rw [decide_eq_true hm]; rfl
      rw [hmd]
      have Hm : Hid _ := hm
      obtain ⟨k0, k1, k2, k3, k4, k5, k6⟩ : w5.cell? ⟨w3.heap.size, 0, none⟩ = some (.int .u8 h0) ∧ w5.cell? ⟨w3.heap.size, 1, none⟩ = some (.int .u8 h1) ∧ w5.cell? ⟨w3.heap.size, 2, none⟩ = some (.int .u8 h2) ∧ w5.cell? ⟨w3.heap.size, 3, none⟩ = some (.int .u8 h3) ∧ w5.cell? ⟨w3.heap.size, 4, none⟩ = some (.int .i64 h4) ∧ w5.cell? ⟨w3.heap.size, 5, none⟩ = some (.int .i64 h5) ∧ w5.cell? ⟨w3.heap.size, 6, none⟩ = some (.int .i64 h6) := by
        have := HH5.out
        simp [World.cell?, this]
      clear hm hmd
      by_cases hk : 1 ≤ h4 ∧ h4 ≤ 4
      · obtain ⟨hk1, hk2⟩ := hk
        have g1 : ¬ h4 < 1 := by omega
        have g2 : ¬ h4 > 4 := by omega
        have Hk : Hid (1 ≤ h4 ∧ h4 ≤ 4) := ⟨hk1, hk2⟩
        clear hk1 hk2
        go_upto_region 9 with fail
        clear k0 k1 k2 k3 k4 k5 k6 g1 g2
        have HS : Hid ((fun w' : World => (w'.heap[w3.heap.size]? = some (.cells (List.toArray [.int .u8 h0, .int .u8 h1, .int .u8 h2, .int .u8 h3, .int .i64 h4, .int .i64 h5, .int .i64 h6]) 36 (0, 0)) ∧ w'.heap[w.heap.size + 2]? = some (.cells cs.toArray 33 (0, 0))) ∧ w'.cell? ⟨2, 0, none⟩ = some (.iface tM vM)) w5.drew) := ⟨⟨HH5.out, HD5.out⟩, HG5.out.eM⟩
        refine held_region (fun w' : World => (w'.heap[w3.heap.size]? = some (.cells (List.toArray [.int .u8 h0, .int .u8 h1, .int .u8 h2, .int .u8 h3, .int .i64 h4, .int .i64 h5, .int .i64 h6]) 36 (0, 0)) ∧ w'.heap[w.heap.size + 2]? = some (.cells cs.toArray 33 (0, 0))) ∧ w'.cell? ⟨2, 0, none⟩ = some (.iface tM vM)) (by kernel_rfl) ?_
        refine held_take 0 (.agg cs.toArray) rfl (by kernel_rfl) (by kernel_rfl) (by kernel_rfl) (fun _ _ _ h => h) (yieldsIf_load_mid (by kernel_rfl) 33 (.tmp 5) rfl (w.heap.size + 2) 0 rfl cs _ (fun w' hw' => row_rng hw'.1.2) Tryd.underlying33 rfl hi28) HS.out ?_
        go_simp
        refine held_take 1 (.agg (List.toArray [.int .u8 h0, .int .u8 h1, .int .u8 h2, .int .u8 h3, .int .i64 h4, .int .i64 h5, .int .i64 h6])) rfl (by kernel_rfl) (by kernel_rfl) (by kernel_rfl) (fun _ _ _ h => h) (yieldsIf_load_mid (by kernel_rfl) 36 (.tmp 6) rfl w3.heap.size 0 rfl [.int .u8 h0, .int .u8 h1, .int .u8 h2, .int .u8 h3, .int .i64 h4, .int .i64 h5, .int .i64 h6] _ (fun w' hw' => row_rng hw'.1.1) Tryd.underlying36 rfl (by kernel_rfl)) HS.out ?_
        go_simp
        have hc56 := Chg.drew (Chg.refl 0 0 w5)
        generalize w5.drew = w6 at *
        have s6 := hc56.size
        have HC6 : Hid _ := HC5w.out.trans hc56
        have R6 := (hc56.block w.heap.size (Array.getElem?_eq_some_iff.1 HR5.out).1 (by omega)).trans HR5.out
        have Q6 := (hc56.block (w.heap.size + 1) (Array.getElem?_eq_some_iff.1 HQ5.out).1 (by omega)).trans HQ5.out
        refine held_one 2 rfl rfl (by kernel_rfl) ?_
        refine wp_store_row 33 (.tmp 2) (.tmp 39) rfl rfl w.heap.size rfl cs Z64 33 rfl R6 (by rw [Z64_length]; exact HL1.out) hi28 HL2.out ?_
        intro w7 hb7 hc7
        have HS7 : Hid ((fun w' : World => (w'.heap[w3.heap.size]? = some (.cells (List.toArray [.int .u8 h0, .int .u8 h1, .int .u8 h2, .int .u8 h3, .int .i64 h4, .int .i64 h5, .int .i64 h6]) 36 (0, 0)) ∧ w'.heap[w.heap.size + 2]? = some (.cells cs.toArray 33 (0, 0))) ∧ w'.cell? ⟨2, 0, none⟩ = some (.iface tM vM)) w7) := ⟨⟨(hc7.block w3.heap.size (Array.getElem?_eq_some_iff.1 HS.out.1.1).1 (by omega)).trans HS.out.1.1, (hc7.block (w.heap.size + 2) (Array.getElem?_eq_some_iff.1 HS.out.1.2).1 (by omega)).trans HS.out.1.2⟩, hc7.cell HS.out.2 (by omega)⟩
        have Q7 := (hc7.block (w.heap.size + 1) (Array.getElem?_eq_some_iff.1 Q6).1 (by omega)).trans Q6
        refine ⟨HS7.out, ?_⟩
        go_simp
        refine held_one 3 rfl rfl (by kernel_rfl) ?_
        refine wp_store_row 36 (.tmp 3) (.tmp 40) rfl rfl (w.heap.size + 1) rfl [.int .u8 h0, .int .u8 h1, .int .u8 h2, .int .u8 h3, .int .i64 h4, .int .i64 h5, .int .i64 h6] z7 36 rfl Q7 rfl (by kernel_rfl) (by simp [Value.oneCell']) ?_
        intro w8 hb8 hc8
        have HS8 : Hid ((fun w' : World => (w'.heap[w3.heap.size]? = some (.cells (List.toArray [.int .u8 h0, .int .u8 h1, .int .u8 h2, .int .u8 h3, .int .i64 h4, .int .i64 h5, .int .i64 h6]) 36 (0, 0)) ∧ w'.heap[w.heap.size + 2]? = some (.cells cs.toArray 33 (0, 0))) ∧ w'.cell? ⟨2, 0, none⟩ = some (.iface tM vM)) w8) := ⟨⟨(hc8.block w3.heap.size (Array.getElem?_eq_some_iff.1 HS7.out.1.1).1 (by omega)).trans HS7.out.1.1, (hc8.block (w.heap.size + 2) (Array.getElem?_eq_some_iff.1 HS7.out.1.2).1 (by omega)).trans HS7.out.1.2⟩, hc8.cell HS7.out.2 (by omega)⟩
        have Hb7 : Hid _ := (hc8.block w.heap.size (Array.getElem?_eq_some_iff.1 hb7).1 (by omega)).trans hb7
        have Hb8 : Hid _ := hb8
        have cz : Chg w.heap.size (w.heap.size + 2) w6 w8 := (hc7.widen (by omega) (by omega)).trans (hc8.widen (by omega) (by omega))
        have HCZ : Hid _ := cz
        refine ⟨HS8.out, ?_⟩
        go_simp
        refine held_one 4 rfl rfl (by kernel_rfl) ?_
        refine wp_given (v := .nilIface) (w' := w8) (by first | kernel_rfl | go_simp) ⟨HS8.out, ?_⟩
        go_simp
        refine held_done (by kernel_rfl) (NoPanic.normal ?_)
        go_wp2
        have hl1 : (loadVar 33 ⟨w.heap.size, 0, none⟩).run Tryd.prog w8 = .ok (.agg cs.toArray) w8 := run_loadVar_mid _ _ _ _ cs _ (row_rng Hb7.out) Tryd.underlying33 rfl hi28
        have hl2 : (loadVar 36 ⟨w.heap.size + 1, 0, none⟩).run Tryd.prog w8 = .ok (.agg (List.toArray [.int .u8 h0, .int .u8 h1, .int .u8 h2, .int .u8 h3, .int .i64 h4, .int .i64 h5, .int .i64 h6])) w8 := run_loadVar_mid _ _ _ _ [.int .u8 h0, .int .u8 h1, .int .u8 h2, .int .u8 h3, .int .i64 h4, .int .i64 h5, .int .i64 h6] _ (row_rng Hb8.out) Tryd.underlying36 rfl (by kernel_rfl)
        refine bodyPost_ret (v := .tuple #[.agg cs.toArray, .agg (List.toArray [.int .u8 h0, .int .u8 h1, .int .u8 h2, .int .u8 h3, .int .i64 h4, .int .i64 h5, .int .i64 h6]), .nilIface]) (results_bhe Tryd.results16 rfl rfl rfl hl1 hl2) rfl ⟨_, by rw [He7.out], HC6.out.step HCZ.out (by omega), ?_⟩
        exact Or.inr (Or.inr ⟨Hm.out, by rw [Hx4.out]; exact Hk.out, rfl⟩)
      · have hg : h4 < 1 ∨ (¬ h4 < 1 ∧ h4 > 4) := by omega
        have Hk : Hid _ := hk
        rcases hg with g1 | ⟨g1, g2⟩
        all_goals
          go_upto_region 8 with fail
          have HS : Hid ((fun w' : World => (w'.heap[w3.heap.size]? = some (.cells (List.toArray [.int .u8 h0, .int .u8 h1, .int .u8 h2, .int .u8 h3, .int .i64 h4, .int .i64 h5, .int .i64 h6]) 36 (0, 0)) ∧ w'.heap[w.heap.size + 2]? = some (.cells cs.toArray 33 (0, 0))) ∧ w'.cell? ⟨3, 0, none⟩ = some (.iface tK vK)) w5.drew) := ⟨⟨HH5.out, HD5.out⟩, HG5.out.eK⟩
          refine held_region (fun w' : World => (w'.heap[w3.heap.size]? = some (.cells (List.toArray [.int .u8 h0, .int .u8 h1, .int .u8 h2, .int .u8 h3, .int .i64 h4, .int .i64 h5, .int .i64 h6]) 36 (0, 0)) ∧ w'.heap[w.heap.size + 2]? = some (.cells cs.toArray 33 (0, 0))) ∧ w'.cell? ⟨3, 0, none⟩ = some (.iface tK vK)) (by kernel_rfl) ?_
          refine held_take 0 (.agg cs.toArray) rfl (by kernel_rfl) (by kernel_rfl) (by kernel_rfl) (fun _ _ _ h => h) (yieldsIf_load_mid (by kernel_rfl) 33 (.tmp 5) rfl (w.heap.size + 2) 0 rfl cs _ (fun w' hw' => row_rng hw'.1.2) Tryd.underlying33 rfl hi28) HS.out ?_
          go_simp
          refine held_take 1 (.agg (List.toArray [.int .u8 h0, .int .u8 h1, .int .u8 h2, .int .u8 h3, .int .i64 h4, .int .i64 h5, .int .i64 h6])) rfl (by kernel_rfl) (by kernel_rfl) (by kernel_rfl) (fun _ _ _ h => h) (yieldsIf_load_mid (by kernel_rfl) 36 (.tmp 6) rfl w3.heap.size 0 rfl [.int .u8 h0, .int .u8 h1, .int .u8 h2, .int .u8 h3, .int .i64 h4, .int .i64 h5, .int .i64 h6] _ (fun w' hw' => row_rng hw'.1.1) Tryd.underlying36 rfl (by kernel_rfl)) HS.out ?_
          go_simp
          refine held_take 2 (.iface tK vK) rfl (by kernel_rfl) (by kernel_rfl) (by kernel_rfl) (fun _ _ _ h => h) (.inl ⟨by kernel_rfl, fun w' hw' => by have m0 := hw'.2; go_simp⟩) HS.out ?_
          go_simp
          refine held_one 3 rfl rfl (by kernel_rfl) ?_
          refine wp_enter 20 #[.int .i64 0, .iface tK vK] (by first | kernel_rfl | go_simp) (faultOf_calls w5.drew 0 tK vK) ?_
          rintro e w6 ⟨rfl, hF, hc6⟩
          have hc56 := (Chg.drew (Chg.refl 0 0 w5)).trans hc6
          have HF6 : Hid _ := hF
          have HS6 : Hid ((fun w' : World => (w'.heap[w3.heap.size]? = some (.cells (List.toArray [.int .u8 h0, .int .u8 h1, .int .u8 h2, .int .u8 h3, .int .i64 h4, .int .i64 h5, .int .i64 h6]) 36 (0, 0)) ∧ w'.heap[w.heap.size + 2]? = some (.cells cs.toArray 33 (0, 0))) ∧ w'.cell? ⟨3, 0, none⟩ = some (.iface tK vK)) w6) := ⟨⟨(hc6.block w3.heap.size (Array.getElem?_eq_some_iff.1 HS.out.1.1).1 (by omega)).trans HS.out.1.1, (hc6.block (w.heap.size + 2) (Array.getElem?_eq_some_iff.1 HS.out.1.2).1 (by omega)).trans HS.out.1.2⟩, hc6.cell HS.out.2 (by omega)⟩
          refine ⟨_, rfl, HS6.out, ?_⟩
          have hsd : w5.drew.heap.size = w5.heap.size := rfl
          rw [hsd]
          go_simp
          have HC6 : Hid _ := HC5w.out.trans hc56
          have R6 := (hc56.block w.heap.size (Array.getElem?_eq_some_iff.1 HR5.out).1 (by omega)).trans HR5.out
          have Q6 := (hc56.block (w.heap.size + 1) (Array.getElem?_eq_some_iff.1 HQ5.out).1 (by omega)).trans HQ5.out
          refine held_one 4 rfl rfl (by kernel_rfl) ?_
          refine wp_store_row 33 (.tmp 2) (.tmp 35) rfl rfl w.heap.size rfl cs Z64 33 rfl R6 (by rw [Z64_length]; exact HL1.out) hi28 HL2.out ?_
          intro w7 hb7 hc7
          have HS7 : Hid ((fun w' : World => (w'.heap[w3.heap.size]? = some (.cells (List.toArray [.int .u8 h0, .int .u8 h1, .int .u8 h2, .int .u8 h3, .int .i64 h4, .int .i64 h5, .int .i64 h6]) 36 (0, 0)) ∧ w'.heap[w.heap.size + 2]? = some (.cells cs.toArray 33 (0, 0))) ∧ w'.cell? ⟨3, 0, none⟩ = some (.iface tK vK)) w7) := ⟨⟨(hc7.block w3.heap.size (Array.getElem?_eq_some_iff.1 HS6.out.1.1).1 (by omega)).trans HS6.out.1.1, (hc7.block (w.heap.size + 2) (Array.getElem?_eq_some_iff.1 HS6.out.1.2).1 (by omega)).trans HS6.out.1.2⟩, hc7.cell HS6.out.2 (by omega)⟩
          have Q7 := (hc7.block (w.heap.size + 1) (Array.getElem?_eq_some_iff.1 Q6).1 (by omega)).trans Q6
          refine ⟨HS7.out, ?_⟩
          go_simp
          refine held_one 5 rfl rfl (by kernel_rfl) ?_
          refine wp_store_row 36 (.tmp 3) (.tmp 36) rfl rfl (w.heap.size + 1) rfl [.int .u8 h0, .int .u8 h1, .int .u8 h2, .int .u8 h3, .int .i64 h4, .int .i64 h5, .int .i64 h6] z7 36 rfl Q7 rfl (by kernel_rfl) (by simp [Value.oneCell']) ?_
          intro w8 hb8 hc8
          have HS8 : Hid ((fun w' : World => (w'.heap[w3.heap.size]? = some (.cells (List.toArray [.int .u8 h0, .int .u8 h1, .int .u8 h2, .int .u8 h3, .int .i64 h4, .int .i64 h5, .int .i64 h6]) 36 (0, 0)) ∧ w'.heap[w.heap.size + 2]? = some (.cells cs.toArray 33 (0, 0))) ∧ w'.cell? ⟨3, 0, none⟩ = some (.iface tK vK)) w8) := ⟨⟨(hc8.block w3.heap.size (Array.getElem?_eq_some_iff.1 HS7.out.1.1).1 (by omega)).trans HS7.out.1.1, (hc8.block (w.heap.size + 2) (Array.getElem?_eq_some_iff.1 HS7.out.1.2).1 (by omega)).trans HS7.out.1.2⟩, hc8.cell HS7.out.2 (by omega)⟩
          have Hb7 : Hid _ := (hc8.block w.heap.size (Array.getElem?_eq_some_iff.1 hb7).1 (by omega)).trans hb7
          have Hb8 : Hid _ := hb8
          have cz : Chg w.heap.size (w.heap.size + 2) w6 w8 := (hc7.widen (by omega) (by omega)).trans (hc8.widen (by omega) (by omega))
          have HCZ : Hid _ := cz
          refine ⟨HS8.out, ?_⟩
          go_simp
          refine held_one 6 rfl rfl (by kernel_rfl) ?_
          refine wp_given (v := .iface 53 (.pointer (some ⟨w5.heap.size, 0, none⟩))) (w' := w8) (by first | kernel_rfl | go_simp) ⟨HS8.out, ?_⟩
          go_simp
          refine held_done (by kernel_rfl) (NoPanic.normal ?_)
          go_wp2
          have hl1 : (loadVar 33 ⟨w.heap.size, 0, none⟩).run Tryd.prog w8 = .ok (.agg cs.toArray) w8 := run_loadVar_mid _ _ _ _ cs _ (row_rng Hb7.out) Tryd.underlying33 rfl hi28
          have hl2 : (loadVar 36 ⟨w.heap.size + 1, 0, none⟩).run Tryd.prog w8 = .ok (.agg (List.toArray [.int .u8 h0, .int .u8 h1, .int .u8 h2, .int .u8 h3, .int .i64 h4, .int .i64 h5, .int .i64 h6])) w8 := run_loadVar_mid _ _ _ _ [.int .u8 h0, .int .u8 h1, .int .u8 h2, .int .u8 h3, .int .i64 h4, .int .i64 h5, .int .i64 h6] _ (row_rng Hb8.out) Tryd.underlying36 rfl (by kernel_rfl)
          refine bodyPost_ret (v := .tuple #[.agg cs.toArray, .agg (List.toArray [.int .u8 h0, .int .u8 h1, .int .u8 h2, .int .u8 h3, .int .i64 h4, .int .i64 h5, .int .i64 h6]), .iface 53 (.pointer (some ⟨w5.heap.size, 0, none⟩))]) (results_bhe Tryd.results16 rfl rfl rfl hl1 hl2) rfl ⟨_, by rw [He7.out], HC6.out.step HCZ.out (by omega), ?_⟩
          exact Or.inr (Or.inl ⟨Hm.out, by rw [Hx4.out]; exact Hk.out, ⟨w5.heap.size, 0, by omega, rfl, (HCZ.out.block w5.heap.size (Array.getElem?_eq_some_iff.1 HF6.out).1 (by omega)).trans HF6.out⟩⟩)
    · have hmd : (!decide (xs.take 4 = mg)) = true := by rw [decide_eq_false hm]; rfl
      rw [hmd]
      have Hm : Hid _ := hm
      go_upto_region 6 with fail
      have HS : Hid ((fun w' : World => (w'.heap[w3.heap.size]? = some (.cells (List.toArray [.int .u8 h0, .int .u8 h1, .int .u8 h2, .int .u8 h3, .int .i64 h4, .int .i64 h5, .int .i64 h6]) 36 (0, 0)) ∧ w'.heap[w.heap.size + 2]? = some (.cells cs.toArray 33 (0, 0))) ∧ w'.cell? ⟨2, 0, none⟩ = some (.iface tM vM)) w5.drew) := ⟨⟨HH5.out, HD5.out⟩, HG5.out.eM⟩
      refine held_region (fun w' : World => (w'.heap[w3.heap.size]? = some (.cells (List.toArray [.int .u8 h0, .int .u8 h1, .int .u8 h2, .int .u8 h3, .int .i64 h4, .int .i64 h5, .int .i64 h6]) 36 (0, 0)) ∧ w'.heap[w.heap.size + 2]? = some (.cells cs.toArray 33 (0, 0))) ∧ w'.cell? ⟨2, 0, none⟩ = some (.iface tM vM)) (by kernel_rfl) ?_
      refine held_take 0 (.agg cs.toArray) rfl (by kernel_rfl) (by kernel_rfl) (by kernel_rfl) (fun _ _ _ h => h) (yieldsIf_load_mid (by kernel_rfl) 33 (.tmp 5) rfl (w.heap.size + 2) 0 rfl cs _ (fun w' hw' => row_rng hw'.1.2) Tryd.underlying33 rfl hi28) HS.out ?_
      go_simp
      refine held_take 1 (.agg (List.toArray [.int .u8 h0, .int .u8 h1, .int .u8 h2, .int .u8 h3, .int .i64 h4, .int .i64 h5, .int .i64 h6])) rfl (by kernel_rfl) (by kernel_rfl) (by kernel_rfl) (fun _ _ _ h => h) (yieldsIf_load_mid (by kernel_rfl) 36 (.tmp 6) rfl w3.heap.size 0 rfl [.int .u8 h0, .int .u8 h1, .int .u8 h2, .int .u8 h3, .int .i64 h4, .int .i64 h5, .int .i64 h6] _ (fun w' hw' => row_rng hw'.1.1) Tryd.underlying36 rfl (by kernel_rfl)) HS.out ?_
      go_simp
      refine held_take 2 (.iface tM vM) rfl (by kernel_rfl) (by kernel_rfl) (by kernel_rfl) (fun _ _ _ h => h) (.inl ⟨by kernel_rfl, fun w' hw' => by have m0 := hw'.2; go_simp⟩) HS.out ?_
      go_simp
      refine held_one 3 rfl rfl (by kernel_rfl) ?_
      refine wp_enter 20 #[.int .i64 0, .iface tM vM] (by first | kernel_rfl | go_simp) (faultOf_calls w5.drew 0 tM vM) ?_
      rintro e w6 ⟨rfl, hF, hc6⟩
      have hc56 := (Chg.drew (Chg.refl 0 0 w5)).trans hc6
      have HF6 : Hid _ := hF
      have HS6 : Hid ((fun w' : World => (w'.heap[w3.heap.size]? = some (.cells (List.toArray [.int .u8 h0, .int .u8 h1, .int .u8 h2, .int .u8 h3, .int .i64 h4, .int .i64 h5, .int .i64 h6]) 36 (0, 0)) ∧ w'.heap[w.heap.size + 2]? = some (.cells cs.toArray 33 (0, 0))) ∧ w'.cell? ⟨2, 0, none⟩ = some (.iface tM vM)) w6) := ⟨⟨(hc6.block w3.heap.size (Array.getElem?_eq_some_iff.1 HS.out.1.1).1 (by omega)).trans HS.out.1.1, (hc6.block (w.heap.size + 2) (Array.getElem?_eq_some_iff.1 HS.out.1.2).1 (by omega)).trans HS.out.1.2⟩, hc6.cell HS.out.2 (by omega)⟩
      refine ⟨_, rfl, HS6.out, ?_⟩
      have hsd : w5.drew.heap.size = w5.heap.size := rfl
      rw [hsd]
      go_simp
      have HC6 : Hid _ := HC5w.out.trans hc56
      have R6 := (hc56.block w.heap.size (Array.getElem?_eq_some_iff.1 HR5.out).1 (by omega)).trans HR5.out
      have Q6 := (hc56.block (w.heap.size + 1) (Array.getElem?_eq_some_iff.1 HQ5.out).1 (by omega)).trans HQ5.out
      refine held_one 4 rfl rfl (by kernel_rfl) ?_
      refine wp_store_row 33 (.tmp 2) (.tmp 23) rfl rfl w.heap.size rfl cs Z64 33 rfl R6 (by rw [Z64_length]; exact HL1.out) hi28 HL2.out ?_
      intro w7 hb7 hc7
      have HS7 : Hid ((fun w' : World => (w'.heap[w3.heap.size]? = some (.cells (List.toArray [.int .u8 h0, .int .u8 h1, .int .u8 h2, .int .u8 h3, .int .i64 h4, .int .i64 h5, .int .i64 h6]) 36 (0, 0)) ∧ w'.heap[w.heap.size + 2]? = some (.cells cs.toArray 33 (0, 0))) ∧ w'.cell? ⟨2, 0, none⟩ = some (.iface tM vM)) w7) := ⟨⟨(hc7.block w3.heap.size (Array.getElem?_eq_some_iff.1 HS6.out.1.1).1 (by omega)).trans HS6.out.1.1, (hc7.block (w.heap.size + 2) (Array.getElem?_eq_some_iff.1 HS6.out.1.2).1 (by omega)).trans HS6.out.1.2⟩, hc7.cell HS6.out.2 (by omega)⟩
      have Q7 := (hc7.block (w.heap.size + 1) (Array.getElem?_eq_some_iff.1 Q6).1 (by omega)).trans Q6
      refine ⟨HS7.out, ?_⟩
      go_simp
      refine held_one 5 rfl rfl (by kernel_rfl) ?_
      refine wp_store_row 36 (.tmp 3) (.tmp 24) rfl rfl (w.heap.size + 1) rfl [.int .u8 h0, .int .u8 h1, .int .u8 h2, .int .u8 h3, .int .i64 h4, .int .i64 h5, .int .i64 h6] z7 36 rfl Q7 rfl (by kernel_rfl) (by simp [Value.oneCell']) ?_
      intro w8 hb8 hc8
      have HS8 : Hid ((fun w' : World => (w'.heap[w3.heap.size]? = some (.cells (List.toArray [.int .u8 h0, .int .u8 h1, .int .u8 h2, .int .u8 h3, .int .i64 h4, .int .i64 h5, .int .i64 h6]) 36 (0, 0)) ∧ w'.heap[w.heap.size + 2]? = some (.cells cs.toArray 33 (0, 0))) ∧ w'.cell? ⟨2, 0, none⟩ = some (.iface tM vM)) w8) := ⟨⟨(hc8.block w3.heap.size (Array.getElem?_eq_some_iff.1 HS7.out.1.1).1 (by omega)).trans HS7.out.1.1, (hc8.block (w.heap.size + 2) (Array.getElem?_eq_some_iff.1 HS7.out.1.2).1 (by omega)).trans HS7.out.1.2⟩, hc8.cell HS7.out.2 (by omega)⟩
      have Hb7 : Hid _ := (hc8.block w.heap.size (Array.getElem?_eq_some_iff.1 hb7).1 (by omega)).trans hb7
      have Hb8 : Hid _ := hb8
      have cz : Chg w.heap.size (w.heap.size + 2) w6 w8 := (hc7.widen (by omega) (by omega)).trans (hc8.widen (by omega) (by omega))
      have HCZ : Hid _ := cz
      refine ⟨HS8.out, ?_⟩
      go_simp
      refine held_one 6 rfl rfl (by kernel_rfl) ?_
      refine wp_given (v := .iface 53 (.pointer (some ⟨w5.heap.size, 0, none⟩))) (w' := w8) (by first | kernel_rfl | go_simp) ⟨HS8.out, ?_⟩
      go_simp
      refine held_done (by kernel_rfl) (NoPanic.normal ?_)
      go_wp2
      have hl1 : (loadVar 33 ⟨w.heap.size, 0, none⟩).run Tryd.prog w8 = .ok (.agg cs.toArray) w8 := run_loadVar_mid _ _ _ _ cs _ (row_rng Hb7.out) Tryd.underlying33 rfl hi28
      have hl2 : (loadVar 36 ⟨w.heap.size + 1, 0, none⟩).run Tryd.prog w8 = .ok (.agg (List.toArray [.int .u8 h0, .int .u8 h1, .int .u8 h2, .int .u8 h3, .int .i64 h4, .int .i64 h5, .int .i64 h6])) w8 := run_loadVar_mid _ _ _ _ [.int .u8 h0, .int .u8 h1, .int .u8 h2, .int .u8 h3, .int .i64 h4, .int .i64 h5, .int .i64 h6] _ (row_rng Hb8.out) Tryd.underlying36 rfl (by kernel_rfl)
      refine bodyPost_ret (v := .tuple #[.agg cs.toArray, .agg (List.toArray [.int .u8 h0, .int .u8 h1, .int .u8 h2, .int .u8 h3, .int .i64 h4, .int .i64 h5, .int .i64 h6]), .iface 53 (.pointer (some ⟨w5.heap.size, 0, none⟩))]) (results_bhe Tryd.results16 rfl rfl rfl hl1 hl2) rfl ⟨_, by rw [He7.out], HC6.out.step HCZ.out (by omega), ?_⟩
      exact Or.inl ⟨Hm.out, ⟨w5.heap.size, 0, by omega, rfl, (HCZ.out.block w5.heap.size (Array.getElem?_eq_some_iff.1 HF6.out).1 (by omega)).trans HF6.out⟩⟩

end Go.Proofs.YtcgemenhkjfejaaDoor
