/- unescapeBlock of the program. -/
import Derived.Test.YtcgemenhkjfejaaDoorOpenBlk2
import Derived.Test.YtcgemenhkjfejaaDoorBytesOf
namespace Go.Proofs.YtcgemenhkjfejaaDoor
open Go.RowKit

/-- What stood ahead of the escaping. -/
def unescL (xs : List Int) (esc : Bool) : List Int := if esc = true then mg ++ xs.drop 4 else xs
def unescB (xs : List Int) (esc : Bool) : Bool := if esc = true then decide (xs.take 4 = [0, 0, 0, 0]) else !decide (xs.take 4 = mg)

theorem results_be {P : Program} {fn : Func} {p1 p3 : Tmp} {t1 : TypeId} {w : World} {tmps : Array Value} {a1 : Addr} {v1 v3 : Value} (h : fn.results = #[.cell p1 t1, .tmp p3]) (h1 : tmps.getD p1 undef = .pointer (some a1)) (h3 : tmps.getD p3 undef = v3)
    (hl1 : (loadVar t1 a1).run P w = .ok v1 w) : (results fn tmps).run P w = .ok (.tuple #[v1, v3]) w := by
  have h1' : tmps[p1]?.getD undef = .pointer (some a1) := by simpa using h1
  have h3' : tmps[p3]?.getD undef = v3 := by simpa using h3
  simp only [results, h]
  simp [asAddr, h1', h3', hl1]

set_option maxRecDepth 20000 in
set_option maxHeartbeats 8000000 in
theorem unescapeBlock_calls (w : World) (xs : List Int) (esc : Bool) {tL tM tK : TypeId} {vL vM vK : Value} (hx : xs.length = 64) (hB : Byt xs) (hG : Glob w tL tM tK vL vM vK) :
    Calls Tryd.prog 18 #[.agg (xs.map (Value.int .u8)).toArray, .bool esc] w fun e w' => e = .returned (.tuple #[.agg ((unescL xs esc).map (Value.int .u8)).toArray, .bool (unescB xs esc)]) ∧ Chg 0 0 w w' := by
  obtain ⟨cs, hcs⟩ : ∃ cs, cs = xs.map (Value.int .u8) := ⟨_, rfl⟩
  have L1 : cs.length = 64 := by rw [hcs]; simpa using hx
  have L2 : ∀ v ∈ cs, v.oneCell' = true := by rw [hcs]; exact ints_oneCell _ _
  have HL1 : Hid _ := L1
  have HL2 : Hid _ := L2
  have Hcs : Hid _ := hcs
  have Hx : Hid _ := hx
  have HB : Hid (Byt xs) := hB
  have hi44 : (Tryd.prog.info? 33).map (·.size) = some cs.length := by rw [L1]; kernel_rfl
  have u44 := Tryd.underlying33
  rw [← hcs]
  obtain ⟨z1, z2, z3⟩ := alloc2 w (.cells cs.toArray 33) (.cells Z64.toArray 33)
  have hA : Chg 0 0 w ((w.alloc (.cells cs.toArray 33)).alloc (.cells Z64.toArray 33)) := (Chg.alloc (Chg.refl 0 0 w) _).alloc _
  obtain ⟨h0, h1, h2, h3, h4, h5, h6, e7, hmg⟩ : ∃ h0 h1 h2 h3 h4 h5 h6 : Int, hd7 xs = #[.int .u8 h0, .int .u8 h1, .int .u8 h2, .int .u8 h3, .int .i64 h4, .int .i64 h5, .int .i64 h6] ∧ xs.take 4 = [h0, h1, h2, h3] := by
    refine ⟨_, _, _, _, _, _, _, rfl, ?_⟩
    match xs, hx with
    | a :: b :: c :: d :: r, _ => simp
  have Hmg : Hid _ := hmg
  have He7 : Hid _ := e7
  have HGl : Hid _ := hG
  clear L1 L2 hcs hx hB hG e7 hmg
  go_enter Tryd.func18, Tryd.ntmps18
  go_upto_region 1 with fail
  simp only [Z64_eq]
  generalize (w.alloc (.cells cs.toArray 33)).alloc (.cells Z64.toArray 33) = wa at *
  have Hz2 : Hid _ := z2
  have Hz3 : Hid _ := z3
  have HA : Hid _ := hA
  have HR : Hid _ := row_rng z2
  have hN := headerOf_calls wa xs Hx.out HB.out
  rw [← Hcs.out, He7.out] at hN
  have hN2 := fun w' => magic_calls w' h0 h1 h2 h3 h4 h5 h6
  clear z2 z3 hA
  go_upto_region 2 with (first
    | (refine wpList_load_mid rfl 33 (.tmp 2) rfl w.heap.size 0 rfl cs _ HR.out u44 rfl hi44 ?_)
    | (refine hN.mono ?_; rintro e w1 ⟨rfl, hc1⟩)
    | (refine (hN2 _).mono ?_; rintro e w2 ⟨rfl, hc2⟩))
  have s1 := hc1.size
  have s2 := hc2.size
  have C2 := hc1.trans hc2
  have C3 : Chg 0 0 w2 (w2.alloc (.cells #[.int .u8 h0, .int .u8 h1, .int .u8 h2, .int .u8 h3] 34)) := Chg.alloc (Chg.refl 0 0 w2) _
  have C13 := C2.trans C3
  have HLd : Hid ((w2.alloc (.cells #[.int .u8 h0, .int .u8 h1, .int .u8 h2, .int .u8 h3] 34)).heap[w2.heap.size]? = some (.cells (List.toArray [.int .u8 h0, .int .u8 h1, .int .u8 h2, .int .u8 h3]) 34 (0, 0))) := heap_new _ _
  have HD : Hid _ := (C13.block w.heap.size (by omega) (by omega)).trans Hz2.out
  have HQ : Hid _ := (C13.block (w.heap.size + 1) (by omega) (by omega)).trans Hz3.out
  have HCw : Hid _ := HA.out.trans C13
  have hG3 := HGl.out.chg HCw.out (Or.inl (Nat.le_refl 0))
  have HMm : Hid (_ ∧ _ ∧ _ ∧ _) := ⟨hG3.m0, hG3.m1, hG3.m2, hG3.m3⟩
  have hgm := lt_of_cell HGl.out.m0
  have HRl : Hid _ := HL1.out
  have HRo : Hid _ := HL2.out
  clear C2 C3 C13 hG3 hc1 hc2 HR hN hN2 Hz2 Hz3 HA HGl
  generalize (w2.alloc (.cells #[.int .u8 h0, .int .u8 h1, .int .u8 h2, .int .u8 h3] 34)) = w3 at *
  cases esc
  · go_upto_region 3 with fail
    have HS : Hid ((fun w' : World => (w'.heap[w.heap.size]? = some (.cells cs.toArray 33 (0, 0)) ∧ w'.heap[w2.heap.size]? = some (.cells (List.toArray [.int .u8 h0, .int .u8 h1, .int .u8 h2, .int .u8 h3]) 34 (0, 0))) ∧ (w'.cell? ⟨1, 0, none⟩ = some (.int .u8 106) ∧ w'.cell? ⟨1, 1, none⟩ = some (.int .u8 108) ∧ w'.cell? ⟨1, 2, none⟩ = some (.int .u8 111) ∧ w'.cell? ⟨1, 3, none⟩ = some (.int .u8 103))) w3.drew) := ⟨⟨HD.out, HLd.out⟩, HMm.out⟩
    refine held_region (fun w' : World => (w'.heap[w.heap.size]? = some (.cells cs.toArray 33 (0, 0)) ∧ w'.heap[w2.heap.size]? = some (.cells (List.toArray [.int .u8 h0, .int .u8 h1, .int .u8 h2, .int .u8 h3]) 34 (0, 0))) ∧ (w'.cell? ⟨1, 0, none⟩ = some (.int .u8 106) ∧ w'.cell? ⟨1, 1, none⟩ = some (.int .u8 108) ∧ w'.cell? ⟨1, 2, none⟩ = some (.int .u8 111) ∧ w'.cell? ⟨1, 3, none⟩ = some (.int .u8 103))) (by kernel_rfl) ?_
    refine held_take 0 (.agg cs.toArray) rfl (by kernel_rfl) (by kernel_rfl) (by kernel_rfl) (fun _ _ _ h => h) (yieldsIf_load_mid (by kernel_rfl) 33 (.tmp 2) rfl w.heap.size 0 rfl cs _ (fun w' hw' => row_rng hw'.1.1) Tryd.underlying33 rfl hi44) HS.out ?_
    go_simp
    refine held_take 1 (.agg (List.toArray [.int .u8 h0, .int .u8 h1, .int .u8 h2, .int .u8 h3])) rfl (by kernel_rfl) (by kernel_rfl) (by kernel_rfl) (fun _ _ _ h => h) (yieldsIf_load_mid (by kernel_rfl) 34 (.tmp 6) rfl w2.heap.size 0 rfl [.int .u8 h0, .int .u8 h1, .int .u8 h2, .int .u8 h3] _ (fun w' hw' => row_rng hw'.1.2) Tryd.underlying34 rfl (by kernel_rfl)) HS.out ?_
    go_simp
    refine held_take 2 (.agg #[.int .u8 106, .int .u8 108, .int .u8 111, .int .u8 103]) rfl (by kernel_rfl) (by kernel_rfl) (by kernel_rfl) (fun _ _ _ h => h) (.inl ⟨by kernel_rfl, fun w' hw' => by obtain ⟨_, m0, m1, m2, m3⟩ := hw'; go_simp⟩) HS.out ?_
    go_simp
    have heq := fun w' => equal_bytes w' 34 4 Tryd.underlying34 (xs := [h0, h1, h2, h3]) (ys := mg) (by rw [← Hmg.out]; exact HB.out.take 4) byt_mg rfl rfl
    obtain ⟨bm, hbm⟩ : ∃ bm, bm = decide (xs.take 4 = mg) := ⟨_, rfl⟩
    have hb4 : decide ([h0, h1, h2, h3] = mg) = bm := by rw [hbm, Hmg.out]
    simp only [hb4] at heq
    simp only [mg, List.map_cons, List.map_nil] at heq
    have Hbm : Hid _ := hbm
    clear hb4 hbm
    refine held_take 3 (.bool (!bm)) rfl (by kernel_rfl) (by kernel_rfl) (by kernel_rfl) (fun _ _ _ h => h) (.inl ⟨by kernel_rfl, fun w' hw' => by have h9 := heq w'; simp only [execOp, Act.eval]; go_simp⟩) HS.out ?_
    go_simp
    clear heq
    refine held_one 4 rfl rfl (by kernel_rfl) ?_
    refine wp_store_row 33 (.tmp 4) (.tmp 14) rfl rfl (w.heap.size + 1) rfl cs Z64 33 rfl HQ.out (by rw [Z64_length]; exact HRl.out) hi44 HRo.out ?_
    intro w9 hb9 hc9
    have HS9 : Hid ((fun w' : World => (w'.heap[w.heap.size]? = some (.cells cs.toArray 33 (0, 0)) ∧ w'.heap[w2.heap.size]? = some (.cells (List.toArray [.int .u8 h0, .int .u8 h1, .int .u8 h2, .int .u8 h3]) 34 (0, 0))) ∧ (w'.cell? ⟨1, 0, none⟩ = some (.int .u8 106) ∧ w'.cell? ⟨1, 1, none⟩ = some (.int .u8 108) ∧ w'.cell? ⟨1, 2, none⟩ = some (.int .u8 111) ∧ w'.cell? ⟨1, 3, none⟩ = some (.int .u8 103))) w9) := ⟨⟨(hc9.block w.heap.size (Array.getElem?_eq_some_iff.1 HS.out.1.1).1 (by omega)).trans HS.out.1.1, (hc9.block w2.heap.size (Array.getElem?_eq_some_iff.1 HS.out.1.2).1 (by omega)).trans HS.out.1.2⟩, hc9.cell HS.out.2.1 (by omega), hc9.cell HS.out.2.2.1 (by omega), hc9.cell HS.out.2.2.2.1 (by omega), hc9.cell HS.out.2.2.2.2 (by omega)⟩
    have Hb9 : Hid _ := hb9
    have HC9 : Hid _ := HCw.out.step ((Chg.drew (Chg.refl (w.heap.size + 1) (w.heap.size + 1 + 1) w3)).trans hc9) (by omega)
    refine ⟨HS9.out, ?_⟩
    clear hb9 hc9
    go_simp
    refine held_one 5 rfl rfl (by kernel_rfl) ?_
    refine wp_given (v := .bool (!bm)) (w' := w9) (by first | kernel_rfl | go_simp) ⟨HS9.out, ?_⟩
    go_simp
    refine held_done (by kernel_rfl) (NoPanic.normal ?_)
    go_wp2
    have hl1 : (loadVar 33 ⟨w.heap.size + 1, 0, none⟩).run Tryd.prog w9 = .ok (.agg cs.toArray) w9 := run_loadVar_mid _ _ _ _ cs _ (row_rng Hb9.out) Tryd.underlying33 rfl hi44
    refine bodyPost_ret (v := .tuple #[.agg cs.toArray, .bool (!bm)]) (results_be Tryd.results18 rfl rfl hl1) rfl ⟨?_, HC9.out⟩
    rw [Hcs.out, Hbm.out]; rfl
  · obtain ⟨c0, c1, c2, c3, cr, ecs⟩ : ∃ c0 c1 c2 c3 cr, cs = c0 :: c1 :: c2 :: c3 :: cr := by
      have := HL1.out
      match cs, this with
      | a :: b :: c :: d :: r, _ => exact ⟨a, b, c, d, r, rfl⟩
    have Hecs : Hid _ := ecs
    have hd3 := HD.out
    rw [ecs] at hd3
    obtain ⟨k0, k1, k2, k3, f0, f1, f2, f3⟩ : w3.cell? ⟨w.heap.size, 0, none⟩ = some c0 ∧ w3.cell? ⟨w.heap.size, 1, none⟩ = some c1 ∧ w3.cell? ⟨w.heap.size, 2, none⟩ = some c2 ∧ w3.cell? ⟨w.heap.size, 3, none⟩ = some c3 ∧ w3.frozen? ⟨w.heap.size, 0, none⟩ = false ∧ w3.frozen? ⟨w.heap.size, 1, none⟩ = false ∧ w3.frozen? ⟨w.heap.size, 2, none⟩ = false ∧ w3.frozen? ⟨w.heap.size, 3, none⟩ = false := by
      simp [World.cell?, World.frozen?, hd3]
    obtain ⟨m0, m1, m2, m3⟩ := HMm.out
    have Hd3 : Hid _ := hd3
    have i0 : ∀ w' : World, (Instr.index 34 (.agg #[.int .u8 106, .int .u8 108, .int .u8 111, .int .u8 103]) (.int .i64 0)).run Tryd.prog w' = .ok (.int .u8 106) w' := fun w' => by kernel_rfl
    have i1 : ∀ w' : World, (Instr.index 34 (.agg #[.int .u8 106, .int .u8 108, .int .u8 111, .int .u8 103]) (.int .i64 1)).run Tryd.prog w' = .ok (.int .u8 108) w' := fun w' => by kernel_rfl
    have i2 : ∀ w' : World, (Instr.index 34 (.agg #[.int .u8 106, .int .u8 108, .int .u8 111, .int .u8 103]) (.int .i64 2)).run Tryd.prog w' = .ok (.int .u8 111) w' := fun w' => by kernel_rfl
    have i3 : ∀ w' : World, (Instr.index 34 (.agg #[.int .u8 106, .int .u8 108, .int .u8 111, .int .u8 103]) (.int .i64 3)).run Tryd.prog w' = .ok (.int .u8 103) w' := fun w' => by kernel_rfl
    clear ecs hd3
    go_wp2
    refine wp_loop_rounds 5 ?_
    rw [rounds_succ]
    go_wp2
    rw [rounds_succ]
    go_wp2
    rw [rounds_succ]
    go_wp2
    rw [rounds_succ]
    go_wp2
    rw [rounds_succ]
    go_wp2
    have C4 : Chg w.heap.size (w.heap.size + 1) w3 ((((w3.setCell ⟨w.heap.size, 0, none⟩ (.int .u8 106)).setCell ⟨w.heap.size, 1, none⟩ (.int .u8 108)).setCell ⟨w.heap.size, 2, none⟩ (.int .u8 111)).setCell ⟨w.heap.size, 3, none⟩ (.int .u8 103)) := (((Chg.setCell (p := ⟨w.heap.size, 0, none⟩) (Chg.refl _ _ _) (Or.inl ⟨Nat.le_refl _, Nat.lt_succ_self _⟩) _).setCell (p := ⟨w.heap.size, 1, none⟩) (Or.inl ⟨Nat.le_refl _, Nat.lt_succ_self _⟩) _).setCell (p := ⟨w.heap.size, 2, none⟩) (Or.inl ⟨Nat.le_refl _, Nat.lt_succ_self _⟩) _).setCell (p := ⟨w.heap.size, 3, none⟩) (Or.inl ⟨Nat.le_refl _, Nat.lt_succ_self _⟩) _
    have D4 : ((((w3.setCell ⟨w.heap.size, 0, none⟩ (.int .u8 106)).setCell ⟨w.heap.size, 1, none⟩ (.int .u8 108)).setCell ⟨w.heap.size, 2, none⟩ (.int .u8 111)).setCell ⟨w.heap.size, 3, none⟩ (.int .u8 103)).heap[w.heap.size]? = some (.cells (List.toArray (.int .u8 106 :: .int .u8 108 :: .int .u8 111 :: .int .u8 103 :: cr)) 33 (0, 0)) := by
      have e0 := heap_setCell_same w3 w.heap.size 0 _ _ (.int .u8 106) Hd3.out
      have e1 := heap_setCell_same _ w.heap.size 1 _ _ (.int .u8 108) e0
      have e2 := heap_setCell_same _ w.heap.size 2 _ _ (.int .u8 111) e1
      have e3 := heap_setCell_same _ w.heap.size 3 _ _ (.int .u8 103) e2
      simpa using e3
    generalize ((((w3.setCell ⟨w.heap.size, 0, none⟩ (.int .u8 106)).setCell ⟨w.heap.size, 1, none⟩ (.int .u8 108)).setCell ⟨w.heap.size, 2, none⟩ (.int .u8 111)).setCell ⟨w.heap.size, 3, none⟩ (.int .u8 103)) = w4 at *
    obtain ⟨ds, hds⟩ : ∃ ds, ds = Value.int .u8 106 :: .int .u8 108 :: .int .u8 111 :: .int .u8 103 :: cr := ⟨_, rfl⟩
    have hdm : ds = (unescL xs true).map (Value.int .u8) := by
      have h1 := Hcs.out
      have h2 := Hx.out
      rw [Hecs.out] at h1
      rw [hds]
      match xs, h2, h1 with
      | a :: b :: c :: d :: r, _, h1 =>
        simp only [List.map_cons, List.cons.injEq] at h1
        obtain ⟨_, _, _, _, rfl⟩ := h1
        simp [unescL, mg]
    have Hdm : Hid _ := hdm
    have HRl2 : Hid (ds.length = 64) := by
      have h1 := HL1.out
      rw [Hecs.out] at h1
      show ds.length = 64
      rw [hds]; simpa using h1
    have HRo2 : Hid (∀ v ∈ ds, v.oneCell' = true) := by
      show ∀ v ∈ ds, v.oneCell' = true
      rw [hdm]; exact ints_oneCell _ _
    have hids : (Tryd.prog.info? 33).map (·.size) = some ds.length := by rw [HRl2.out]; kernel_rfl
    rw [← hds] at D4
    have HD4 : Hid _ := D4
    have HLd4 : Hid _ := (C4.block w2.heap.size (Array.getElem?_eq_some_iff.1 HLd.out).1 (by omega)).trans HLd.out
    have HQ4 : Hid _ := (C4.block (w.heap.size + 1) (Array.getElem?_eq_some_iff.1 HQ.out).1 (by omega)).trans HQ.out
    have HCw4 : Hid _ := HCw.out.step C4 (by omega)
    have HMm4 : Hid (_ ∧ _ ∧ _ ∧ _) := ⟨C4.cell HMm.out.1 (by omega), C4.cell HMm.out.2.1 (by omega), C4.cell HMm.out.2.2.1 (by omega), C4.cell HMm.out.2.2.2 (by omega)⟩
    clear C4 D4 hds hdm k0 k1 k2 k3 f0 f1 f2 f3 m0 m1 m2 m3 i0 i1 i2 i3 HD HLd HQ HCw HMm Hd3
    have HS : Hid ((fun w' : World => (w'.heap[w.heap.size]? = some (.cells ds.toArray 33 (0, 0)) ∧ w'.heap[w2.heap.size]? = some (.cells (List.toArray [.int .u8 h0, .int .u8 h1, .int .u8 h2, .int .u8 h3]) 34 (0, 0))) ∧ (w'.cell? ⟨1, 0, none⟩ = some (.int .u8 106) ∧ w'.cell? ⟨1, 1, none⟩ = some (.int .u8 108) ∧ w'.cell? ⟨1, 2, none⟩ = some (.int .u8 111) ∧ w'.cell? ⟨1, 3, none⟩ = some (.int .u8 103))) w4.drew) := ⟨⟨HD4.out, HLd4.out⟩, HMm4.out⟩
    refine held_region (fun w' : World => (w'.heap[w.heap.size]? = some (.cells ds.toArray 33 (0, 0)) ∧ w'.heap[w2.heap.size]? = some (.cells (List.toArray [.int .u8 h0, .int .u8 h1, .int .u8 h2, .int .u8 h3]) 34 (0, 0))) ∧ (w'.cell? ⟨1, 0, none⟩ = some (.int .u8 106) ∧ w'.cell? ⟨1, 1, none⟩ = some (.int .u8 108) ∧ w'.cell? ⟨1, 2, none⟩ = some (.int .u8 111) ∧ w'.cell? ⟨1, 3, none⟩ = some (.int .u8 103))) (by kernel_rfl) ?_
    refine held_take 0 (.agg ds.toArray) rfl (by kernel_rfl) (by kernel_rfl) (by kernel_rfl) (fun _ _ _ h => h) (yieldsIf_load_mid (by kernel_rfl) 33 (.tmp 2) rfl w.heap.size 0 rfl ds _ (fun w' hw' => row_rng hw'.1.1) Tryd.underlying33 rfl hids) HS.out ?_
    go_simp
    refine held_take 1 (.agg (List.toArray [.int .u8 h0, .int .u8 h1, .int .u8 h2, .int .u8 h3])) rfl (by kernel_rfl) (by kernel_rfl) (by kernel_rfl) (fun _ _ _ h => h) (yieldsIf_load_mid (by kernel_rfl) 34 (.tmp 6) rfl w2.heap.size 0 rfl [.int .u8 h0, .int .u8 h1, .int .u8 h2, .int .u8 h3] _ (fun w' hw' => row_rng hw'.1.2) Tryd.underlying34 rfl (by kernel_rfl)) HS.out ?_
    go_simp
    refine held_take 2 (.agg #[.int .u8 0, .int .u8 0, .int .u8 0, .int .u8 0]) rfl (by kernel_rfl) (by kernel_rfl) (by kernel_rfl) (fun _ _ _ h => h) (.inl ⟨by kernel_rfl, fun w' hw' => by obtain ⟨_, m0, m1, m2, m3⟩ := hw'; go_simp⟩) HS.out ?_
    go_simp
    have heq := fun w' => equal_bytes w' 34 4 Tryd.underlying34 (xs := [h0, h1, h2, h3]) (ys := [0, 0, 0, 0]) (by rw [← Hmg.out]; exact HB.out.take 4) (by intro x hx; simp at hx; omega) rfl rfl
    obtain ⟨bm, hbm⟩ : ∃ bm, bm = decide (xs.take 4 = [0, 0, 0, 0]) := ⟨_, rfl⟩
    have hb4 : decide ([h0, h1, h2, h3] = [0, 0, 0, 0]) = bm := by rw [hbm, Hmg.out]
    simp only [hb4] at heq
    simp only [List.map_cons, List.map_nil] at heq
    have Hbm : Hid _ := hbm
    clear hb4 hbm
    refine held_take 3 (.bool (bm)) rfl (by kernel_rfl) (by kernel_rfl) (by kernel_rfl) (fun _ _ _ h => h) (.inl ⟨by kernel_rfl, fun w' hw' => by have h9 := heq w'; simp only [execOp, Act.eval]; go_simp⟩) HS.out ?_
    go_simp
    clear heq
    refine held_one 4 rfl rfl (by kernel_rfl) ?_
    refine wp_store_row 33 (.tmp 4) (.tmp 27) rfl rfl (w.heap.size + 1) rfl ds Z64 33 rfl HQ4.out (by rw [Z64_length]; exact HRl2.out) hids HRo2.out ?_
    intro w9 hb9 hc9
    have HS9 : Hid ((fun w' : World => (w'.heap[w.heap.size]? = some (.cells ds.toArray 33 (0, 0)) ∧ w'.heap[w2.heap.size]? = some (.cells (List.toArray [.int .u8 h0, .int .u8 h1, .int .u8 h2, .int .u8 h3]) 34 (0, 0))) ∧ (w'.cell? ⟨1, 0, none⟩ = some (.int .u8 106) ∧ w'.cell? ⟨1, 1, none⟩ = some (.int .u8 108) ∧ w'.cell? ⟨1, 2, none⟩ = some (.int .u8 111) ∧ w'.cell? ⟨1, 3, none⟩ = some (.int .u8 103))) w9) := ⟨⟨(hc9.block w.heap.size (Array.getElem?_eq_some_iff.1 HS.out.1.1).1 (by omega)).trans HS.out.1.1, (hc9.block w2.heap.size (Array.getElem?_eq_some_iff.1 HS.out.1.2).1 (by omega)).trans HS.out.1.2⟩, hc9.cell HS.out.2.1 (by omega), hc9.cell HS.out.2.2.1 (by omega), hc9.cell HS.out.2.2.2.1 (by omega), hc9.cell HS.out.2.2.2.2 (by omega)⟩
    have Hb9 : Hid _ := hb9
    have HC9 : Hid _ := HCw4.out.step ((Chg.drew (Chg.refl (w.heap.size + 1) (w.heap.size + 1 + 1) w4)).trans hc9) (by omega)
    refine ⟨HS9.out, ?_⟩
    clear hb9 hc9
    go_simp
    refine held_one 5 rfl rfl (by kernel_rfl) ?_
    refine wp_given (v := .bool (bm)) (w' := w9) (by first | kernel_rfl | go_simp) ⟨HS9.out, ?_⟩
    go_simp
    refine held_done (by kernel_rfl) (NoPanic.normal ?_)
    go_wp2
    have hl1 : (loadVar 33 ⟨w.heap.size + 1, 0, none⟩).run Tryd.prog w9 = .ok (.agg ds.toArray) w9 := run_loadVar_mid _ _ _ _ ds _ (row_rng Hb9.out) Tryd.underlying33 rfl hids
    refine bodyPost_ret (v := .tuple #[.agg ds.toArray, .bool bm]) (results_be Tryd.results18 rfl rfl hl1) rfl ⟨?_, HC9.out⟩
    rw [Hdm.out, Hbm.out]; rfl

end Go.Proofs.YtcgemenhkjfejaaDoor
