/- DrawPlainRun of the model: calls of bounded texts. -/
import Derived.Test.YtacfkgfemmgpkaaGreatDoorDrawAll
import Derived.Test.YtacfkgfemmgpkaaGreatDoorDrawGeo
import Derived.Test.YtacfkgfemmgpkaaGreatDoorDecL
namespace Go.Proofs.YtacfkgfemmgpkaaGreatDoor
open Go.RowKit

theorem OwnC.set {w : World} {base b i : Nat} {v : Value} {cs : List Lst} (h : OwnC w base v cs) (hb : b < base) (u : Value) : OwnC (w.setCell ⟨b, i, none⟩ u) base v cs :=
  h.chg ((Chg.refl b (b + 1) w).setCell (p := ⟨b, i, none⟩) (Or.inl ⟨Nat.le_refl _, Nat.lt_succ_self _⟩) _) (Or.inl hb)

set_option maxRecDepth 20000 in
set_option maxHeartbeats 8000000 in
theorem plainRun_calls (w : World) {lo hi : Nat} {cv : Value} {code : List Int} (hB : Byt code) (hcl : code.length ≤ 1048576) (hc : View w lo hi .u8 cv code) (hhi : hi ≤ w.heap.size) :
    Calls Tryz.prog 4 #[cv] w fun e w' => ∃ (a b c : Int) (g cp : Nat) (cs : List Lst), e = .returned (.tuple #[.agg #[.int .i64 a, .int .i64 b, .int .i64 c], .slice (some ⟨g, 0, none⟩) cs.length cp]) ∧ OwnC w' w.heap.size (.slice (some ⟨g, 0, none⟩) cs.length cp) cs ∧ (∀ s ∈ cs, OkC s) ∧ cs.length ≤ 1100 ∧ Chg 0 0 w w' := by
  have v0 := hc
  obtain ⟨ao, cap, rfl, hl, _, _⟩ := hc
  have hmx : Tryz.prog.follows .mixedOrders = true := by kernel_rfl
  have cA : Chg 0 0 w (w.alloc (.cells #[.int .i64 0, .int .i64 0, .int .i64 0] 24)) := Chg.alloc (Chg.refl 0 0 w) _
  have hZ0 := heap_new w (.cells #[.int .i64 0, .int .i64 0, .int .i64 0] 24)
  have hs0 : (w.alloc (.cells #[.int .i64 0, .int .i64 0, .int .i64 0] 24)).heap.size = w.heap.size + 1 := by simp
  go_enter Tryz.func4, Tryz.ntmps4
  go_wp2_with fail
  generalize w.alloc (.cells #[.int .i64 0, .int .i64 0, .int .i64 0] 24) = wA at *
  refine (l1Source_calls wA ao code.length cap hl).mono ?_
  rintro e w1 ⟨rfl, s1, c1⟩
  have hp1 : wA.heap.size < w1.heap.size := (Array.getElem?_eq_some_iff.1 s1).1
  have cW : Chg 0 0 w w1 := cA.trans c1
  have hsz : min (code.length / 16) 12 ≤ 12 := Nat.min_le_right _ _
  obtain ⟨S, hS1, hS2, hS3, hE⟩ : ∃ S : Sc, S.p = wA.heap.size ∧ S.cv = .slice ao code.length cap ∧ S.sz ≤ 12 ∧ En S w1 w1 0 :=
    ⟨⟨wA.heap.size, .slice ao code.length cap, code, lo, hi, min (code.length / 16) 12⟩, rfl, rfl, hsz, ⟨0, Nat.le_refl _, s1⟩, v0.chg cW (by omega), Or.inr (by show hi ≤ wA.heap.size; omega), hB, hcl, Chg.refl _ _ _, by show hi ≤ w1.heap.size ∧ wA.heap.size < w1.heap.size; omega⟩
  have HR : Hid (∀ W A', En S w1 W A' → W.heap[w.heap.size]? = some (.cells #[.int .i64 0, .int .i64 0, .int .i64 0] 24 (0, 0))) := fun W A' k => (k.chg.block _ (by omega) (by rw [hS1]; omega)).trans ((c1.block _ (by omega) (by omega)).trans hZ0)
  have HCh : Hid (∀ W A', En S w1 W A' → Chg 0 0 w W) := fun W A' k => cW.step k.chg (by rw [hS1]; omega)
  have hw1 : w.heap.size < w1.heap.size := by omega
  have hp0 : w.heap.size < S.p := by omega
  rw [← hS1]
  clear hS1 hS2 s1 c1 cA hZ0 hs0 v0 cW hB hcl hhi hsz
  go_wp2_with fail
  refine (room_e hE.self (by omega)).mono ?_
  rintro e w2 ⟨a, b, c, rfl, h2⟩
  have hz2 := h2.size
  have hGb := heap_new w2 (.cells #[.int .i64 a, .int .i64 b, .int .i64 c] 24)
  have hE2 := h2.alloc (.cells #[.int .i64 a, .int .i64 b, .int .i64 c] 24)
  have hg2 : w2.heap.size < (w2.alloc (.cells #[.int .i64 a, .int .i64 b, .int .i64 c] 24)).heap.size := by simp
  clear hE h2
  go_wp2_with fail
  generalize w2.alloc (.cells #[.int .i64 a, .int .i64 b, .int .i64 c] 24) = w3 at *
  generalize w2.heap.size = Bg at *
  refine (chance_e hE2.self (by omega) 60 (by omega)).mono ?_
  rintro e w4 ⟨bb, rfl, h4⟩
  have hpt := hE2.top
  replace hGb := (h4.chg.block _ (by omega) (by omega)).trans hGb
  replace hE2 := hE2.join h4
  have hz4 := h4.size
  clear h4
  have HG : Hid (∀ W A', En S w4 W A' → W.heap[Bg]? = some (.cells #[.int .i64 a, .int .i64 b, .int .i64 c] 24 (0, 0))) := fun W A' k => (k.chg.block _ (by omega) (by omega)).trans hGb
  have HJ : Hid (∀ W A', En S w4 W A' → En S w1 W A') := fun W A' k => hE2.join k
  have hne : w.heap.size < Bg := by omega
  have hE4 := hE2.self
  clear hGb
  cases bb
  case true =>
    have hN := Cs.nil hE4
    go_wp2_with fail
    generalize w4.alloc (.cells #[] 29) = w5 at *
    generalize Value.slice (some ⟨w4.heap.size, 0, none⟩) 0 0 = v0 at *
    refine (next_e hN.self (by omega) 2 (by omega)).mono ?_
    rintro e w6 ⟨r, rfl, r0, r1, h6⟩
    replace r1 := r1 (by omega)
    have HC6 : Hid (Cs S w4 w6 v0 100 0) := (hN.step h6).mono (by omega) (by omega)
    obtain ⟨n, hn⟩ : ∃ z : Nat, 1000 + r = (z : Int) := ⟨(1000 + r).toNat, by omega⟩
    have hn9 : n ≤ 1001 := by omega
    clear hN h6 hE2 hE4
    go_wp2
    go_loopw [6, 7] (fun o x wr => ∃ j : Nat, j ≤ 1001 ∧ x = .int .i64 j ∧ Cs S w4 wr o 100 (1001 - j)) (fun _ x _ => (RowKit.intOf x).toNat)
    case atStart => exact ⟨n, by omega, rfl, HC6.out.mono (by omega) (by omega)⟩
    case round =>
      obtain ⟨j, hj, rfl, hC⟩ := hrel
      have HC : Hid (Cs S w4 wr u6 100 (1001 - j)) := hC
      clear hC HC6
      by_cases hlt : 0 < j
      · have hi : (0 : Int) < (j : Int) := by omega
        go_wp2_with (at_builtin; refine wpList_cs1 rfl (.tmp 22) (.tmp 24) rfl rfl HC.out rfl rfl (by omega) ⟨by decide, by decide, by decide⟩ ?_)
        intro v7 w7 hC7
        have HC7 : Hid (Cs S w4 w7 v7 100 (1001 - (j - 1))) := hC7.mono (Nat.le_refl _) (by omega)
        clear hC7
        go_wp2
        go_roundw
        case rel => exact ⟨j - 1, by omega, by go_num, HC7.out⟩
        case measure => simp [RowKit.intOf]; omega
      · have hi : ¬ ((0 : Int) < (j : Int)) := by omega
        obtain ⟨g, cp, cs, rfl, ho, hok, hln, hEr⟩ := HC.out
        obtain ⟨⟨z0, z1, z2⟩, g0, g1, g2⟩ := tri3 (HG.out _ _ hEr)
        obtain ⟨⟨y0, y1, y2⟩, f0, f1, f2⟩ := tri3 (HR.out _ _ (HJ.out _ _ hEr))
        have HF : Hid (OwnC wr w4.heap.size (.slice (some ⟨g, 0, none⟩) cs.length cp) cs ∧ (∀ s ∈ cs, OkC s) ∧ cs.length ≤ 1100 ∧ Chg 0 0 w wr) := ⟨ho, hok, by omega, HCh.out _ _ (HJ.out _ _ hEr)⟩
        clear ho hok hln hEr HC
        go_wp2
        exact bodyPost_ret (v := .tuple #[.agg #[.int .i64 a, .int .i64 b, .int .i64 c], .slice (some ⟨g, 0, none⟩) cs.length cp]) (by simp [results, Tryz.results4, go_sem, *]) rfl ⟨a, b, c, g, cp, cs, rfl, OwnC.low (OwnC.set (OwnC.set (OwnC.set HF.out.1 (by omega) _) (by omega) _) (by omega) _) (by omega), HF.out.2.1, HF.out.2.2.1, Chg.setCell (Chg.setCell (Chg.setCell HF.out.2.2.2 (Or.inr (Nat.le_refl _)) _) (Or.inr (Nat.le_refl _)) _) (Or.inr (Nat.le_refl _)) _⟩
  case false =>
    go_wp2_with fail
    have cD := Chg.drew (Chg.refl 0 0 w4)
    have hEd := hE4.keep cD
    clear hE2 hE4
    refine held_region (fun W' => W'.heap[Bg]? = some (.cells #[.int .i64 a, .int .i64 b, .int .i64 c] 24 (0, 0)) ∧ ∃ x, SrcAt W' S.p S.cv x S.sz) hmx ?_
    generalize w4.drew = wd at *
    have hSd : wd.heap[Bg]? = some (.cells #[.int .i64 a, .int .i64 b, .int .i64 c] 24 (0, 0)) ∧ ∃ x, SrcAt wd S.p S.cv x S.sz := ⟨HG.out _ _ hEd, by obtain ⟨x, _, hx⟩ := hEd.src; exact ⟨x, hx⟩⟩
    have e5 : IntKind.i64.wrap (5 * (S.sz : Int)) = 5 * (S.sz : Int) := by rw [IntKind.wrap_i64]; omega
    have e6 : IntKind.i64.wrap (6 + 5 * (S.sz : Int)) = 6 + 5 * (S.sz : Int) := by rw [IntKind.wrap_i64]; omega
    refine held_take 0 (.agg #[.int .i64 a, .int .i64 b, .int .i64 c]) rfl (by kernel_rfl) (by kernel_rfl) (by kernel_rfl) (fun _ _ _ h => h) (.inl ⟨by kernel_rfl, fun w' hw' => by obtain ⟨⟨z0, z1, z2⟩, g0, g1, g2⟩ := tri3 hw'.1; go_simp⟩) hSd ?_
    go_simp
    refine held_take 1 (.pointer (some ⟨S.p, 0, none⟩)) rfl (by kernel_rfl) (by kernel_rfl) (by kernel_rfl) (fun _ _ _ h => h) (.inl ⟨by kernel_rfl, fun w' hw' => by go_simp⟩) hSd ?_
    go_simp
    refine held_take 2 (.pointer (some ⟨S.p, 0, none⟩)) rfl (by kernel_rfl) (by kernel_rfl) (by kernel_rfl) (fun _ _ _ h => h) (.inl ⟨by kernel_rfl, fun w' hw' => by go_simp⟩) hSd ?_
    go_simp
    refine held_take 3 (.pointer (some ⟨S.p, 0, none⟩)) rfl (by kernel_rfl) (by kernel_rfl) (by kernel_rfl) (fun _ _ _ h => h) (.inl ⟨by kernel_rfl, fun w' hw' => by go_simp⟩) hSd ?_
    go_simp
    refine held_take 4 (.pointer (some ⟨S.p, 2, none⟩)) rfl (by kernel_rfl) (by kernel_rfl) (by kernel_rfl) (fun _ _ _ h => h) (.inl ⟨by kernel_rfl, fun w' hw' => by go_simp⟩) hSd ?_
    go_simp
    refine held_take 5 (.int .i64 S.sz) rfl (by kernel_rfl) (by kernel_rfl) (by kernel_rfl) (fun _ _ _ h => h) (.inl ⟨by kernel_rfl, fun w' hw' => by obtain ⟨aa, hsa⟩ := hw'.2; obtain ⟨k0, k1, k2, _⟩ := three_cells hsa; go_simp⟩) hSd ?_
    go_simp
    refine held_take 6 (.int .i64 (5 * (S.sz : Int))) rfl (by kernel_rfl) (by kernel_rfl) (by kernel_rfl) (fun _ _ _ h => h) (.inl ⟨by kernel_rfl, fun w' hw' => by go_simp⟩) hSd ?_
    go_simp
    refine held_take 7 (.int .i64 (6 + 5 * (S.sz : Int))) rfl (by kernel_rfl) (by kernel_rfl) (by kernel_rfl) (fun _ _ _ h => h) (.inl ⟨by kernel_rfl, fun w' hw' => by go_simp⟩) hSd ?_
    go_simp
    refine held_one 8 rfl rfl (by kernel_rfl) ?_
    have hCa := calls_e (S := S) (w0 := w4) (w := wd) hEd (by omega) (6 + 5 * S.sz) (by omega)
    rw [show (((6 + 5 * S.sz : Nat)) : Int) = 6 + 5 * (S.sz : Int) by omega] at hCa
    refine wp_enter 14 #[.pointer (some ⟨S.p, 0, none⟩), .int .i64 (6 + 5 * (S.sz : Int))] (by first | kernel_rfl | go_simp) hCa ?_
    rintro e wz ⟨v, rfl, hC⟩
    obtain ⟨g, cp, cs, rfl, ho, hok, hln, hEr⟩ := hC
    replace hSd : wz.heap[Bg]? = some (.cells #[.int .i64 a, .int .i64 b, .int .i64 c] 24 (0, 0)) ∧ ∃ x, SrcAt wz S.p S.cv x S.sz := ⟨HG.out _ _ hEr, by obtain ⟨x, _, hx⟩ := hEr.src; exact ⟨x, hx⟩⟩
    have HF : Hid (OwnC wz w4.heap.size (.slice (some ⟨g, 0, none⟩) cs.length cp) cs ∧ (∀ s ∈ cs, OkC s) ∧ cs.length ≤ 1100 ∧ Chg 0 0 w wz) := ⟨ho, hok, by omega, HCh.out _ _ (HJ.out _ _ hEr)⟩
    have hRb := HR.out _ _ (HJ.out _ _ hEr)
    have hpw := hEr.top
    refine ⟨_, rfl, hSd, ?_⟩
    clear ho hok hln hEr hEd hCa
    go_simp
    refine held_one 9 rfl rfl (by kernel_rfl) ?_
    refine wp_store_row 24 (.tmp 2) (.tmp 28) rfl rfl w.heap.size rfl [.int .i64 a, .int .i64 b, .int .i64 c] [.int .i64 0, .int .i64 0, .int .i64 0] 24 rfl hRb rfl (by kernel_rfl) (by simp [Value.oneCell']) ?_
    intro wy hy cy
    have hSy : wy.heap[Bg]? = some (.cells #[.int .i64 a, .int .i64 b, .int .i64 c] 24 (0, 0)) ∧ ∃ x, SrcAt wy S.p S.cv x S.sz := ⟨(cy.block _ (Array.getElem?_eq_some_iff.1 hSd.1).1 (by omega)).trans hSd.1, by obtain ⟨x, hx⟩ := hSd.2; exact ⟨x, hx.chg cy (by omega)⟩⟩
    have HF2 : Hid (OwnC wy w4.heap.size (.slice (some ⟨g, 0, none⟩) cs.length cp) cs ∧ (∀ s ∈ cs, OkC s) ∧ cs.length ≤ 1100 ∧ Chg 0 0 w wy) := ⟨HF.out.1.chg cy (Or.inl (by omega)), HF.out.2.1, HF.out.2.2.1, HF.out.2.2.2.step cy (Or.inr (Or.inl (Nat.le_refl _)))⟩
    obtain ⟨⟨y0, y1, y2⟩, f0, f1, f2⟩ := tri3 hy
    refine ⟨hSy, ?_⟩
    clear HF hSd hRb
    refine held_one 10 rfl rfl (by kernel_rfl) ?_
    go_simp
    refine ⟨by kernel_rfl, NoPanic.normal ?_⟩
    clear hSy
    go_wp2
    exact bodyPost_ret (v := .tuple #[.agg #[.int .i64 a, .int .i64 b, .int .i64 c], .slice (some ⟨g, 0, none⟩) cs.length cp]) (by simp [results, Tryz.results4, go_sem, *]) rfl ⟨a, b, c, g, cp, cs, rfl, OwnC.low HF2.out.1 (by omega), HF2.out.2.1, HF2.out.2.2.1, HF2.out.2.2.2⟩

end Go.Proofs.YtacfkgfemmgpkaaGreatDoor
