/- DecodeSuper of the model. -/
import Derived.Test.YthfhleddpiemoaaDoorFsSup
import Derived.Test.YthfhleddpiemoaaDoorGetN
import Derived.Test.YthfhleddpiemoaaDoorL2Same
import Derived.Test.YthfhleddpiemoaaDoorViewPart
import Derived.Test.YthfhleddpiemoaaDoorHeld
import Derived.Test.YthfhleddpiemoaaDoorCells
import Derived.Test.YthfhleddpiemoaaDoorWeak
import Derived.Deep.DeepCutAuto
namespace Go.Proofs.YthfhleddpiemoaaDoor
open Go.RowKit

/-- The number at place k. -/
def sG (xs : List Int) (k : Nat) : Int := getN ((xs.drop k).take 2)
abbrev srV (g : Bool) (b l n : Int) : Value := .agg #[.bool g, .int .i64 b, .int .i64 l, .int .i64 n]
/-- DecodeSuper. -/
def decSup (xs : List Int) : Value := if xs.length = 64 ∧ encSup (sG xs 6) (sG xs 8) (sG xs 10) = xs then srV true (sG xs 6) (sG xs 8) (sG xs 10) else srV false 0 0 0

theorem Byt.part {xs : List Int} (h : Byt xs) (k n : Nat) : Byt ((xs.drop k).take n) := fun x hx => h x (List.mem_of_mem_drop (List.mem_of_mem_take hx))

theorem encSup_byt (b l n : Int) : Byt (encSup b l n) := by
  unfold encSup
  split
  · intro x hx
    unfold fsL at hx
    rcases List.mem_append.1 hx with hx | hx
    · exact fsA_byt b l n x hx
    · exact putN_byt _ _ x hx
  · intro x hx; cases hx

theorem four_all {w : World} {s : Nat} {a b c d : Value} {t : TypeId} (h : w.heap[s]? = some (.cells #[a, b, c, d] t (0, 0))) :
    (w.cell? ⟨s, 0, none⟩ = some a ∧ w.cell? ⟨s, 1, none⟩ = some b ∧ w.cell? ⟨s, 2, none⟩ = some c ∧ w.cell? ⟨s, 3, none⟩ = some d) ∧ w.frozen? ⟨s, 0, none⟩ = false ∧ w.frozen? ⟨s, 1, none⟩ = false ∧ w.frozen? ⟨s, 2, none⟩ = false ∧ w.frozen? ⟨s, 3, none⟩ = false := by
  simp [World.cell?, World.frozen?, h]

/-- The geometry's cell, made. -/
def GeoAt (w0 W : World) : Prop := Chg 0 0 w0 W ∧ w0.heap.size < W.heap.size ∧ W.heap[w0.heap.size]? = some (.cells #[.int .i64 0, .int .i64 0, .int .i64 0] 24 (0, 0))

theorem geo_alloc {w0 W : World} (h : Same w0 W) : GeoAt w0 (W.alloc (.cells #[.int .i64 0, .int .i64 0, .int .i64 0] 24)) := by
  have hs : W.heap.size = w0.heap.size := by rw [h.heap]
  have hb := heap_new W (.cells #[.int .i64 0, .int .i64 0, .int .i64 0] 24)
  rw [hs] at hb
  exact ⟨(h.chg 0 0).trans (Chg.alloc (Chg.refl 0 0 W) _), by simp [hs], hb⟩

set_option maxRecDepth 20000 in
set_option maxHeartbeats 4000000 in
theorem specDecSuper_calls (w : World) {lo hi : Nat} {a : Value} {xs : List Int} (hv : View w lo hi .u8 a xs) (hB : Byt xs) :
    Calls Tryd.prog 4 #[a] w fun e w' => e = .returned (decSup xs) ∧ Chg 0 0 w w' := by
  have HV0 : Hid (View w lo hi .u8 a xs) := hv
  obtain ⟨ao, cap, rfl, hle, ⟨hcp, _⟩, hcell⟩ := hv
  have C0 : Chg 0 0 w (w.alloc (.cells #[.bool false, .int .i64 0, .int .i64 0, .int .i64 0] 26)) := Chg.alloc (Chg.refl 0 0 w) _
  have B0 := heap_new w (.cells #[.bool false, .int .i64 0, .int .i64 0, .int .i64 0] 26)
  have s0 : (w.alloc (.cells #[.bool false, .int .i64 0, .int .i64 0, .int .i64 0] 26)).heap.size = w.heap.size + 1 := by simp
  have HB : Hid ((w.alloc (.cells #[.bool false, .int .i64 0, .int .i64 0, .int .i64 0] 26)).heap[w.heap.size]? = some (.cells #[.bool false, .int .i64 0, .int .i64 0, .int .i64 0] 26 (0, 0))) := B0
  have HC : Hid (Chg 0 0 w (w.alloc (.cells #[.bool false, .int .i64 0, .int .i64 0, .int .i64 0] 26))) := C0
  clear C0 B0
  by_cases h64 : xs.length = 64
  case neg =>
    have HE : Hid (decSup xs = srV false 0 0 0) := by show _ = _; unfold decSup; rw [if_neg (fun h => h64 h.1)]
    have hne : ((xs.length : Int) != 64) = true := by simp; omega
    go_enter Tryd.func4, Tryd.ntmps4
    go_wp2
    exact bodyPost_ret (v := srV false 0 0 0) (by simp [results, Tryd.results4, go_sem, srV]) rfl ⟨by rw [HE.out], by first | exact HC.out | (refine Chg.setCell (Chg.setCell (Chg.setCell (Chg.setCell HC.out ?_ _) ?_ _) ?_ _) ?_ _ <;> exact Or.inr (Nat.le_refl _))⟩
  obtain ⟨b, off, rfl, _, _, _⟩ := hcell.resolve_left (fun h => by rw [h] at h64; cases h64)
  have hne : ((xs.length : Int) != 64) = false := by rw [h64]; rfl
  have H64 : Hid (xs.length = 64) := h64
  have HBy : Hid (Byt xs) := hB
  rw [h64] at HV0 hcp
  rw [h64]
  have hc8 : (8 : Int) ≤ (cap : Int) := by omega
  have hc10 : (10 : Int) ≤ (cap : Int) := by omega
  have hc12 : (12 : Int) ≤ (cap : Int) := by omega
  have hz6 : ¬ cap = 6 := by omega
  have hz8 : ¬ cap = 8 := by omega
  have hz10 : ¬ cap = 10 := by omega
  have hP : ∀ k : Nat, k + 2 ≤ 64 → View w lo hi .u8 (.slice (some ⟨b, off + k, none⟩) 2 (cap - k)) ((xs.drop k).take 2) := fun k hk => View.part (n := 2) (by rw [H64.out]; exact HV0.out) (by rw [H64.out]; omega) (by omega) (cap - k) (by omega)
  have HP6 : Hid (View w lo hi .u8 (.slice (some ⟨b, off + 6, none⟩) 2 (cap - 6)) ((xs.drop 6).take 2)) := hP 6 (by omega)
  have HP8 : Hid (View w lo hi .u8 (.slice (some ⟨b, off + 8, none⟩) 2 (cap - 8)) ((xs.drop 8).take 2)) := hP 8 (by omega)
  have HP10 : Hid (View w lo hi .u8 (.slice (some ⟨b, off + 10, none⟩) 2 (cap - 10)) ((xs.drop 10).take 2)) := hP 10 (by omega)
  clear hP hne h64 hB hcell
  go_enter Tryd.func4, Tryd.ntmps4
  go_upto_region 3 with fail
  generalize w.alloc (.cells #[.bool false, .int .i64 0, .int .i64 0, .int .i64 0] 26) = w0 at *
  have HG6 : Hid (∀ W, Chg 0 0 w W → Calls Tryd.prog 9 #[.slice (some ⟨b, off + 6, none⟩) 2 (cap - 6)] W fun e w' => e = .returned (.int .i64 (sG xs 6)) ∧ Same W w') := fun W h => specGet_calls W (HBy.out.part 6 2) (HP6.out.chg h (by omega))
  have HG8 : Hid (∀ W, Chg 0 0 w W → Calls Tryd.prog 9 #[.slice (some ⟨b, off + 8, none⟩) 2 (cap - 8)] W fun e w' => e = .returned (.int .i64 (sG xs 8)) ∧ Same W w') := fun W h => specGet_calls W (HBy.out.part 8 2) (HP8.out.chg h (by omega))
  have HG10 : Hid (∀ W, Chg 0 0 w W → Calls Tryd.prog 9 #[.slice (some ⟨b, off + 10, none⟩) 2 (cap - 10)] W fun e w' => e = .returned (.int .i64 (sG xs 10)) ∧ Same W w') := fun W h => specGet_calls W (HBy.out.part 10 2) (HP10.out.chg h (by omega))
  go_cut [3] (fun s3 wx => s3 = .pointer (some ⟨w.heap.size + 1, 0, none⟩) ∧ Chg 0 0 w0 wx ∧ w.heap.size + 1 < wx.heap.size ∧ wx.heap[w.heap.size + 1]? = some (.cells #[.int .i64 (sG xs 6), .int .i64 (sG xs 8), .int .i64 (sG xs 10)] 24 (0, 0)))
  case first =>
    generalize sG xs 6 = n6 at *
    generalize sG xs 8 = n8 at *
    generalize sG xs 10 = n10 at *
    refine held_region (fun _ => True) (by kernel_rfl) ?_
    have S0 : Same w0 w0.drew := (Same.refl w0).drew
    generalize w0.drew = wd at *
    refine held_take 0 (.slice (some ⟨b, off, none⟩) 64 cap) rfl (by kernel_rfl) (by kernel_rfl) (by kernel_rfl) (fun _ _ _ h => h) (.inl ⟨by kernel_rfl, fun w' hw' => by go_simp⟩) trivial ?_
    go_simp
    refine held_take 1 (.slice (some ⟨b, off + 6, none⟩) 2 (cap - 6)) rfl (by kernel_rfl) (by kernel_rfl) (by kernel_rfl) (fun _ _ _ h => h) (.inl ⟨by kernel_rfl, fun w' hw' => by go_simp⟩) trivial ?_
    go_simp
    refine held_take 3 (.slice (some ⟨b, off, none⟩) 64 cap) rfl (by kernel_rfl) (by kernel_rfl) (by kernel_rfl) (fun _ _ _ h => h) (.inl ⟨by kernel_rfl, fun w' hw' => by go_simp⟩) trivial ?_
    go_simp
    refine held_take 4 (.slice (some ⟨b, off + 8, none⟩) 2 (cap - 8)) rfl (by kernel_rfl) (by kernel_rfl) (by kernel_rfl) (fun _ _ _ h => h) (.inl ⟨by kernel_rfl, fun w' hw' => by go_simp⟩) trivial ?_
    go_simp
    refine held_take 6 (.slice (some ⟨b, off, none⟩) 64 cap) rfl (by kernel_rfl) (by kernel_rfl) (by kernel_rfl) (fun _ _ _ h => h) (.inl ⟨by kernel_rfl, fun w' hw' => by go_simp⟩) trivial ?_
    go_simp
    refine held_take 7 (.slice (some ⟨b, off + 10, none⟩) 2 (cap - 10)) rfl (by kernel_rfl) (by kernel_rfl) (by kernel_rfl) (fun _ _ _ h => h) (.inl ⟨by kernel_rfl, fun w' hw' => by go_simp⟩) trivial ?_
    go_simp
    refine held_two 2 10 rfl rfl rfl rfl (by kernel_rfl) ?_ ?_
    · refine wp_enter 9 #[.slice (some ⟨b, off + 6, none⟩) 2 (cap - 6)] (by first | kernel_rfl | go_simp) (HG6.out wd (HC.out.trans (S0.chg 0 0))) ?_
      rintro e wdc ⟨rfl, twdc⟩
      refine ⟨_, rfl, trivial, ?_⟩
      go_simp
      have Fwdc : Same w0 wdc := S0.trans twdc
      clear twdc
      refine held_two 5 10 rfl rfl rfl rfl (by kernel_rfl) ?_ ?_
      · refine wp_enter 9 #[.slice (some ⟨b, off + 8, none⟩) 2 (cap - 8)] (by first | kernel_rfl | go_simp) (HG8.out wdc (HC.out.trans (Fwdc.chg 0 0))) ?_
        rintro e wdcc ⟨rfl, twdcc⟩
        refine ⟨_, rfl, trivial, ?_⟩
        go_simp
        have Fwdcc : Same w0 wdcc := Fwdc.trans twdcc
        clear twdcc
        refine held_two 8 10 rfl rfl rfl rfl (by kernel_rfl) ?_ ?_
        · refine wp_enter 9 #[.slice (some ⟨b, off + 10, none⟩) 2 (cap - 10)] (by first | kernel_rfl | go_simp) (HG10.out wdcc (HC.out.trans (Fwdcc.chg 0 0))) ?_
          rintro e wdccc ⟨rfl, twdccc⟩
          refine ⟨_, rfl, trivial, ?_⟩
          go_simp
          have Fwdccc : Same w0 wdccc := Fwdcc.trans twdccc
          clear twdccc
          refine held_take 9 (.agg #[.int .i64 n6, .int .i64 n8, .int .i64 n10]) rfl (by kernel_rfl) (by kernel_rfl) (by kernel_rfl) (fun _ _ _ h => h) (.inl ⟨by kernel_rfl, fun w' hw' => by go_simp⟩) trivial ?_
          go_simp
          refine held_one 10 rfl rfl (by kernel_rfl) ?_
          have Gwdccca : GeoAt w0 (wdccc.alloc (.cells #[.int .i64 0, .int .i64 0, .int .i64 0] 24)) := geo_alloc Fwdccc
          have ewdccca : wdccc.heap.size = w0.heap.size := by rw [Fwdccc.heap]
          go_simp
          clear ewdccca
          generalize wdccc.alloc (.cells #[.int .i64 0, .int .i64 0, .int .i64 0] 24) = wdccca at *
          refine held_one 11 rfl rfl (by kernel_rfl) ?_
          refine wp_store_row 24 (.tmp 3) (.tmp 17) rfl rfl (w.heap.size + 1) rfl [.int .i64 n6, .int .i64 n8, .int .i64 n10] [.int .i64 0, .int .i64 0, .int .i64 0] 24 rfl (by rw [← s0]; exact Gwdccca.2.2) rfl (by kernel_rfl) (by simp [Value.oneCell']) ?_
          intro wy hy cy
          have R : Chg 0 0 w0 wy ∧ w.heap.size + 1 < wy.heap.size := ⟨Gwdccca.1.step cy (by omega), by have := cy.size; have := Gwdccca.2.1; omega⟩
          refine ⟨trivial, held_done (by kernel_rfl) (NoPanic.normal ?_)⟩
          have HR : Hid (Chg 0 0 w0 wy ∧ w.heap.size + 1 < wy.heap.size ∧ wy.heap[w.heap.size + 1]? = some (.cells #[.int .i64 n6, .int .i64 n8, .int .i64 n10] 24 (0, 0))) := ⟨R.1, R.2, hy⟩
          clear R hy cy
          go_wp2
          go_meet
          exact ⟨rfl, HR.out⟩
        · have Gwdcca : GeoAt w0 (wdcc.alloc (.cells #[.int .i64 0, .int .i64 0, .int .i64 0] 24)) := geo_alloc Fwdcc
          have ewdcca : wdcc.heap.size = w0.heap.size := by rw [Fwdcc.heap]
          go_simp
          clear ewdcca
          generalize wdcc.alloc (.cells #[.int .i64 0, .int .i64 0, .int .i64 0] 24) = wdcca at *
          refine held_one 8 rfl rfl (by kernel_rfl) ?_
          refine wp_enter 9 #[.slice (some ⟨b, off + 10, none⟩) 2 (cap - 10)] (by first | kernel_rfl | go_simp) (HG10.out wdcca (HC.out.trans Gwdcca.1)) ?_
          rintro e wdccac ⟨rfl, twdccac⟩
          refine ⟨_, rfl, trivial, ?_⟩
          go_simp
          have Fwdccac : GeoAt w0 wdccac := ⟨Gwdcca.1.trans (twdccac.chg 0 0), by rw [twdccac.heap]; exact Gwdcca.2.1, by rw [twdccac.heap]; exact Gwdcca.2.2⟩
          clear twdccac
          refine held_take 9 (.agg #[.int .i64 n6, .int .i64 n8, .int .i64 n10]) rfl (by kernel_rfl) (by kernel_rfl) (by kernel_rfl) (fun _ _ _ h => h) (.inl ⟨by kernel_rfl, fun w' hw' => by go_simp⟩) trivial ?_
          go_simp
          refine held_one 11 rfl rfl (by kernel_rfl) ?_
          refine wp_store_row 24 (.tmp 3) (.tmp 17) rfl rfl (w.heap.size + 1) rfl [.int .i64 n6, .int .i64 n8, .int .i64 n10] [.int .i64 0, .int .i64 0, .int .i64 0] 24 rfl (by rw [← s0]; exact Fwdccac.2.2) rfl (by kernel_rfl) (by simp [Value.oneCell']) ?_
          intro wy hy cy
          have R : Chg 0 0 w0 wy ∧ w.heap.size + 1 < wy.heap.size := ⟨Fwdccac.1.step cy (by omega), by have := cy.size; have := Fwdccac.2.1; omega⟩
          refine ⟨trivial, held_done (by kernel_rfl) (NoPanic.normal ?_)⟩
          have HR : Hid (Chg 0 0 w0 wy ∧ w.heap.size + 1 < wy.heap.size ∧ wy.heap[w.heap.size + 1]? = some (.cells #[.int .i64 n6, .int .i64 n8, .int .i64 n10] 24 (0, 0))) := ⟨R.1, R.2, hy⟩
          clear R hy cy
          go_wp2
          go_meet
          exact ⟨rfl, HR.out⟩
      · have Gwdca : GeoAt w0 (wdc.alloc (.cells #[.int .i64 0, .int .i64 0, .int .i64 0] 24)) := geo_alloc Fwdc
        have ewdca : wdc.heap.size = w0.heap.size := by rw [Fwdc.heap]
        go_simp
        clear ewdca
        generalize wdc.alloc (.cells #[.int .i64 0, .int .i64 0, .int .i64 0] 24) = wdca at *
        refine held_one 5 rfl rfl (by kernel_rfl) ?_
        refine wp_enter 9 #[.slice (some ⟨b, off + 8, none⟩) 2 (cap - 8)] (by first | kernel_rfl | go_simp) (HG8.out wdca (HC.out.trans Gwdca.1)) ?_
        rintro e wdcac ⟨rfl, twdcac⟩
        refine ⟨_, rfl, trivial, ?_⟩
        go_simp
        have Fwdcac : GeoAt w0 wdcac := ⟨Gwdca.1.trans (twdcac.chg 0 0), by rw [twdcac.heap]; exact Gwdca.2.1, by rw [twdcac.heap]; exact Gwdca.2.2⟩
        clear twdcac
        refine held_one 8 rfl rfl (by kernel_rfl) ?_
        refine wp_enter 9 #[.slice (some ⟨b, off + 10, none⟩) 2 (cap - 10)] (by first | kernel_rfl | go_simp) (HG10.out wdcac (HC.out.trans Fwdcac.1)) ?_
        rintro e wdcacc ⟨rfl, twdcacc⟩
        refine ⟨_, rfl, trivial, ?_⟩
        go_simp
        have Fwdcacc : GeoAt w0 wdcacc := ⟨Fwdcac.1.trans (twdcacc.chg 0 0), by rw [twdcacc.heap]; exact Fwdcac.2.1, by rw [twdcacc.heap]; exact Fwdcac.2.2⟩
        clear twdcacc
        refine held_take 9 (.agg #[.int .i64 n6, .int .i64 n8, .int .i64 n10]) rfl (by kernel_rfl) (by kernel_rfl) (by kernel_rfl) (fun _ _ _ h => h) (.inl ⟨by kernel_rfl, fun w' hw' => by go_simp⟩) trivial ?_
        go_simp
        refine held_one 11 rfl rfl (by kernel_rfl) ?_
        refine wp_store_row 24 (.tmp 3) (.tmp 17) rfl rfl (w.heap.size + 1) rfl [.int .i64 n6, .int .i64 n8, .int .i64 n10] [.int .i64 0, .int .i64 0, .int .i64 0] 24 rfl (by rw [← s0]; exact Fwdcacc.2.2) rfl (by kernel_rfl) (by simp [Value.oneCell']) ?_
        intro wy hy cy
        have R : Chg 0 0 w0 wy ∧ w.heap.size + 1 < wy.heap.size := ⟨Fwdcacc.1.step cy (by omega), by have := cy.size; have := Fwdcacc.2.1; omega⟩
        refine ⟨trivial, held_done (by kernel_rfl) (NoPanic.normal ?_)⟩
        have HR : Hid (Chg 0 0 w0 wy ∧ w.heap.size + 1 < wy.heap.size ∧ wy.heap[w.heap.size + 1]? = some (.cells #[.int .i64 n6, .int .i64 n8, .int .i64 n10] 24 (0, 0))) := ⟨R.1, R.2, hy⟩
        clear R hy cy
        go_wp2
        go_meet
        exact ⟨rfl, HR.out⟩
    · have Gwda : GeoAt w0 (wd.alloc (.cells #[.int .i64 0, .int .i64 0, .int .i64 0] 24)) := geo_alloc S0
      have ewda : wd.heap.size = w0.heap.size := by rw [S0.heap]
      go_simp
      clear ewda
      generalize wd.alloc (.cells #[.int .i64 0, .int .i64 0, .int .i64 0] 24) = wda at *
      refine held_one 2 rfl rfl (by kernel_rfl) ?_
      refine wp_enter 9 #[.slice (some ⟨b, off + 6, none⟩) 2 (cap - 6)] (by first | kernel_rfl | go_simp) (HG6.out wda (HC.out.trans Gwda.1)) ?_
      rintro e wdac ⟨rfl, twdac⟩
      refine ⟨_, rfl, trivial, ?_⟩
      go_simp
      have Fwdac : GeoAt w0 wdac := ⟨Gwda.1.trans (twdac.chg 0 0), by rw [twdac.heap]; exact Gwda.2.1, by rw [twdac.heap]; exact Gwda.2.2⟩
      clear twdac
      refine held_one 5 rfl rfl (by kernel_rfl) ?_
      refine wp_enter 9 #[.slice (some ⟨b, off + 8, none⟩) 2 (cap - 8)] (by first | kernel_rfl | go_simp) (HG8.out wdac (HC.out.trans Fwdac.1)) ?_
      rintro e wdacc ⟨rfl, twdacc⟩
      refine ⟨_, rfl, trivial, ?_⟩
      go_simp
      have Fwdacc : GeoAt w0 wdacc := ⟨Fwdac.1.trans (twdacc.chg 0 0), by rw [twdacc.heap]; exact Fwdac.2.1, by rw [twdacc.heap]; exact Fwdac.2.2⟩
      clear twdacc
      refine held_one 8 rfl rfl (by kernel_rfl) ?_
      refine wp_enter 9 #[.slice (some ⟨b, off + 10, none⟩) 2 (cap - 10)] (by first | kernel_rfl | go_simp) (HG10.out wdacc (HC.out.trans Fwdacc.1)) ?_
      rintro e wdaccc ⟨rfl, twdaccc⟩
      refine ⟨_, rfl, trivial, ?_⟩
      go_simp
      have Fwdaccc : GeoAt w0 wdaccc := ⟨Fwdacc.1.trans (twdaccc.chg 0 0), by rw [twdaccc.heap]; exact Fwdacc.2.1, by rw [twdaccc.heap]; exact Fwdacc.2.2⟩
      clear twdaccc
      refine held_take 9 (.agg #[.int .i64 n6, .int .i64 n8, .int .i64 n10]) rfl (by kernel_rfl) (by kernel_rfl) (by kernel_rfl) (fun _ _ _ h => h) (.inl ⟨by kernel_rfl, fun w' hw' => by go_simp⟩) trivial ?_
      go_simp
      refine held_one 11 rfl rfl (by kernel_rfl) ?_
      refine wp_store_row 24 (.tmp 3) (.tmp 17) rfl rfl (w.heap.size + 1) rfl [.int .i64 n6, .int .i64 n8, .int .i64 n10] [.int .i64 0, .int .i64 0, .int .i64 0] 24 rfl (by rw [← s0]; exact Fwdaccc.2.2) rfl (by kernel_rfl) (by simp [Value.oneCell']) ?_
      intro wy hy cy
      have R : Chg 0 0 w0 wy ∧ w.heap.size + 1 < wy.heap.size := ⟨Fwdaccc.1.step cy (by omega), by have := cy.size; have := Fwdaccc.2.1; omega⟩
      refine ⟨trivial, held_done (by kernel_rfl) (NoPanic.normal ?_)⟩
      have HR : Hid (Chg 0 0 w0 wy ∧ w.heap.size + 1 < wy.heap.size ∧ wy.heap[w.heap.size + 1]? = some (.cells #[.int .i64 n6, .int .i64 n8, .int .i64 n10] 24 (0, 0))) := ⟨R.1, R.2, hy⟩
      clear R hy cy
      go_wp2
      go_meet
      exact ⟨rfl, HR.out⟩
  case rest =>
    obtain ⟨rfl, hcx, hsx, hbx⟩ := hcut
    have HBr : Hid (wc.heap[w.heap.size]? = some (.cells #[.bool false, .int .i64 0, .int .i64 0, .int .i64 0] 26 (0, 0))) := (hcx.block _ (by omega) (by omega)).trans HB.out
    have HCr : Hid (Chg 0 0 w wc) := HC.out.trans hcx
    have HBg : Hid (wc.heap[w.heap.size + 1]? = some (.cells #[.int .i64 (sG xs 6), .int .i64 (sG xs 8), .int .i64 (sG xs 10)] 24 (0, 0))) := hbx
    have HD : Hid (decSup xs = if encSup (sG xs 6) (sG xs 8) (sG xs 10) = xs then srV true (sG xs 6) (sG xs 8) (sG xs 10) else srV false 0 0 0) := by
      show _ = _
      unfold decSup
      by_cases h : encSup (sG xs 6) (sG xs 8) (sG xs 10) = xs
      · rw [if_pos ⟨H64.out, h⟩, if_pos h]
      · rw [if_neg (fun h' => h h'.2), if_neg h]
    clear HG6 HG8 HG10 HP6 HP8 HP10 HB HC hcx hbx
    generalize sG xs 6 = n6 at *
    generalize sG xs 8 = n8 at *
    generalize sG xs 10 = n10 at *
    obtain ⟨k0, k1, k2⟩ := geo3 HBg.out
    have hN := specEncSuper_calls wc n6 n8 n10
    go_wp2_with fail
    clear k0 k1 k2
    refine hN.mono ?_
    rintro e w5 ⟨v5, rfl, o5, h5⟩
    have s5 := h5.size
    have HB5 : Hid (w5.heap[w.heap.size]? = some (.cells #[.bool false, .int .i64 0, .int .i64 0, .int .i64 0] 26 (0, 0))) := (h5.block _ (by omega) (by omega)).trans HBr.out
    have HC5 : Hid (Chg 0 0 w w5) := HCr.out.trans h5
    have HG5 : Hid (w5.heap[w.heap.size + 1]? = some (.cells #[.int .i64 n6, .int .i64 n8, .int .i64 n10] 24 (0, 0))) := (h5.block _ (by omega) (by omega)).trans HBg.out
    have v5' := o5.seen (by have := encSup_len n6 n8 n10; omega)
    obtain ⟨e5, l5, c5, rfl⟩ := row_slice o5
    have hS := l2Same_calls w5 (encSup_byt n6 n8 n10) HBy.out v5' (HV0.out.chg HC5.out (by omega))
    clear hN o5 h5 v5' HBr HCr HBg
    go_wp2_with fail
    refine hS.mono ?_
    rintro e w6 ⟨rfl, hw6⟩
    subst w6
    clear hS
    obtain ⟨⟨z1, z2, z3, z4⟩, f1, f2, f3, f4⟩ := four_all HB5.out
    obtain ⟨k0, k1, k2⟩ := geo3 HG5.out
    have HCs : Hid (∀ u0 u1 u2 u3 : Value, Chg 0 0 w ((((w5.setCell ⟨w.heap.size, 0, none⟩ u0).setCell ⟨w.heap.size, 1, none⟩ u1).setCell ⟨w.heap.size, 2, none⟩ u2).setCell ⟨w.heap.size, 3, none⟩ u3)) := fun u0 u1 u2 u3 => by
      refine HC5.out.step (l := w.heap.size) (r := w.heap.size + 1) ?_ (Or.inr (Or.inl (Nat.le_refl _)))
      refine Chg.setCell (Chg.setCell (Chg.setCell (Chg.setCell (Chg.refl _ _ _) ?_ _) ?_ _) ?_ _) ?_ _ <;> exact Or.inl ⟨Nat.le_refl _, Nat.lt_succ_self _⟩
    clear HB5 HG5
    by_cases he : encSup n6 n8 n10 = xs
    · have HE : Hid (decSup xs = srV true n6 n8 n10) := by show _ = _; rw [HD.out, if_pos he]
      rw [decide_eq_true he]
      clear HD he
      go_wp2
      exact bodyPost_ret (v := srV true n6 n8 n10) (by simp [results, Tryd.results4, go_sem, srV, *]) rfl ⟨by rw [HE.out], HCs.out _ _ _ _⟩
    · have HE : Hid (decSup xs = srV false 0 0 0) := by show _ = _; rw [HD.out, if_neg he]
      rw [decide_eq_false he]
      clear HD he
      go_wp2
      exact bodyPost_ret (v := srV false 0 0 0) (by simp [results, Tryd.results4, go_sem, srV, *]) rfl ⟨by rw [HE.out], HCs.out _ _ _ _⟩

end Go.Proofs.YthfhleddpiemoaaDoor
