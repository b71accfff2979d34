/- Several short texts in one: ImplBegun, EncRow, PutByt, PutLen, OnceP. -/
import Derived.Test.YtkegadjdlkfabaaGreatDoorAs
import Derived.Test.YtkegadjdlkfabaaGreatDoorSpecHead2
import Derived.Test.YtkegadjdlkfabaaGreatDoorSmall
import Derived.Test.YtkegadjdlkfabaaGreatDoorCells2
import Derived.Deep.RegionWith
import Derived.Deep.DeepCutAuto
import Derived.Defers
import Derived.Laws.Pointers
import Derived.Laws.LoneSync
import Derived.RegionTactic
import Derived.RegionCalls
namespace Go.Proofs.YtkegadjdlkfabaaGreatDoor
open Go.RowKit

/-- What begun answers. -/
def begL (h0 h1 h2 h3 kd it sq : Int) : List Int := [h0, h1, h2, h3, kd, 0] ++ putN it 2 ++ putN sq 4 ++ List.replicate 52 0

set_option maxRecDepth 20000 in
set_option maxHeartbeats 2000000 in
theorem begun_calls (w : World) (h0 h1 h2 h3 kd it sq : Int) (hk0 : 0 ≤ kd) (hk1 : kd < 256) (hi : it ≤ 9223372036854775807) (hq : sq ≤ 9223372036854775807) (hi2 : (putN it 2).length = 2) (hq4 : (putN sq 4).length = 4) :
    Calls Tryz.prog 66 #[.agg #[.int .u8 h0, .int .u8 h1, .int .u8 h2, .int .u8 h3, .int .i64 kd, .int .i64 it, .int .i64 sq]] w fun e w' => e = .returned (.agg ((begL h0 h1 h2 h3 kd it sq).map (Value.int .u8)).toArray) ∧ Chg 0 0 w w' := by
  have Hi2 : Hid _ := hi2
  have Hq4 : Hid _ := hq4
  clear hi2 hq4
  have HB0 : Hid (Beg w (((w.alloc (.cells #[.int .u8 h0, .int .u8 h1, .int .u8 h2, .int .u8 h3, .int .i64 kd, .int .i64 it, .int .i64 sq] 53)).alloc (.cells Z64.toArray 68)).alloc (.cells Z64.toArray 68)) (.cells #[.int .u8 h0, .int .u8 h1, .int .u8 h2, .int .u8 h3, .int .i64 kd, .int .i64 it, .int .i64 sq] 53 (0, 0)) (Z64)) := by
    show Beg _ _ _ _
    have e1 : (w.alloc (.cells #[.int .u8 h0, .int .u8 h1, .int .u8 h2, .int .u8 h3, .int .i64 kd, .int .i64 it, .int .i64 sq] 53)).heap.size = w.heap.size + 1 := by simp
    obtain ⟨z1, z2, z3⟩ := alloc2 (w.alloc (.cells #[.int .u8 h0, .int .u8 h1, .int .u8 h2, .int .u8 h3, .int .i64 kd, .int .i64 it, .int .i64 sq] 53)) (.cells Z64.toArray 68) (.cells Z64.toArray 68)
    rw [e1] at z1 z2 z3
    refine ⟨?_, z2, z3, ((Chg.alloc (Chg.refl 0 0 w) _).alloc _).alloc _⟩
    have c2 : Chg 0 0 (w.alloc (.cells #[.int .u8 h0, .int .u8 h1, .int .u8 h2, .int .u8 h3, .int .i64 kd, .int .i64 it, .int .i64 sq] 53)) (((w.alloc (.cells #[.int .u8 h0, .int .u8 h1, .int .u8 h2, .int .u8 h3, .int .i64 kd, .int .i64 it, .int .i64 sq] 53)).alloc (.cells Z64.toArray 68)).alloc (.cells Z64.toArray 68)) := (Chg.alloc (Chg.refl 0 0 _) _).alloc _
    exact (c2.block w.heap.size (by omega) (by omega)).trans (heap_new w _)
  go_enter Tryz.func66, Tryz.ntmps66
  go_upto_region 2 with fail
  simp only [Z64_eq]
  generalize (((w.alloc (.cells #[.int .u8 h0, .int .u8 h1, .int .u8 h2, .int .u8 h3, .int .i64 kd, .int .i64 it, .int .i64 sq] 53)).alloc (.cells Z64.toArray 68)).alloc (.cells Z64.toArray 68)) = wa at *
  go_cut [7] (fun _ wx => Beg w wx (.cells #[.int .u8 h0, .int .u8 h1, .int .u8 h2, .int .u8 h3, .int .i64 kd, .int .i64 it, .int .i64 sq] 53 (0, 0)) (splice Z64 0 [.int .u8 h0, .int .u8 h1, .int .u8 h2, .int .u8 h3]))
  case first =>
    have HS0 : Hid _ := trivial
    refine held_region (fun _ : World => True) (by kernel_rfl) ?_
    refine held_take 0 (.slice (some ⟨w.heap.size + 1 + 1, 0, none⟩) 4 64) rfl (by kernel_rfl) (by kernel_rfl) (by kernel_rfl) (fun _ _ _ h => h) (.inl ⟨by kernel_rfl, fun w' hw' => by go_simp⟩) HS0.out ?_
    go_simp
    refine held_take 1 (.pointer (some ⟨w.heap.size, 0, none⟩)) rfl (by kernel_rfl) (by kernel_rfl) (by kernel_rfl) (fun _ _ _ h => h) (.inl ⟨by kernel_rfl, fun w' hw' => by go_simp⟩) HS0.out ?_
    go_simp
    refine held_take 2 (.slice (some ⟨w.heap.size, 0, none⟩) 4 4) rfl (by kernel_rfl) (by kernel_rfl) (by kernel_rfl) (fun _ _ _ h => h) (.inl ⟨by kernel_rfl, fun w' hw' => by go_simp⟩) HS0.out ?_
    go_simp
    have HB1 : Hid _ := HB0.out.chg (Chg.drew (Chg.refl 0 0 wa))
    refine held_one 3 rfl rfl (by kernel_rfl) ?_
    refine wp_copy_row (.tmp 4) (.tmp 6) 32 32 rfl 5 Tryz.underlying32 (by kernel_rfl) (w.heap.size + 1 + 1) 0 4 64 ⟨w.heap.size, 0, none⟩ 4 4 rfl rfl Z64 68 HB1.out.b2 [.int .u8 h0, .int .u8 h1, .int .u8 h2, .int .u8 h3] rfl ?_ (by rw [Z64_length]; simp) (by simp [Value.oneCell']) ?_
    · intro j v hj
      have hb := HB1.out.b0
      have hj4 : j < 4 := by have := (List.getElem?_eq_some_iff.1 hj).1; simpa using this
      rcases j with _ | _ | _ | _ | j
      all_goals first | omega | (simp at hj; subst hj; simp [World.cell?, Addr.add, hb])
    intro w1 hb1 hc1
    have HB2 : Hid _ := HB1.out.put hc1 hb1.out
    refine ⟨trivial, ?_⟩
    clear hb1 hc1
    go_simp
    refine held_done (by kernel_rfl) (NoPanic.normal ?_)
    go_wp2
    go_meet
    exact HB2.out
  case rest =>
    have HB3 : Hid _ := hcut
    have hb0 := HB3.out.b0
    have k4 : wc.cell? ⟨w.heap.size, 4, none⟩ = some (.int .i64 kd) := by simp [World.cell?, hb0]
    have hb2 := HB3.out.b2
    have e4 : (splice Z64 0 [.int .u8 h0, .int .u8 h1, .int .u8 h2, .int .u8 h3])[4]? = some (.int .u8 0) := by unfold Z64 splice; rfl
    have k5 : wc.cell? ⟨w.heap.size + 1 + 1, 4, none⟩ = some (.int .u8 0) := by simp only [World.cell?, hb2, List.getElem?_toArray, e4]; rfl
    have f5 : wc.frozen? ⟨w.heap.size + 1 + 1, 4, none⟩ = false := by simp [World.frozen?, hb2]
    have HBn : Hid (Beg w (wc.setCell ⟨w.heap.size + 1 + 1, 4, none⟩ (.int .u8 kd)) (.cells #[.int .u8 h0, .int .u8 h1, .int .u8 h2, .int .u8 h3, .int .i64 kd, .int .i64 it, .int .i64 sq] 53 (0, 0)) ((splice Z64 0 [.int .u8 h0, .int .u8 h1, .int .u8 h2, .int .u8 h3]).set 4 (.int .u8 kd))) := by
      show Beg _ _ _ _
      refine HB3.out.put (Chg.setCell (p := ⟨w.heap.size + 1 + 1, 4, none⟩) (Chg.refl _ _ wc) (Or.inl ⟨Nat.le_refl _, Nat.lt_succ_self _⟩) _) ?_
      have hlt := HB3.out.lt
      simp [World.setCell, hb2, Array.getElem?_modify]
    clear hb0 hb2 e4 HB3 HB0 hcut
    go_upto_region 4 with fail
    generalize wc.setCell ⟨w.heap.size + 1 + 1, 4, none⟩ (.int .u8 kd) = wd at *
    clear k4 k5 f5
    go_cut [16] (fun _ wx => Beg w wx (.cells #[.int .u8 h0, .int .u8 h1, .int .u8 h2, .int .u8 h3, .int .i64 kd, .int .i64 it, .int .i64 sq] 53 (0, 0)) (splice ((splice Z64 0 [.int .u8 h0, .int .u8 h1, .int .u8 h2, .int .u8 h3]).set 4 (.int .u8 kd)) 6 ((putN it 2).map (Value.int .u8))))
    case first =>
      have HB1 : Hid _ := HBn.out.chg (Chg.drew (Chg.refl 0 0 wd))
      have HS0 : Hid ((fun w' : World => w'.cell? ⟨w.heap.size, 5, none⟩ = some (.int .i64 it)) wd.drew) := by
        have hb := HB1.out.b0
        show _ = _
        simp [World.cell?, hb]
      refine held_region (fun w' : World => w'.cell? ⟨w.heap.size, 5, none⟩ = some (.int .i64 it)) (by kernel_rfl) ?_
      refine held_take 0 (.slice (some ⟨w.heap.size + 1 + 1, 6, none⟩) 2 58) rfl (by kernel_rfl) (by kernel_rfl) (by kernel_rfl) (fun _ _ _ h => h) (.inl ⟨by kernel_rfl, fun w' hw' => by go_simp⟩) HS0.out ?_
      go_simp
      refine held_take 1 (.pointer (some ⟨w.heap.size, 5, none⟩)) rfl (by kernel_rfl) (by kernel_rfl) (by kernel_rfl) (fun _ _ _ h => h) (.inl ⟨by kernel_rfl, fun w' hw' => by go_simp⟩) HS0.out ?_
      go_simp
      refine held_take 2 (.int .i64 it) rfl (by kernel_rfl) (by kernel_rfl) (by kernel_rfl) (fun _ _ _ h => h) (.inl ⟨by kernel_rfl, fun w' hw' => by have h4 : w'.cell? _ = _ := hw'; go_simp⟩) HS0.out ?_
      go_simp
      generalize wd.drew = x1 at *
      have hlt := HB1.out.lt
      have hN := implPut_calls x1 it 2 (by omega)
      refine held_one 3 rfl rfl (by kernel_rfl) ?_
      refine wp_enter 67 #[.int .i64 it, .int .i64 2] (by first | kernel_rfl | go_simp) hN ?_
      rintro e x2 ⟨r, rfl, o2, c2⟩
      have HB2 : Hid _ := HB1.out.chg c2
      have HS2 : Hid _ := c2.cell HS0.out (by omega)
      obtain ⟨g, gc, rfl, hcell⟩ : ∃ g gc, r = .slice (some ⟨g, 0, none⟩) 2 gc ∧ ∀ i, i < 2 → x2.cell? ⟨g, i, none⟩ = some (.int .u8 ((putN it 2).getD i 0)) := by
        have hv := o2.view (hi := x2.heap.size) (by rw [Hi2.out]; omega) (fun g hg => (o2.lt g hg).2)
        rcases o2.2 with ⟨_, h0⟩ | ⟨g, gc, cur, rfl, _⟩
        · rw [Hi2.out] at h0; omega
        · refine ⟨g, gc, by rw [Hi2.out], fun i hi => hv.cellAt' i (by rw [Hi2.out]; exact hi)⟩
      refine ⟨_, rfl, HS2.out, ?_⟩
      have Hcell : Hid _ := hcell
      clear hN o2 c2 hcell
      go_simp
      refine held_one 4 rfl rfl (by kernel_rfl) ?_
      refine wp_copy_row (.tmp 12) (.tmp 15) 32 32 rfl 5 Tryz.underlying32 (by kernel_rfl) (w.heap.size + 1 + 1) 6 2 58 ⟨g, 0, none⟩ 2 gc rfl rfl ((splice Z64 0 [.int .u8 h0, .int .u8 h1, .int .u8 h2, .int .u8 h3]).set 4 (.int .u8 kd)) 68 HB2.out.b2 ((putN it 2).map (Value.int .u8)) (by rw [List.length_map, Hi2.out]; rfl) ?_ (by rw [List.length_map, Hi2.out]; simp [splice, Z64_length]) (ints_oneCell _ _) ?_
      · intro j v hj
        have hj4 : j < 2 := by have := (List.getElem?_eq_some_iff.1 hj).1; rwa [List.length_map, Hi2.out] at this
        have hjl : j < (putN it 2).length := by rw [Hi2.out]; exact hj4
        rw [Addr.add_mid, Nat.zero_add, Hcell.out j hj4, ← hj]
        simp [List.getD_eq_getElem?_getD, hjl]
      intro x3 hb3 hc3
      have HB4 : Hid _ := HB2.out.put hc3 hb3.out
      have HS3 : Hid _ := hc3.cell HS2.out (by omega)
      refine ⟨HS3.out, ?_⟩
      clear hb3 hc3
      go_simp
      refine held_done (by kernel_rfl) (NoPanic.normal ?_)
      go_wp2
      go_meet
      exact HB4.out
    case rest =>
      have HBn : Hid _ := hcut
      generalize wc = we at *
      clear hcut
      go_upto_region 5 with fail
      go_cut [21] (fun _ wx => Beg w wx (.cells #[.int .u8 h0, .int .u8 h1, .int .u8 h2, .int .u8 h3, .int .i64 kd, .int .i64 it, .int .i64 sq] 53 (0, 0)) (splice (splice ((splice Z64 0 [.int .u8 h0, .int .u8 h1, .int .u8 h2, .int .u8 h3]).set 4 (.int .u8 kd)) 6 ((putN it 2).map (Value.int .u8))) 8 ((putN sq 4).map (Value.int .u8))))
      case first =>
        have HB1 : Hid _ := HBn.out.chg (Chg.drew (Chg.refl 0 0 we))
        have HS0 : Hid ((fun w' : World => w'.cell? ⟨w.heap.size, 6, none⟩ = some (.int .i64 sq)) we.drew) := by
          have hb := HB1.out.b0
          show _ = _
          simp [World.cell?, hb]
        refine held_region (fun w' : World => w'.cell? ⟨w.heap.size, 6, none⟩ = some (.int .i64 sq)) (by kernel_rfl) ?_
        refine held_take 0 (.slice (some ⟨w.heap.size + 1 + 1, 8, none⟩) 4 56) rfl (by kernel_rfl) (by kernel_rfl) (by kernel_rfl) (fun _ _ _ h => h) (.inl ⟨by kernel_rfl, fun w' hw' => by go_simp⟩) HS0.out ?_
        go_simp
        refine held_take 1 (.pointer (some ⟨w.heap.size, 6, none⟩)) rfl (by kernel_rfl) (by kernel_rfl) (by kernel_rfl) (fun _ _ _ h => h) (.inl ⟨by kernel_rfl, fun w' hw' => by go_simp⟩) HS0.out ?_
        go_simp
        refine held_take 2 (.int .i64 sq) rfl (by kernel_rfl) (by kernel_rfl) (by kernel_rfl) (fun _ _ _ h => h) (.inl ⟨by kernel_rfl, fun w' hw' => by have h4 : w'.cell? _ = _ := hw'; go_simp⟩) HS0.out ?_
        go_simp
        generalize we.drew = x1 at *
        have hlt := HB1.out.lt
        have hN := implPut_calls x1 sq 4 (by omega)
        refine held_one 3 rfl rfl (by kernel_rfl) ?_
        refine wp_enter 67 #[.int .i64 sq, .int .i64 4] (by first | kernel_rfl | go_simp) hN ?_
        rintro e x2 ⟨r, rfl, o2, c2⟩
        have HB2 : Hid _ := HB1.out.chg c2
        have HS2 : Hid _ := c2.cell HS0.out (by omega)
        obtain ⟨g, gc, rfl, hcell⟩ : ∃ g gc, r = .slice (some ⟨g, 0, none⟩) 4 gc ∧ ∀ i, i < 4 → x2.cell? ⟨g, i, none⟩ = some (.int .u8 ((putN sq 4).getD i 0)) := by
          have hv := o2.view (hi := x2.heap.size) (by rw [Hq4.out]; omega) (fun g hg => (o2.lt g hg).2)
          rcases o2.2 with ⟨_, h0⟩ | ⟨g, gc, cur, rfl, _⟩
          · rw [Hq4.out] at h0; omega
          · refine ⟨g, gc, by rw [Hq4.out], fun i hi => hv.cellAt' i (by rw [Hq4.out]; exact hi)⟩
        refine ⟨_, rfl, HS2.out, ?_⟩
        have Hcell : Hid _ := hcell
        clear hN o2 c2 hcell
        go_simp
        refine held_one 4 rfl rfl (by kernel_rfl) ?_
        refine wp_copy_row (.tmp 17) (.tmp 20) 32 32 rfl 5 Tryz.underlying32 (by kernel_rfl) (w.heap.size + 1 + 1) 8 4 56 ⟨g, 0, none⟩ 4 gc rfl rfl (splice ((splice Z64 0 [.int .u8 h0, .int .u8 h1, .int .u8 h2, .int .u8 h3]).set 4 (.int .u8 kd)) 6 ((putN it 2).map (Value.int .u8))) 68 HB2.out.b2 ((putN sq 4).map (Value.int .u8)) (by rw [List.length_map, Hq4.out]; rfl) ?_ (by rw [List.length_map, Hq4.out]; simp [splice, Z64_length, Hi2.out]) (ints_oneCell _ _) ?_
        · intro j v hj
          have hj4 : j < 4 := by have := (List.getElem?_eq_some_iff.1 hj).1; rwa [List.length_map, Hq4.out] at this
          have hjl : j < (putN sq 4).length := by rw [Hq4.out]; exact hj4
          rw [Addr.add_mid, Nat.zero_add, Hcell.out j hj4, ← hj]
          simp [List.getD_eq_getElem?_getD, hjl]
        intro x3 hb3 hc3
        have HB4 : Hid _ := HB2.out.put hc3 hb3.out
        have HS3 : Hid _ := hc3.cell HS2.out (by omega)
        refine ⟨HS3.out, ?_⟩
        clear hb3 hc3
        go_simp
        refine held_done (by kernel_rfl) (NoPanic.normal ?_)
        go_wp2
        go_meet
        exact HB4.out
      case rest =>
        have HBm : Hid _ := hcut
        generalize wc = wf at *
        clear hcut HBn
        have hF : splice (splice ((splice Z64 0 [.int .u8 h0, .int .u8 h1, .int .u8 h2, .int .u8 h3]).set 4 (.int .u8 kd)) 6 ((putN it 2).map (Value.int .u8))) 8 ((putN sq 4).map (Value.int .u8)) = (begL h0 h1 h2 h3 kd it sq).map (Value.int .u8) := by
          unfold begL
          match h2' : putN it 2, Hi2.out, h4' : putN sq 4, Hq4.out with
          | [a, b], _, [c, d, e, f], _ => unfold Z64 splice; rfl
        rw [hF] at HBm
        have hln : ((begL h0 h1 h2 h3 kd it sq).map (Value.int .u8)).length = 64 := by
          rw [List.length_map]; unfold begL; simp [Hi2.out, Hq4.out]
        obtain ⟨cs, hcs⟩ : ∃ cs, cs = (begL h0 h1 h2 h3 kd it sq).map (Value.int .u8) := ⟨_, rfl⟩
        have HV2 : Hid (∀ v ∈ cs, v.oneCell' = true) := by show ∀ v ∈ cs, v.oneCell' = true; rw [hcs]; exact ints_oneCell _ _
        rw [← hcs] at HBm hln
        have Hcs : Hid _ := hcs
        have hics : (Tryz.prog.info? 68).map (·.size) = some cs.length := by rw [hln]; kernel_rfl
        have Hln : Hid _ := hln
        have u44 := Tryz.underlying68
        have HR : Hid _ := row_rng HBm.out.b2
        have hlt := HBm.out.lt
        clear hF hln hcs
        go_wp2_with (first
          | (refine wpList_load_mid rfl 68 (.tmp 3) rfl (w.heap.size + 1 + 1) 0 rfl cs _ HR.out u44 rfl hics ?_)
          | (refine wpList_store_row rfl 68 (.tmp 2) (.tmp 22) rfl rfl (w.heap.size + 1) rfl cs Z64 68 rfl HBm.out.b1 (by rw [Z64_length]; exact Hln.out) hics HV2.out ?_; intro wg hbg hcg))
        have HCg : Hid _ := HBm.out.ch.step hcg (by omega)
        have hl1 : (loadVar 68 ⟨w.heap.size + 1, 0, none⟩).run Tryz.prog wg = .ok (.agg cs.toArray) wg := run_loadVar_mid _ _ _ _ cs _ (row_rng hbg) u44 rfl hics
        go_wp2
        exact bodyPost_ret (v := .agg cs.toArray) (results_one Tryz.results66 rfl hl1) rfl ⟨by rw [Hcs.out], HCg.out⟩

end Go.Proofs.YtkegadjdlkfabaaGreatDoor

namespace Go.Proofs.YtkegadjdlkfabaaGreatDoor
open Go.RowKit

/-- What lies in memory while a block is encoded: what is encoded, the block that is told, the block that is written. -/
structure Enc (w x : World) (B : Nat) (hd : Obj) (cur : List Value) : Prop where
  b0 : x.heap[w.heap.size]? = some hd
  b1 : x.heap[w.heap.size + 1]? = some (.cells Z64.toArray 68 (0, 0))
  b2 : x.heap[B]? = some (.cells cur.toArray 68 (0, 0))
  lo : w.heap.size + 1 < B
  ch : Chg 0 0 w x

theorem Enc.lt {w x : World} {B : Nat} {hd : Obj} {cur : List Value} (h : Enc w x B hd cur) : B < x.heap.size := (Array.getElem?_eq_some_iff.1 h.b2).1
theorem Enc.chg {w x y : World} {B : Nat} {hd : Obj} {cur : List Value} (h : Enc w x B hd cur) (c : Chg 0 0 x y) : Enc w y B hd cur :=
  have := h.lt
  have := h.lo
  ⟨(c.block _ (by omega) (by omega)).trans h.b0, (c.block _ (by omega) (by omega)).trans h.b1, (c.block _ (by omega) (by omega)).trans h.b2, h.lo, h.ch.trans c⟩
theorem Enc.put {w x y : World} {B : Nat} {hd : Obj} {cur cur' : List Value} (h : Enc w x B hd cur) (c : Chg B (B + 1) x y) (hb : y.heap[B]? = some (.cells cur'.toArray 68 (0, 0))) : Enc w y B hd cur' :=
  have := h.lt
  have := h.lo
  ⟨(c.block _ (by omega) (by omega)).trans h.b0, (c.block _ (by omega) (by omega)).trans h.b1, hb, h.lo, h.ch.step c (by omega)⟩

theorem begL_length {h0 h1 h2 h3 kd it sq : Int} (hi2 : (putN it 2).length = 2) (hq4 : (putN sq 4).length = 4) : (begL h0 h1 h2 h3 kd it sq).length = 64 := by
  unfold begL; simp [hi2, hq4]

end Go.Proofs.YtkegadjdlkfabaaGreatDoor

namespace Go.Proofs.YtkegadjdlkfabaaGreatDoor
open Go.RowKit

theorem digs_byt (v : Int) (n : Nat) : Byt (digs v n) := by
  induction n with
  | zero => intro x hx; cases hx
  | succ n ih =>
    intro x hx
    rcases List.mem_cons.1 hx with rfl | hx
    · exact ⟨Int.emod_nonneg _ (by decide), Int.emod_lt_of_pos _ (by decide)⟩
    · exact ih x hx

theorem putN_byt (v n : Int) : Byt (putN v n) := by
  unfold putN
  split
  · intro x hx; cases hx
  · split
    · intro x hx; cases hx
    · exact digs_byt _ _

end Go.Proofs.YtkegadjdlkfabaaGreatDoor

namespace Go.Proofs.YtkegadjdlkfabaaGreatDoor
open Go.RowKit

theorem pn2 {v : Int} (h0 : 0 ≤ v) (h1 : v < 65536) : (putN v 2).length = 2 := by
  unfold putN
  rw [if_neg (by omega), if_neg (by rw [show (256 : Int) ^ (2 : Int).toNat = 65536 from rfl]; omega), digs_length]
  rfl
theorem pn4 {v : Int} (h0 : 0 ≤ v) (h1 : v ≤ 4294967295) : (putN v 4).length = 4 := by
  unfold putN
  rw [if_neg (by omega), if_neg (by rw [show (256 : Int) ^ (4 : Int).toNat = 4294967296 from rfl]; omega), digs_length]
  rfl
theorem crcV_range (xs : List Int) : 0 ≤ crcV xs ∧ crcV xs ≤ 4294967295 := by
  have hlt := reg_lt (nb xs) 4294967295 (by omega)
  unfold crcV
  omega

end Go.Proofs.YtkegadjdlkfabaaGreatDoor

namespace Go.Proofs.YtkegadjdlkfabaaGreatDoor
open Go.RowKit

theorem once_disable (w : World) : (callFunc 87 #[]).run Tryz.prog w = .ok (.value (.tuple #[])) w := run_call_mark0 Tryz.func87 (by kernel_rfl) (by kernel_rfl) (by kernel_rfl) .disable (by kernel_rfl) w
theorem once_enable (w : World) : (callFunc 89 #[]).run Tryz.prog w = .ok (.value (.tuple #[])) w := run_call_mark0 Tryz.func89 (by kernel_rfl) (by kernel_rfl) (by kernel_rfl) .enable (by kernel_rfl) w
theorem once_acquire (a : Addr) (w : World) : (callFunc 90 #[.pointer (some a)]).run Tryz.prog w = .ok (.value (.tuple #[])) w := run_call_marked Tryz.func90 (by kernel_rfl) (by kernel_rfl) (by kernel_rfl) .acquire (by kernel_rfl) a w
theorem once_release (a : Addr) (w : World) : (callFunc 92 #[.pointer (some a)]).run Tryz.prog w = .ok (.value (.tuple #[])) w := run_call_marked Tryz.func92 (by kernel_rfl) (by kernel_rfl) (by kernel_rfl) .releaseMerge (by kernel_rfl) a w

set_option maxRecDepth 100000 in
/-- The done mark is stored, as a deferred call. -/
theorem once_store (a : Addr) (x : Value) (u : FrameMode) (w : World) (hc : w.cell? a = some x) (hz : w.frozen? a = false) :
    CallsD Tryz.prog 82 #[.pointer (some a), .bool true] u w fun e u' w' => u' = u ∧ (e = .returned (.tuple #[]) ∧ w' = w.drew.setCell a (.int .u32 1)) := by
  have hc' : w.drew.cell? a = some x := by go_simp
  have hz' : w.drew.frozen? a = false := by go_simp
  have hst := run_call_store (P := Tryz.prog) Tryz.func85 (by kernel_rfl) (by kernel_rfl) (by kernel_rfl) (by kernel_rfl) (k := .u32) (y := 1) hc' hz'
  go_enter_d Tryz.func82, Tryz.ntmps82
  go_wp2
  go_region_calls
  all_goals (go_end0; exact ⟨rfl, rfl⟩)

set_option maxRecDepth 100000 in
/-- The lock is let go, as a deferred call. -/
theorem once_unlock (a : Addr) (u : FrameMode) (w : World) (hc : w.cell? a = some (.int .i32 1)) (hz : w.frozen? a = false) :
    CallsD Tryz.prog 81 #[.pointer (some a)] u w fun e u' w' => u' = u ∧ (e = .returned (.tuple #[]) ∧ w' = w.setCell a (.int .i32 0)) := by
  have hd := once_disable
  have he := once_enable
  have hr := once_release
  have hadd := run_call_add (P := Tryz.prog) Tryz.func93 (by kernel_rfl) (by kernel_rfl) (by kernel_rfl) .i32 (by kernel_rfl) (y := -1) (s := 0) hc hz (by simp [go_sem]; rfl)
  have hcv := run_convert_to_unsafe (P := Tryz.prog) (src := 151) (dst := 75) Tryz.underlying151 Tryz.underlying75 (by kernel_rfl) hc
  go_enter_d Tryz.func81, Tryz.ntmps81
  go_wp2
  go_end0
  go_wp2
  go_end0
  exact ⟨rfl, rfl⟩

set_option maxRecDepth 100000 in
/-- The lock, which is free, is taken. -/
theorem once_lock (a : Addr) (w : World) (hc : w.cell? a = some (.int .i32 0)) (hz : w.frozen? a = false) :
    Calls Tryz.prog 80 #[.pointer (some a)] w fun e w' => e = .returned (.tuple #[]) ∧ w' = w.setCell a (.int .i32 1) := by
  have hd := once_disable
  have he := once_enable
  have ha := once_acquire
  have hcas := run_call_cas_hit (P := Tryz.prog) Tryz.func88 (by kernel_rfl) (by kernel_rfl) (by kernel_rfl) .i32 (by kernel_rfl) (y := 1) hc hz
  have hc' : (w.setCell a (.int .i32 1)).cell? a = some (.int .i32 1) := World.cell?_setCell_same w a _ hc
  have hcv := run_convert_to_unsafe (P := Tryz.prog) (src := 151) (dst := 75) Tryz.underlying151 Tryz.underlying75 (by kernel_rfl) hc'
  go_enter Tryz.func80, Tryz.ntmps80
  go_wp2
  first | go_end0 | (simp only [Exit.inBlock, Exit.then]; refine bodyPost_ret (results_none rfl _ _ _) rfl ?_) | refine bodyPost_ret (results_none rfl _ _ _) rfl ?_
  go_wp2
  go_end0
  exact ⟨rfl, rfl⟩

end Go.Proofs.YtkegadjdlkfabaaGreatDoor
