/- systemBlock of the program: the superblock of a geometry. (made by tools/mksys.py) -/
import Derived.Test.YtmfkgnifkkkkiaaDoorOkSup
import Derived.Test.YtmfkgnifkkkkiaaDoorAppSeen
import Derived.Test.YtmfkgnifkkkkiaaDoorEncRow
namespace Go.Proofs.YtmfkgnifkkkkiaaDoor
open Go.RowKit

theorem Tryd.infoI64 : (Tryd.prog.info? 2).map (fun i => (i.zero, i.size, i.bytes)) = some (some (.int .i64 0), 1, 8) := by kernel_rfl

/-- What the variable systemMagic holds. -/
def SysM (w : World) : Prop := w.cell? ⟨0, 0, none⟩ = some (.int .u8 102) ∧ w.cell? ⟨0, 1, none⟩ = some (.int .u8 115) ∧ w.cell? ⟨0, 2, none⟩ = some (.int .u8 121) ∧ w.cell? ⟨0, 3, none⟩ = some (.int .u8 115)
theorem SysM.chg {w w' : World} (h : SysM w) (c : Chg 0 0 w w') : SysM w' := ⟨c.cell h.1 (by omega), c.cell h.2.1 (by omega), c.cell h.2.2.1 (by omega), c.cell h.2.2.2 (by omega)⟩

theorem magic_at0 (w : World) : (Instr.index 60 (.agg #[.int .u8 102, .int .u8 115, .int .u8 121, .int .u8 115]) (.int .i64 0)).run Tryd.prog w = .ok (.int .u8 102) w := by kernel_rfl
theorem magic_at1 (w : World) : (Instr.index 60 (.agg #[.int .u8 102, .int .u8 115, .int .u8 121, .int .u8 115]) (.int .i64 1)).run Tryd.prog w = .ok (.int .u8 115) w := by kernel_rfl
theorem magic_at2 (w : World) : (Instr.index 60 (.agg #[.int .u8 102, .int .u8 115, .int .u8 121, .int .u8 115]) (.int .i64 2)).run Tryd.prog w = .ok (.int .u8 121) w := by kernel_rfl
theorem magic_at3 (w : World) : (Instr.index 60 (.agg #[.int .u8 102, .int .u8 115, .int .u8 121, .int .u8 115]) (.int .i64 3)).run Tryd.prog w = .ok (.int .u8 115) w := by kernel_rfl
theorem num_at0 (b l n : Int) (w : World) : (Instr.index 85 (.agg #[.int .i64 b, .int .i64 l, .int .i64 n]) (.int .i64 0)).run Tryd.prog w = .ok (.int .i64 b) w := by kernel_rfl
theorem num_at1 (b l n : Int) (w : World) : (Instr.index 85 (.agg #[.int .i64 b, .int .i64 l, .int .i64 n]) (.int .i64 1)).run Tryd.prog w = .ok (.int .i64 l) w := by kernel_rfl
theorem num_at2 (b l n : Int) (w : World) : (Instr.index 85 (.agg #[.int .i64 b, .int .i64 l, .int .i64 n]) (.int .i64 2)).run Tryd.prog w = .ok (.int .i64 n) w := by kernel_rfl

/-- A byte of the block that is written. -/
theorem Beg.at {w x : World} {hd : Obj} {cur : List Value} (h : Beg w x hd cur) (i : Nat) (hi : i < cur.length) (v : Value) :
    (∃ u, x.cell? ⟨w.heap.size + 1 + 1, i, none⟩ = some u) ∧ x.frozen? ⟨w.heap.size + 1 + 1, i, none⟩ = false ∧ Beg w (x.setCell ⟨w.heap.size + 1 + 1, i, none⟩ v) hd (cur.set i v) := by
  have hb := h.b2
  have hlt := h.lt
  refine ⟨⟨cur[i], ?_⟩, ?_, ?_⟩
  · simp [World.cell?, hb, hi]
  · simp [World.frozen?, hb]
  · refine h.put (Chg.setCell (p := ⟨w.heap.size + 1 + 1, i, none⟩) (Chg.refl _ _ x) (Or.inl ⟨Nat.le_refl _, Nat.lt_succ_self _⟩) _) ?_
    simp [World.setCell, hb, Array.getElem?_modify]

/-- The block with so many bytes of the magic; with the version; with so many numbers. -/
def mgC (k : Nat) : List Value := ([102, 115, 121, 115].take k).map (Value.int .u8) ++ Z64.drop k
theorem mgC_length {k : Nat} (h : k ≤ 4) : (mgC k).length = 64 := by
  match k, h with
  | 0, _ | 1, _ | 2, _ | 3, _ | 4, _ => unfold mgC Z64; rfl
def verC : List Value := (mgC 4).set 4 (.int .u8 1)
theorem verC_length : verC.length = 64 := by unfold verC; rw [List.length_set]; exact mgC_length (by omega)
def numC (b l n : Int) : Nat → List Value
  | 0 => verC
  | 1 => splice verC 6 ((putN b 2).map (Value.int .u8))
  | 2 => splice (splice verC 6 ((putN b 2).map (Value.int .u8))) 8 ((putN l 2).map (Value.int .u8))
  | _ => splice (splice (splice verC 6 ((putN b 2).map (Value.int .u8))) 8 ((putN l 2).map (Value.int .u8))) 10 ((putN n 2).map (Value.int .u8))
theorem numC_last {b l n : Int} (h : GeoIn b l n) : numC b l n 3 = (fsA b l n ++ [0, 0, 0, 0]).map (Value.int .u8) := by
  obtain ⟨h1, h2, h3, h4, h5, h6⟩ := h
  show splice (splice (splice verC 6 _) 8 _) 10 _ = _
  unfold fsA
  match q1 : putN b 2, pn2 (v := b) (by omega) (by omega), q2 : putN l 2, pn2 (v := l) (by omega) (by omega), q3 : putN n 2, pn2 (v := n) (by omega) (by omega) with
  | [a0, a1], _, [b0, b1], _, [c0, c1], _ => unfold verC mgC Z64 splice; rfl
theorem splice_len {cur cs : List Value} {o : Nat} (h : o + cs.length ≤ cur.length) : (splice cur o cs).length = cur.length := by
  unfold splice; simp only [List.length_append, List.length_take, List.length_drop]; omega
theorem numC_length {b l n : Int} (h : GeoIn b l n) (k : Nat) (hk : k ≤ 3) : (numC b l n k).length = 64 := by
  obtain ⟨h1, h2, h3, h4, h5, h6⟩ := h
  have p1 : ((putN b 2).map (Value.int .u8)).length = 2 := by rw [List.length_map]; exact pn2 (by omega) (by omega)
  have p2 : ((putN l 2).map (Value.int .u8)).length = 2 := by rw [List.length_map]; exact pn2 (by omega) (by omega)
  have p3 : ((putN n 2).map (Value.int .u8)).length = 2 := by rw [List.length_map]; exact pn2 (by omega) (by omega)
  have v := verC_length
  have s1 : (splice verC 6 ((putN b 2).map (Value.int .u8))).length = 64 := by rw [splice_len (by omega)]; exact v
  have s2 : (splice (splice verC 6 ((putN b 2).map (Value.int .u8))) 8 ((putN l 2).map (Value.int .u8))).length = 64 := by rw [splice_len (by omega)]; exact s1
  match k, hk with
  | 0, _ => exact v
  | 1, _ => exact s1
  | 2, _ => exact s2
  | 3, _ => show (splice _ 10 _).length = 64; rw [splice_len (by omega)]; exact s2

set_option maxRecDepth 20000 in
set_option maxHeartbeats 4000000 in
theorem systemBlock_calls (w : World) (b l n : Int) (hg : GeoIn b l n) (hm : SysM w) :
    Calls Tryd.prog 23 #[geoV b l n] w fun e w' => e = .returned (.agg ((fsL b l n).map (Value.int .u8)).toArray) ∧ Chg 0 0 w w' := by
  obtain ⟨ti, hti, hz0, hz1, hz2⟩ := info_parts Tryd.infoU
  obtain ⟨tj, htj, hy0, hy1, hy2⟩ := info_parts Tryd.infoI64
  obtain ⟨g1, g2, g3, g4, g5, g6⟩ := id hg
  have P1 : Hid ((putN b 2).length = 2) := pn2 (by omega) (by omega)
  have P2 : Hid ((putN l 2).length = 2) := pn2 (by omega) (by omega)
  have P3 : Hid ((putN n 2).length = 2) := pn2 (by omega) (by omega)
  have HG : Hid (GeoIn b l n) := hg
  have HB0 : Hid (Beg w (((w.alloc (.cells #[.int .i64 b, .int .i64 l, .int .i64 n] 29)).alloc (.cells Z64.toArray 58)).alloc (.cells Z64.toArray 58)) (.cells #[.int .i64 b, .int .i64 l, .int .i64 n] 29 (0, 0)) Z64) := by
    show Beg _ _ _ _
    obtain ⟨z1, z2, z3, z4⟩ := alloc3 w (.cells #[.int .i64 b, .int .i64 l, .int .i64 n] 29) (.cells Z64.toArray 58) (.cells Z64.toArray 58)
    exact ⟨z2, z3, z4, ((Chg.alloc (Chg.refl 0 0 w) _).alloc _).alloc _⟩
  have HM : Hid (SysM (((w.alloc (.cells #[.int .i64 b, .int .i64 l, .int .i64 n] 29)).alloc (.cells Z64.toArray 58)).alloc (.cells Z64.toArray 58))) := hm.chg (((Chg.alloc (Chg.refl 0 0 w) _).alloc _).alloc _)
  clear hm hg
  go_enter Tryd.func23, Tryd.ntmps23
  go_upto_region 2 with fail
  simp only [Z64_eq]
  generalize (((w.alloc (.cells #[.int .i64 b, .int .i64 l, .int .i64 n] 29)).alloc (.cells Z64.toArray 58)).alloc (.cells Z64.toArray 58)) = wa at *
  obtain ⟨m0, m1, m2, m3⟩ := HM.out
  go_wp2
  clear m0 m1 m2 m3 HM
  go_loopw [9] (fun x wr => (x = .int .i64 0 ∧ Beg w wr (.cells #[.int .i64 b, .int .i64 l, .int .i64 n] 29 (0, 0)) (mgC 0)) ∨ (x = .int .i64 1 ∧ Beg w wr (.cells #[.int .i64 b, .int .i64 l, .int .i64 n] 29 (0, 0)) (mgC 1)) ∨ (x = .int .i64 2 ∧ Beg w wr (.cells #[.int .i64 b, .int .i64 l, .int .i64 n] 29 (0, 0)) (mgC 2)) ∨ (x = .int .i64 3 ∧ Beg w wr (.cells #[.int .i64 b, .int .i64 l, .int .i64 n] 29 (0, 0)) (mgC 3)) ∨ (x = .int .i64 4 ∧ Beg w wr (.cells #[.int .i64 b, .int .i64 l, .int .i64 n] 29 (0, 0)) (mgC 4))) (fun x _ => 4 - (intOf x).toNat)
  case atStart => exact Or.inl ⟨rfl, HB0.out⟩
  case round =>
    clear HB0
    rcases hrel with ⟨rfl, hbeg⟩ | ⟨rfl, hbeg⟩ | ⟨rfl, hbeg⟩ | ⟨rfl, hbeg⟩ | ⟨rfl, hbeg⟩
    · have HB : Hid (Beg w wr (.cells #[.int .i64 b, .int .i64 l, .int .i64 n] 29 (0, 0)) (mgC 0)) := hbeg
      clear hbeg
      have hix := magic_at0 wr
      obtain ⟨⟨u, c1⟩, c2, c3⟩ := HB.out.at 0 (by rw [mgC_length (by omega)]; omega) (.int .u8 102)
      have HN : Hid (Beg w (wr.setCell ⟨w.heap.size + 1 + 1, 0, none⟩ (.int .u8 102)) (.cells #[.int .i64 b, .int .i64 l, .int .i64 n] 29 (0, 0)) (mgC 1)) := by
        have e : (mgC 0).set 0 (.int .u8 102) = mgC 1 := by unfold mgC Z64; rfl
        rw [e] at c3; exact c3
      clear c3 HB
      go_wp2
      go_roundw
      case rel => exact Or.inr (Or.inl ⟨rfl, HN.out⟩)
      case measure => simp [intOf]
    · have HB : Hid (Beg w wr (.cells #[.int .i64 b, .int .i64 l, .int .i64 n] 29 (0, 0)) (mgC 1)) := hbeg
      clear hbeg
      have hix := magic_at1 wr
      obtain ⟨⟨u, c1⟩, c2, c3⟩ := HB.out.at 1 (by rw [mgC_length (by omega)]; omega) (.int .u8 115)
      have HN : Hid (Beg w (wr.setCell ⟨w.heap.size + 1 + 1, 1, none⟩ (.int .u8 115)) (.cells #[.int .i64 b, .int .i64 l, .int .i64 n] 29 (0, 0)) (mgC 2)) := by
        have e : (mgC 1).set 1 (.int .u8 115) = mgC 2 := by unfold mgC Z64; rfl
        rw [e] at c3; exact c3
      clear c3 HB
      go_wp2
      go_roundw
      case rel => exact Or.inr (Or.inr (Or.inl ⟨rfl, HN.out⟩))
      case measure => simp [intOf]
    · have HB : Hid (Beg w wr (.cells #[.int .i64 b, .int .i64 l, .int .i64 n] 29 (0, 0)) (mgC 2)) := hbeg
      clear hbeg
      have hix := magic_at2 wr
      obtain ⟨⟨u, c1⟩, c2, c3⟩ := HB.out.at 2 (by rw [mgC_length (by omega)]; omega) (.int .u8 121)
      have HN : Hid (Beg w (wr.setCell ⟨w.heap.size + 1 + 1, 2, none⟩ (.int .u8 121)) (.cells #[.int .i64 b, .int .i64 l, .int .i64 n] 29 (0, 0)) (mgC 3)) := by
        have e : (mgC 2).set 2 (.int .u8 121) = mgC 3 := by unfold mgC Z64; rfl
        rw [e] at c3; exact c3
      clear c3 HB
      go_wp2
      go_roundw
      case rel => exact Or.inr (Or.inr (Or.inr (Or.inl ⟨rfl, HN.out⟩)))
      case measure => simp [intOf]
    · have HB : Hid (Beg w wr (.cells #[.int .i64 b, .int .i64 l, .int .i64 n] 29 (0, 0)) (mgC 3)) := hbeg
      clear hbeg
      have hix := magic_at3 wr
      obtain ⟨⟨u, c1⟩, c2, c3⟩ := HB.out.at 3 (by rw [mgC_length (by omega)]; omega) (.int .u8 115)
      have HN : Hid (Beg w (wr.setCell ⟨w.heap.size + 1 + 1, 3, none⟩ (.int .u8 115)) (.cells #[.int .i64 b, .int .i64 l, .int .i64 n] 29 (0, 0)) (mgC 4)) := by
        have e : (mgC 3).set 3 (.int .u8 115) = mgC 4 := by unfold mgC Z64; rfl
        rw [e] at c3; exact c3
      clear c3 HB
      go_wp2
      go_roundw
      case rel => exact Or.inr (Or.inr (Or.inr (Or.inr (⟨rfl, HN.out⟩))))
      case measure => simp [intOf]
    · have HB : Hid (Beg w wr (.cells #[.int .i64 b, .int .i64 l, .int .i64 n] 29 (0, 0)) (mgC 4)) := hbeg
      clear hbeg
      obtain ⟨⟨u, c1⟩, c2, c3⟩ := HB.out.at 4 (by rw [mgC_length (by omega)]; omega) (.int .u8 1)
      have HN : Hid (Beg w (wr.setCell ⟨w.heap.size + 1 + 1, 4, none⟩ (.int .u8 1)) (.cells #[.int .i64 b, .int .i64 l, .int .i64 n] 29 (0, 0)) (numC b l n 0)) := c3
      have hb0 := HN.out.b0
      have q0 : (wr.setCell ⟨w.heap.size + 1 + 1, 4, none⟩ (.int .u8 1)).cell? ⟨w.heap.size, 0, none⟩ = some (.int .i64 b) := by simp [World.cell?, hb0]
      have q1 : (wr.setCell ⟨w.heap.size + 1 + 1, 4, none⟩ (.int .u8 1)).cell? ⟨w.heap.size, 1, none⟩ = some (.int .i64 l) := by simp [World.cell?, hb0]
      have q2 : (wr.setCell ⟨w.heap.size + 1 + 1, 4, none⟩ (.int .u8 1)).cell? ⟨w.heap.size, 2, none⟩ = some (.int .i64 n) := by simp [World.cell?, hb0]
      clear c3 HB hb0
      go_upto_region 8 with fail
      generalize wr.setCell ⟨w.heap.size + 1 + 1, 4, none⟩ (.int .u8 1) = ws at *
      clear c1 c2
      go_wp2
      clear q0 q1 q2
      go_loopw [25] (fun x wr => (x = .int .i64 0 ∧ Beg w wr (.cells #[.int .i64 b, .int .i64 l, .int .i64 n] 29 (0, 0)) (numC b l n 0)) ∨ (x = .int .i64 1 ∧ Beg w wr (.cells #[.int .i64 b, .int .i64 l, .int .i64 n] 29 (0, 0)) (numC b l n 1)) ∨ (x = .int .i64 2 ∧ Beg w wr (.cells #[.int .i64 b, .int .i64 l, .int .i64 n] 29 (0, 0)) (numC b l n 2)) ∨ (x = .int .i64 3 ∧ Beg w wr (.cells #[.int .i64 b, .int .i64 l, .int .i64 n] 29 (0, 0)) (numC b l n 3))) (fun x _ => 3 - (intOf x).toNat)
      case atStart => exact Or.inl ⟨rfl, HN.out⟩
      case round =>
        clear HN
        rcases hrel with ⟨rfl, hbeg⟩ | ⟨rfl, hbeg⟩ | ⟨rfl, hbeg⟩ | ⟨rfl, hbeg⟩
        · have HB : Hid (Beg w wr (.cells #[.int .i64 b, .int .i64 l, .int .i64 n] 29 (0, 0)) (numC b l n 0)) := hbeg
          clear hbeg
          have hix := num_at0 b l n wr
          have HCl : Hid ((numC b l n 0).length = 64) := numC_length HG.out 0 (by omega)
          go_upto_region 11 with fail
          clear hix
          have HB1 : Hid (Beg w wr.drew (.cells #[.int .i64 b, .int .i64 l, .int .i64 n] 29 (0, 0)) (numC b l n 0)) := HB.out.chg (Chg.drew (Chg.refl 0 0 wr))
          clear HB
          refine held_region (fun _ : World => True) (by kernel_rfl) ?_
          refine held_take 0 (.int .i64 0) rfl (by kernel_rfl) (by kernel_rfl) (by kernel_rfl) (fun _ _ _ h => h) (.inl ⟨by kernel_rfl, fun w' hw' => by (go_simp; all_goals decide)⟩) trivial ?_
          go_simp
          refine held_take 1 (.int .i64 0) rfl (by kernel_rfl) (by kernel_rfl) (by kernel_rfl) (fun _ _ _ h => h) (.inl ⟨by kernel_rfl, fun w' hw' => by (go_simp; all_goals decide)⟩) trivial ?_
          go_simp
          refine held_take 2 (.int .i64 6) rfl (by kernel_rfl) (by kernel_rfl) (by kernel_rfl) (fun _ _ _ h => h) (.inl ⟨by kernel_rfl, fun w' hw' => by (go_simp; all_goals decide)⟩) trivial ?_
          go_simp
          refine held_take 3 (.slice (some ⟨w.heap.size + 1 + 1, 6, none⟩) 58 58) rfl (by kernel_rfl) (by kernel_rfl) (by kernel_rfl) (fun _ _ _ h => h) (.inl ⟨by kernel_rfl, fun w' hw' => by (go_simp; all_goals decide)⟩) trivial ?_
          go_simp
          refine held_take 4 (.int .i64 b) rfl (by kernel_rfl) (by kernel_rfl) (by kernel_rfl) (fun _ _ _ h => h) (.inl ⟨by kernel_rfl, fun w' hw' => by (go_simp; all_goals decide)⟩) trivial ?_
          go_simp
          generalize wr.drew = x1 at *
          have hN := implPut_calls x1 b 2 (by omega)
          refine held_one 5 rfl rfl (by kernel_rfl) ?_
          refine wp_enter 47 #[.int .i64 b, .int .i64 2] (by first | kernel_rfl | go_simp) hN ?_
          rintro e x2 ⟨r, rfl, o2, c2⟩
          have HB2 : Hid (Beg w x2 (.cells #[.int .i64 b, .int .i64 l, .int .i64 n] 29 (0, 0)) (numC b l n 0)) := HB1.out.chg c2
          obtain ⟨g, gc, rfl, hcell⟩ : ∃ g gc, r = .slice (some ⟨g, 0, none⟩) 2 gc ∧ ∀ i, i < 2 → x2.cell? ⟨g, i, none⟩ = some (.int .u8 ((putN b 2).getD i 0)) := by
            have hv := o2.view (hi := x2.heap.size) (by rw [P1.out]; omega) (fun g hg => (o2.lt g hg).2)
            rcases o2.2 with ⟨_, h0⟩ | ⟨g, gc, cur, rfl, _⟩
            · rw [P1.out] at h0; omega
            · refine ⟨g, gc, by rw [P1.out], fun i hi => hv.cellAt' i (by rw [P1.out]; exact hi)⟩
          refine ⟨_, rfl, trivial, ?_⟩
          have Hcell : Hid (∀ i, i < 2 → x2.cell? ⟨g, i, none⟩ = some (.int .u8 ((putN b 2).getD i 0))) := hcell
          clear hN o2 c2 hcell HB1
          go_simp
          refine held_one 6 rfl rfl (by kernel_rfl) ?_
          refine wp_copy_row (.tmp 32) (.tmp 34) 24 24 rfl 5 Tryd.underlying24 (by kernel_rfl) (w.heap.size + 1 + 1) 6 58 58 ⟨g, 0, none⟩ 2 gc rfl rfl (numC b l n 0) 58 HB2.out.b2 ((putN b 2).map (Value.int .u8)) (by rw [List.length_map, P1.out]; rfl) ?_ (by rw [List.length_map, P1.out, HCl.out]; decide) (ints_oneCell _ _) ?_
          · intro j v hj
            have hj4 : j < 2 := by have := (List.getElem?_eq_some_iff.1 hj).1; rwa [List.length_map, P1.out] at this
            have hjl : j < (putN b 2).length := by rw [P1.out]; exact hj4
            rw [Addr.add_mid, Nat.zero_add, Hcell.out j hj4, ← hj]
            simp [List.getD_eq_getElem?_getD, hjl]
          intro x3 hb3 hc3
          have HB4 : Hid (Beg w x3 (.cells #[.int .i64 b, .int .i64 l, .int .i64 n] 29 (0, 0)) (numC b l n 1)) := HB2.out.put hc3 hb3.out
          refine ⟨trivial, ?_⟩
          clear hb3 hc3 HB2 Hcell
          go_simp
          refine held_done (by kernel_rfl) (NoPanic.normal ?_)
          go_wp2
          go_roundw
          case rel => exact Or.inr (Or.inl ⟨rfl, HB4.out⟩)
          case measure => simp [intOf]
        · have HB : Hid (Beg w wr (.cells #[.int .i64 b, .int .i64 l, .int .i64 n] 29 (0, 0)) (numC b l n 1)) := hbeg
          clear hbeg
          have hix := num_at1 b l n wr
          have HCl : Hid ((numC b l n 1).length = 64) := numC_length HG.out 1 (by omega)
          go_upto_region 11 with fail
          clear hix
          have HB1 : Hid (Beg w wr.drew (.cells #[.int .i64 b, .int .i64 l, .int .i64 n] 29 (0, 0)) (numC b l n 1)) := HB.out.chg (Chg.drew (Chg.refl 0 0 wr))
          clear HB
          refine held_region (fun _ : World => True) (by kernel_rfl) ?_
          refine held_take 0 (.int .i64 1) rfl (by kernel_rfl) (by kernel_rfl) (by kernel_rfl) (fun _ _ _ h => h) (.inl ⟨by kernel_rfl, fun w' hw' => by (go_simp; all_goals decide)⟩) trivial ?_
          go_simp
          refine held_take 1 (.int .i64 2) rfl (by kernel_rfl) (by kernel_rfl) (by kernel_rfl) (fun _ _ _ h => h) (.inl ⟨by kernel_rfl, fun w' hw' => by (go_simp; all_goals decide)⟩) trivial ?_
          go_simp
          refine held_take 2 (.int .i64 8) rfl (by kernel_rfl) (by kernel_rfl) (by kernel_rfl) (fun _ _ _ h => h) (.inl ⟨by kernel_rfl, fun w' hw' => by (go_simp; all_goals decide)⟩) trivial ?_
          go_simp
          refine held_take 3 (.slice (some ⟨w.heap.size + 1 + 1, 8, none⟩) 56 56) rfl (by kernel_rfl) (by kernel_rfl) (by kernel_rfl) (fun _ _ _ h => h) (.inl ⟨by kernel_rfl, fun w' hw' => by (go_simp; all_goals decide)⟩) trivial ?_
          go_simp
          refine held_take 4 (.int .i64 l) rfl (by kernel_rfl) (by kernel_rfl) (by kernel_rfl) (fun _ _ _ h => h) (.inl ⟨by kernel_rfl, fun w' hw' => by (go_simp; all_goals decide)⟩) trivial ?_
          go_simp
          generalize wr.drew = x1 at *
          have hN := implPut_calls x1 l 2 (by omega)
          refine held_one 5 rfl rfl (by kernel_rfl) ?_
          refine wp_enter 47 #[.int .i64 l, .int .i64 2] (by first | kernel_rfl | go_simp) hN ?_
          rintro e x2 ⟨r, rfl, o2, c2⟩
          have HB2 : Hid (Beg w x2 (.cells #[.int .i64 b, .int .i64 l, .int .i64 n] 29 (0, 0)) (numC b l n 1)) := HB1.out.chg c2
          obtain ⟨g, gc, rfl, hcell⟩ : ∃ g gc, r = .slice (some ⟨g, 0, none⟩) 2 gc ∧ ∀ i, i < 2 → x2.cell? ⟨g, i, none⟩ = some (.int .u8 ((putN l 2).getD i 0)) := by
            have hv := o2.view (hi := x2.heap.size) (by rw [P2.out]; omega) (fun g hg => (o2.lt g hg).2)
            rcases o2.2 with ⟨_, h0⟩ | ⟨g, gc, cur, rfl, _⟩
            · rw [P2.out] at h0; omega
            · refine ⟨g, gc, by rw [P2.out], fun i hi => hv.cellAt' i (by rw [P2.out]; exact hi)⟩
          refine ⟨_, rfl, trivial, ?_⟩
          have Hcell : Hid (∀ i, i < 2 → x2.cell? ⟨g, i, none⟩ = some (.int .u8 ((putN l 2).getD i 0))) := hcell
          clear hN o2 c2 hcell HB1
          go_simp
          refine held_one 6 rfl rfl (by kernel_rfl) ?_
          refine wp_copy_row (.tmp 32) (.tmp 34) 24 24 rfl 5 Tryd.underlying24 (by kernel_rfl) (w.heap.size + 1 + 1) 8 56 56 ⟨g, 0, none⟩ 2 gc rfl rfl (numC b l n 1) 58 HB2.out.b2 ((putN l 2).map (Value.int .u8)) (by rw [List.length_map, P2.out]; rfl) ?_ (by rw [List.length_map, P2.out, HCl.out]; decide) (ints_oneCell _ _) ?_
          · intro j v hj
            have hj4 : j < 2 := by have := (List.getElem?_eq_some_iff.1 hj).1; rwa [List.length_map, P2.out] at this
            have hjl : j < (putN l 2).length := by rw [P2.out]; exact hj4
            rw [Addr.add_mid, Nat.zero_add, Hcell.out j hj4, ← hj]
            simp [List.getD_eq_getElem?_getD, hjl]
          intro x3 hb3 hc3
          have HB4 : Hid (Beg w x3 (.cells #[.int .i64 b, .int .i64 l, .int .i64 n] 29 (0, 0)) (numC b l n 2)) := HB2.out.put hc3 hb3.out
          refine ⟨trivial, ?_⟩
          clear hb3 hc3 HB2 Hcell
          go_simp
          refine held_done (by kernel_rfl) (NoPanic.normal ?_)
          go_wp2
          go_roundw
          case rel => exact Or.inr (Or.inr (Or.inl ⟨rfl, HB4.out⟩))
          case measure => simp [intOf]
        · have HB : Hid (Beg w wr (.cells #[.int .i64 b, .int .i64 l, .int .i64 n] 29 (0, 0)) (numC b l n 2)) := hbeg
          clear hbeg
          have hix := num_at2 b l n wr
          have HCl : Hid ((numC b l n 2).length = 64) := numC_length HG.out 2 (by omega)
          go_upto_region 11 with fail
          clear hix
          have HB1 : Hid (Beg w wr.drew (.cells #[.int .i64 b, .int .i64 l, .int .i64 n] 29 (0, 0)) (numC b l n 2)) := HB.out.chg (Chg.drew (Chg.refl 0 0 wr))
          clear HB
          refine held_region (fun _ : World => True) (by kernel_rfl) ?_
          refine held_take 0 (.int .i64 2) rfl (by kernel_rfl) (by kernel_rfl) (by kernel_rfl) (fun _ _ _ h => h) (.inl ⟨by kernel_rfl, fun w' hw' => by (go_simp; all_goals decide)⟩) trivial ?_
          go_simp
          refine held_take 1 (.int .i64 4) rfl (by kernel_rfl) (by kernel_rfl) (by kernel_rfl) (fun _ _ _ h => h) (.inl ⟨by kernel_rfl, fun w' hw' => by (go_simp; all_goals decide)⟩) trivial ?_
          go_simp
          refine held_take 2 (.int .i64 10) rfl (by kernel_rfl) (by kernel_rfl) (by kernel_rfl) (fun _ _ _ h => h) (.inl ⟨by kernel_rfl, fun w' hw' => by (go_simp; all_goals decide)⟩) trivial ?_
          go_simp
          refine held_take 3 (.slice (some ⟨w.heap.size + 1 + 1, 10, none⟩) 54 54) rfl (by kernel_rfl) (by kernel_rfl) (by kernel_rfl) (fun _ _ _ h => h) (.inl ⟨by kernel_rfl, fun w' hw' => by (go_simp; all_goals decide)⟩) trivial ?_
          go_simp
          refine held_take 4 (.int .i64 n) rfl (by kernel_rfl) (by kernel_rfl) (by kernel_rfl) (fun _ _ _ h => h) (.inl ⟨by kernel_rfl, fun w' hw' => by (go_simp; all_goals decide)⟩) trivial ?_
          go_simp
          generalize wr.drew = x1 at *
          have hN := implPut_calls x1 n 2 (by omega)
          refine held_one 5 rfl rfl (by kernel_rfl) ?_
          refine wp_enter 47 #[.int .i64 n, .int .i64 2] (by first | kernel_rfl | go_simp) hN ?_
          rintro e x2 ⟨r, rfl, o2, c2⟩
          have HB2 : Hid (Beg w x2 (.cells #[.int .i64 b, .int .i64 l, .int .i64 n] 29 (0, 0)) (numC b l n 2)) := HB1.out.chg c2
          obtain ⟨g, gc, rfl, hcell⟩ : ∃ g gc, r = .slice (some ⟨g, 0, none⟩) 2 gc ∧ ∀ i, i < 2 → x2.cell? ⟨g, i, none⟩ = some (.int .u8 ((putN n 2).getD i 0)) := by
            have hv := o2.view (hi := x2.heap.size) (by rw [P3.out]; omega) (fun g hg => (o2.lt g hg).2)
            rcases o2.2 with ⟨_, h0⟩ | ⟨g, gc, cur, rfl, _⟩
            · rw [P3.out] at h0; omega
            · refine ⟨g, gc, by rw [P3.out], fun i hi => hv.cellAt' i (by rw [P3.out]; exact hi)⟩
          refine ⟨_, rfl, trivial, ?_⟩
          have Hcell : Hid (∀ i, i < 2 → x2.cell? ⟨g, i, none⟩ = some (.int .u8 ((putN n 2).getD i 0))) := hcell
          clear hN o2 c2 hcell HB1
          go_simp
          refine held_one 6 rfl rfl (by kernel_rfl) ?_
          refine wp_copy_row (.tmp 32) (.tmp 34) 24 24 rfl 5 Tryd.underlying24 (by kernel_rfl) (w.heap.size + 1 + 1) 10 54 54 ⟨g, 0, none⟩ 2 gc rfl rfl (numC b l n 2) 58 HB2.out.b2 ((putN n 2).map (Value.int .u8)) (by rw [List.length_map, P3.out]; rfl) ?_ (by rw [List.length_map, P3.out, HCl.out]; decide) (ints_oneCell _ _) ?_
          · intro j v hj
            have hj4 : j < 2 := by have := (List.getElem?_eq_some_iff.1 hj).1; rwa [List.length_map, P3.out] at this
            have hjl : j < (putN n 2).length := by rw [P3.out]; exact hj4
            rw [Addr.add_mid, Nat.zero_add, Hcell.out j hj4, ← hj]
            simp [List.getD_eq_getElem?_getD, hjl]
          intro x3 hb3 hc3
          have HB4 : Hid (Beg w x3 (.cells #[.int .i64 b, .int .i64 l, .int .i64 n] 29 (0, 0)) (numC b l n 3)) := HB2.out.put hc3 hb3.out
          refine ⟨trivial, ?_⟩
          clear hb3 hc3 HB2 Hcell
          go_simp
          refine held_done (by kernel_rfl) (NoPanic.normal ?_)
          go_wp2
          go_roundw
          case rel => exact Or.inr (Or.inr (Or.inr (⟨rfl, HB4.out⟩)))
          case measure => simp [intOf]
        · have hl3 := numC_last HG.out
          rw [hl3] at hbeg
          have hN := fun W => sealed_calls W (fsA b l n) [0, 0, 0, 0] (fsA_len HG.out) rfl (fsA_byt b l n)
          have hbl : ((fsA b l n ++ [0, 0, 0, 0]).map (Value.int .u8)).length = 64 := by rw [List.length_map, List.length_append, fsA_len HG.out]; rfl
          have hcl : ((fsA b l n ++ putN (crcV (fsA b l n)) 4).map (Value.int .u8)).length = 64 := by rw [List.length_map]; exact fsL_len HG.out
          obtain ⟨bs, hbs⟩ : ∃ bs, bs = (fsA b l n ++ [0, 0, 0, 0]).map (Value.int .u8) := ⟨_, rfl⟩
          obtain ⟨cs, hcs⟩ : ∃ cs, cs = (fsA b l n ++ putN (crcV (fsA b l n)) 4).map (Value.int .u8) := ⟨_, rfl⟩
          have HV2 : Hid (∀ v ∈ cs, v.oneCell' = true) := by show ∀ v ∈ cs, v.oneCell' = true; rw [hcs]; exact ints_oneCell _ _
          have Hcs : Hid (cs = (fsL b l n).map (Value.int .u8)) := hcs
          rw [← hbs, ← hcs] at hN
          rw [← hbs] at hbeg hbl
          rw [← hcs] at hcl
          have HB : Hid (Beg w wr (.cells #[.int .i64 b, .int .i64 l, .int .i64 n] 29 (0, 0)) bs) := hbeg
          have hibs : (Tryd.prog.info? 58).map (·.size) = some bs.length := by rw [hbl]; kernel_rfl
          have hics : (Tryd.prog.info? 58).map (·.size) = some cs.length := by rw [hcl]; kernel_rfl
          have Hcl : Hid (cs.length = 64) := hcl
          have u44 := Tryd.underlying58
          have HR : Hid (wr.rangeAt (w.heap.size + 1 + 1) 0 bs) := row_rng HB.out.b2
          have hlt := HB.out.lt
          clear hl3 hbeg hbl hcl hbs hcs
          go_wp2_with (refine wpList_load_mid rfl 58 (.tmp 3) rfl (w.heap.size + 1 + 1) 0 rfl bs _ HR.out u44 rfl hibs ?_)
          refine (hN wr).mono ?_
          rintro e x2 ⟨rfl, c2⟩
          have HB2 : Hid (Beg w x2 (.cells #[.int .i64 b, .int .i64 l, .int .i64 n] 29 (0, 0)) bs) := HB.out.chg c2
          have hlt2 := HB2.out.lt
          clear hN c2 HB HR
          go_wp2_with (refine wpList_store_row rfl 58 (.tmp 2) (.tmp 38) rfl rfl (w.heap.size + 1) rfl cs Z64 58 rfl HB2.out.b1 (by rw [Z64_length]; exact Hcl.out) hics HV2.out ?_; intro wg hbg hcg)
          have HCg : Hid (Chg 0 0 w wg) := HB2.out.ch.step hcg (by omega)
          have hl1 : (loadVar 58 ⟨w.heap.size + 1, 0, none⟩).run Tryd.prog wg = .ok (.agg cs.toArray) wg := run_loadVar_mid _ _ _ _ cs _ (row_rng hbg) u44 rfl hics
          go_wp2
          exact bodyPost_ret (v := .agg cs.toArray) (results_one Tryd.results23 rfl hl1) rfl ⟨by rw [Hcs.out], HCg.out⟩

end Go.Proofs.YtmfkgnifkkkkiaaDoor
