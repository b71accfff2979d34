/- (inode).encoded of the program. -/
import Derived.Test.YtmfkgnifkkkkiaaDoorBlkImpl
import Derived.Test.YtmfkgnifkkkkiaaDoorInoEnc
import Derived.Test.YtmfkgnifkkkkiaaDoorWeak
namespace Go.Proofs.YtmfkgnifkkkkiaaDoor
open Go.RowKit

def Z32b : List Value := List.replicate 32 (.int .u8 0)
theorem Z32b_eq : (#[.int .u8 0, .int .u8 0, .int .u8 0, .int .u8 0, .int .u8 0, .int .u8 0, .int .u8 0, .int .u8 0, .int .u8 0, .int .u8 0, .int .u8 0, .int .u8 0, .int .u8 0, .int .u8 0, .int .u8 0, .int .u8 0, .int .u8 0, .int .u8 0, .int .u8 0, .int .u8 0, .int .u8 0, .int .u8 0, .int .u8 0, .int .u8 0, .int .u8 0, .int .u8 0, .int .u8 0, .int .u8 0, .int .u8 0, .int .u8 0, .int .u8 0, .int .u8 0] : Array Value) = Z32b.toArray := by unfold Z32b; rfl
theorem Z32b_length : Z32b.length = 32 := by unfold Z32b; simp
theorem Z32b_rep : Z32b = List.replicate 32 (.int .u8 0) := by unfold Z32b; rfl
theorem Tryd.sizeRec : (Tryd.prog.info? 95).map (·.size) = some 32 := by kernel_rfl

theorem splice_end (X A : List Value) (z : Value) (n o : Nat) (ho : o = X.length) : splice (X ++ List.replicate n z) o A = X ++ A ++ List.replicate (n - A.length) z := by
  subst ho
  unfold splice
  rw [List.take_left, List.drop_append, List.drop_eq_nil_of_le (by omega), List.nil_append, Nat.add_sub_cancel_left, List.drop_replicate, List.append_assoc]
theorem putAll_ps (xs : List Int) : putAll xs = putPs xs := by
  unfold putAll putPs
  rw [List.flatMap_def]

/-- What lies in memory while a record is written. -/
structure EncR (w x : World) (i : Ino) (cur : List Value) : Prop where
  b0 : ArrC x w.heap.size 98 (nC i)
  b1 : ArrC x (w.heap.size + 1) 95 Z32b
  b2 : ArrC x (w.heap.size + 1 + 1) 95 cur
  ch : Chg 0 0 w x
theorem EncR.chg {w x y : World} {i : Ino} {cur : List Value} (h : EncR w x i cur) (c : Chg 0 0 x y) : EncR w y i cur :=
  ⟨h.b0.chg c (by omega), h.b1.chg c (by omega), h.b2.chg c (by omega), h.ch.trans c⟩
theorem EncR.put {w x y : World} {i : Ino} {cur cur' : List Value} (h : EncR w x i cur) (c : Chg (w.heap.size + 1 + 1) (w.heap.size + 1 + 1 + 1) x y) (hb : ArrC y (w.heap.size + 1 + 1) 95 cur') : EncR w y i cur' :=
  ⟨h.b0.chg c (by omega), h.b1.chg c (by omega), hb, h.ch.step c (by omega)⟩
theorem EncR.set {w x : World} {i : Ino} {cur : List Value} (h : EncR w x i cur) (j : Nat) (v : Value) : EncR w (x.setCell ⟨w.heap.size + 1 + 1, j, none⟩ v) i (cur.set j v) :=
  h.put (Chg.setCell (Chg.refl _ _ x) (p := ⟨w.heap.size + 1 + 1, j, none⟩) (Or.inl ⟨Nat.le_refl _, Nat.lt_succ_self _⟩) _) (h.b2.put j v)

/-- An inode whose numbers have room in a record. -/
structure Fits (i : Ino) : Prop where
  kind : 0 ≤ i.kind ∧ i.kind < 256
  links : 0 ≤ i.links ∧ i.links < 256
  size : 0 ≤ i.size ∧ i.size ≤ 2560
  len : i.dir.length = 8
  dir : ∀ x ∈ i.dir, 0 ≤ x ∧ x < 2048
  ind : 0 ≤ i.ind ∧ i.ind < 2048
theorem Fits.of {i : Ino} (h : inoB i = true) : Fits i := by
  obtain ⟨h1, h2, h3, h4, h5, h6⟩ := ino_good h
  exact ⟨by omega, by omega, h3, h4, fun x hx => goodI_iff.1 (h5 x hx), h6⟩
theorem put2_size {s : Int} (h : 0 ≤ s ∧ s ≤ 2560) : (putN s 2).length = 2 := by
  unfold putN
  rw [if_neg (by omega), if_neg (by have : (256 : Int) ^ (2 : Int).toNat = 65536 := rfl; rw [this]; omega), digs_length]; rfl

def recV (i : Ino) : List Value := (inoL i).map (Value.int .u8)
theorem rec_made {i : Ino} (h : Fits i) :
    splice (splice (splice ((Z32b.set 0 (.int .u8 i.kind)).set 1 (.int .u8 i.links)) 2 ((putN i.size 2).map (Value.int .u8))) 4 ((putPs i.dir).map (Value.int .u8))) 20 ((putPs [i.ind]).map (Value.int .u8)) = recV i := by
  have hs := put2_size h.size
  have hd := putPs_len h.dir
  rw [h.len] at hd
  have hx := putPs_len (xs := [i.ind]) (fun x hx => by rw [List.mem_singleton.1 hx]; exact h.ind)
  have e0 : (Z32b.set 0 (.int .u8 i.kind)).set 1 (.int .u8 i.links) = [Value.int .u8 i.kind, .int .u8 i.links] ++ List.replicate 30 (.int .u8 0) := by rw [Z32b_rep]; rfl
  rw [e0, splice_end _ _ _ 30 2 rfl]
  simp only [List.length_map, hs]
  rw [splice_end _ _ _ (30 - 2) 4 (by simp [hs])]
  simp only [List.length_map, hd]
  rw [splice_end _ _ _ (30 - 2 - 2 * 8) 20 (by simp [hs, hd])]
  simp only [List.length_map, hx]
  unfold recV inoL
  rw [putAll_ps]
  simp only [List.map_append, List.map_cons, List.map_nil, List.map_replicate]
  have e1 : putPs [i.ind] = putN i.ind 2 := by unfold putPs; simp
  rw [e1]
  rfl

theorem fill_intP (A : Array Value) (hr : A.size = 1) (a : Int) (k : IntKind) : Instr.fill (fun i => some (i * 1, 1)) A [(0, .int k a)] = some #[.int k a] := by
  obtain ⟨l⟩ := A
  match l, hr with
  | [x], _ => simp [Instr.fill, Value.cells]

set_option maxRecDepth 20000 in
set_option maxHeartbeats 4000000 in
theorem encR_calls (w : World) (i : Ino) (hf : Fits i) :
    Calls Tryd.prog 55 #[.agg (nC i).toArray] w fun e w' => e = .returned (.agg (recV i).toArray) ∧ Chg 0 0 w w' := by
  have u48 := Tryd.underlying95
  obtain ⟨ic, hic, hcz0, hcz1, hcz2⟩ := info_parts Tryd.infoI
  have HE0 : Hid (EncR w (((w.alloc (.cells (nC i).toArray 98)).alloc (.cells Z32b.toArray 95)).alloc (.cells Z32b.toArray 95)) i Z32b) := by
    show EncR _ _ _ _
    obtain ⟨_, h1, h2, h3⟩ := alloc3 w (.cells (nC i).toArray 98) (.cells Z32b.toArray 95) (.cells Z32b.toArray 95)
    exact ⟨h1, h2, h3, ((Chg.alloc (Chg.refl 0 0 w) _).alloc _).alloc _⟩
  have HF : Hid (Fits i) := hf
  have HM : Hid (splice (splice (splice ((Z32b.set 0 (.int .u8 i.kind)).set 1 (.int .u8 i.links)) 2 ((putN i.size 2).map (Value.int .u8))) 4 ((putPs i.dir).map (Value.int .u8))) 20 ((putPs [i.ind]).map (Value.int .u8)) = recV i) := rec_made hf
  have k0 := hf.kind
  have k1 := hf.links
  have k2 := hf.size
  have k3 := hf.ind
  have e0 : IntKind.u8.wrap i.kind = i.kind := wrap_u8 k0.1 k0.2
  have e1 : IntKind.u8.wrap i.links = i.links := wrap_u8 k1.1 k1.2
  have H2 : Hid ((putN i.size 2).length = 2) := put2_size k2
  have hln : (recV i).length = 32 := by
    rw [← HM.out, length_splice, length_splice, length_splice]
    · rw [List.length_set, List.length_set, Z32b_length]
    · rw [List.length_map, H2.out, List.length_set, List.length_set, Z32b_length]; omega
    · rw [length_splice _ _ _ (by rw [List.length_map, H2.out, List.length_set, List.length_set, Z32b_length]; omega), List.length_map, putPs_len hf.dir, hf.len, List.length_set, List.length_set, Z32b_length]; omega
    · rw [length_splice _ _ _ (by rw [length_splice _ _ _ (by rw [List.length_map, H2.out, List.length_set, List.length_set, Z32b_length]; omega), List.length_map, putPs_len hf.dir, hf.len, List.length_set, List.length_set, Z32b_length]; omega), length_splice _ _ _ (by rw [List.length_map, H2.out, List.length_set, List.length_set, Z32b_length]; omega), List.length_map, putPs_len (xs := [i.ind]) (fun x hx => by rw [List.mem_singleton.1 hx]; exact k3), List.length_set, List.length_set, Z32b_length]; simp
  have Hln : Hid ((recV i).length = 32) := hln
  have hics : (Tryd.prog.info? 95).map (·.size) = some (recV i).length := by rw [hln]; exact Tryd.sizeRec
  have HV2 : Hid (∀ v ∈ recV i, v.oneCell' = true) := by show ∀ v ∈ recV i, v.oneCell' = true; unfold recV; exact ints_oneCell _ _
  clear hf hln
  go_enter Tryd.func55, Tryd.ntmps55
  go_upto_region 2 with fail
  simp only [Z32b_eq]
  generalize (((w.alloc (.cells (nC i).toArray 98)).alloc (.cells Z32b.toArray 95)).alloc (.cells Z32b.toArray 95)) = wa at *
  have c0 := HE0.out.b0.cell 0 (nC_0 i)
  have c20 := HE0.out.b2.cell 0 (v := .int .u8 0) (by rw [Z32b_rep]; rfl)
  have f20 := HE0.out.b2.frozen 0
  have HE1 : Hid (EncR w (wa.setCell ⟨w.heap.size + 1 + 1, 0, none⟩ (.int .u8 i.kind)) i (Z32b.set 0 (.int .u8 i.kind))) := HE0.out.set 0 _
  go_upto_region 3 with fail
  generalize wa.setCell ⟨w.heap.size + 1 + 1, 0, none⟩ (.int .u8 i.kind) = wb at *
  clear c0 c20 f20 HE0
  have c0 := HE1.out.b0.cell 1 (nC_1 i)
  have c20 := HE1.out.b2.cell 1 (v := .int .u8 0) (by rw [Z32b_rep]; rfl)
  have f20 := HE1.out.b2.frozen 1
  have HE2 : Hid (EncR w (wb.setCell ⟨w.heap.size + 1 + 1, 1, none⟩ (.int .u8 i.links)) i ((Z32b.set 0 (.int .u8 i.kind)).set 1 (.int .u8 i.links))) := HE1.out.set 1 _
  go_upto_region 4 with fail
  generalize wb.setCell ⟨w.heap.size + 1 + 1, 1, none⟩ (.int .u8 i.links) = wd at *
  have HLc : Hid (((Z32b.set 0 (.int .u8 i.kind)).set 1 (.int .u8 i.links)).length = 32) := by show _ = _; rw [List.length_set, List.length_set, Z32b_length]
  clear c0 c20 f20 HE1
  generalize (Z32b.set 0 (.int .u8 i.kind)).set 1 (.int .u8 i.links) = cA at *
  go_cut [16] (fun _ wx => EncR w wx i (splice cA 2 ((putN i.size 2).map (Value.int .u8))))
  case first =>
    have HB1 : Hid (EncR w wd.drew i cA) := HE2.out.chg (Chg.drew (Chg.refl 0 0 wd))
    have HS : Hid ((fun w' : World => ArrC w' w.heap.size 98 (nC i)) wd.drew) := HB1.out.b0
    refine held_region (fun w' : World => ArrC w' w.heap.size 98 (nC i)) (by kernel_rfl) ?_
    refine held_take 0 (.slice (some ⟨w.heap.size + 1 + 1, 2, none⟩) 30 30) rfl (by kernel_rfl) (by kernel_rfl) (by kernel_rfl) (fun _ _ _ h => h) (.inl ⟨by kernel_rfl, fun w' hw' => by go_simp⟩) HS.out ?_
    go_simp
    refine held_take 1 (.pointer (some ⟨w.heap.size, 2, none⟩)) rfl (by kernel_rfl) (by kernel_rfl) (by kernel_rfl) (fun _ _ _ h => h) (.inl ⟨by kernel_rfl, fun w' hw' => by go_simp⟩) HS.out ?_
    go_simp
    refine held_take 2 (.int .i64 i.size) rfl (by kernel_rfl) (by kernel_rfl) (by kernel_rfl) (fun _ _ _ h => h) (.inl ⟨by kernel_rfl, fun w' hw' => by have q := ArrC.cell hw' 2 (nC_2 i); go_simp⟩) HS.out ?_
    go_simp
    generalize wd.drew = x1 at *
    have hN := implPut_calls x1 i.size 2 (by omega)
    refine held_one 3 rfl rfl (by kernel_rfl) ?_
    refine wp_enter 47 #[.int .i64 i.size, .int .i64 2] (by first | kernel_rfl | go_simp) hN ?_
    rintro e x2 ⟨r, rfl, o2, c2⟩
    have HB2 : Hid (EncR w x2 i cA) := HB1.out.chg c2
    obtain ⟨g, gc, rfl, hcell⟩ := o2.two H2.out (by omega) (by omega)
    refine ⟨_, rfl, HB2.out.b0, ?_⟩
    have Hcell : Hid (∀ j v, ((putN i.size 2).map (Value.int .u8))[j]? = some v → x2.cell? ((⟨g, 0, none⟩ : Addr).add j) = some v) := hcell
    clear hN o2 c2 hcell HB1
    go_simp
    refine held_one 4 rfl rfl (by kernel_rfl) ?_
    refine wp_copy_row (.tmp 12) (.tmp 15) 24 24 rfl 5 Tryd.underlying24 (by kernel_rfl) (w.heap.size + 1 + 1) 2 30 30 ⟨g, 0, none⟩ 2 gc rfl rfl cA 95 HB2.out.b2 ((putN i.size 2).map (Value.int .u8)) (by rw [List.length_map, H2.out]; rfl) Hcell.out (by rw [List.length_map, H2.out, HLc.out]; omega) (by intro v hv; rw [List.mem_map] at hv; obtain ⟨y, _, rfl⟩ := hv; rfl) ?_
    intro x3 hb3 hc3
    have HB3 : Hid (EncR w x3 i (splice cA 2 ((putN i.size 2).map (Value.int .u8)))) := HB2.out.put hc3 hb3.out
    refine ⟨HB3.out.b0, ?_⟩
    clear hb3 hc3 Hcell HB2
    go_simp
    refine held_done (by kernel_rfl) (NoPanic.normal ?_)
    go_wp2
    go_meet
    exact HB3.out
  case rest =>
    have HE3 : Hid (EncR w wc i (splice cA 2 ((putN i.size 2).map (Value.int .u8)))) := hcut
    have HLd : Hid ((splice cA 2 ((putN i.size 2).map (Value.int .u8))).length = 32) := by show _ = _; rw [length_splice _ _ _ (by rw [List.length_map, H2.out, HLc.out]; omega), HLc.out]
    generalize splice cA 2 ((putN i.size 2).map (Value.int .u8)) = cB at *
    generalize wc = we at *
    clear hcut HE2 HLc
    go_upto_region 5 with fail
    go_cut [20] (fun _ wx => EncR w wx i (splice cB 4 ((putPs i.dir).map (Value.int .u8))))
    case first =>
      have HB1 : Hid (EncR w we.drew i cB) := HE3.out.chg (Chg.drew (Chg.refl 0 0 we))
      have HS : Hid ((fun w' : World => ArrC w' w.heap.size 98 (nC i)) we.drew) := HB1.out.b0
      refine held_region (fun w' : World => ArrC w' w.heap.size 98 (nC i)) (by kernel_rfl) ?_
      refine held_take 0 (.slice (some ⟨w.heap.size + 1 + 1, 4, none⟩) 28 28) rfl (by kernel_rfl) (by kernel_rfl) (by kernel_rfl) (fun _ _ _ h => h) (.inl ⟨by kernel_rfl, fun w' hw' => by go_simp⟩) HS.out ?_
      go_simp
      refine held_take 1 (.pointer (some ⟨w.heap.size, 3, none⟩)) rfl (by kernel_rfl) (by kernel_rfl) (by kernel_rfl) (fun _ _ _ h => h) (.inl ⟨by kernel_rfl, fun w' hw' => by go_simp⟩) HS.out ?_
      go_simp
      refine held_take 2 (.slice (some ⟨w.heap.size, 3, none⟩) 8 8) rfl (by kernel_rfl) (by kernel_rfl) (by kernel_rfl) (fun _ _ _ h => h) (.inl ⟨by kernel_rfl, fun w' hw' => by go_simp⟩) HS.out ?_
      go_simp
      generalize we.drew = x1 at *
      have hN := putPointers_calls x1 (w.heap.size + 1 + 1) 4 28 28 95 cB HB1.out.b2 i.dir w.heap.size 3 8 (by omega) (by rw [HF.out.len]; omega) (by rw [HF.out.len]; omega) (by omega) (by omega) (by rw [HLd.out]; omega) HF.out.dir (fun j hj => HB1.out.b0.cell (3 + j) (nC_d i hj))
      rw [HF.out.len] at hN
      refine held_one 3 rfl rfl (by kernel_rfl) ?_
      refine wp_enter 67 #[.slice (some ⟨w.heap.size + 1 + 1, 4, none⟩) 28 28, .slice (some ⟨w.heap.size, 3, none⟩) 8 8] (by first | kernel_rfl | go_simp) hN ?_
      rintro e x2 ⟨⟨v, rfl⟩, ha2, c2⟩
      have HB2 : Hid (EncR w x2 i (splice cB 4 ((putPs i.dir).map (Value.int .u8)))) := HB1.out.put c2 ha2
      refine ⟨_, rfl, HB2.out.b0, ?_⟩
      clear hN ha2 c2 HB1
      go_simp
      refine held_done (by kernel_rfl) (NoPanic.normal ?_)
      go_wp2
      go_meet
      exact HB2.out
    case rest =>
      have HE4 : Hid (EncR w wc i (splice cB 4 ((putPs i.dir).map (Value.int .u8)))) := hcut
      have HLe : Hid ((splice cB 4 ((putPs i.dir).map (Value.int .u8))).length = 32) := by show _ = _; rw [length_splice _ _ _ (by rw [List.length_map, putPs_len HF.out.dir, HF.out.len, HLd.out]; omega), HLd.out]
      generalize splice cB 4 ((putPs i.dir).map (Value.int .u8)) = cD at *
      generalize wc = wf at *
      clear hcut HE3 HLd
      go_upto_region 6 with fail
      go_cut [25] (fun _ wx => EncR w wx i (recV i))
      case first =>
        have HB1 : Hid (EncR w wf.drew i cD) := HE4.out.chg (Chg.drew (Chg.refl 0 0 wf))
        have HS : Hid ((fun w' : World => ArrC w' w.heap.size 98 (nC i)) wf.drew) := HB1.out.b0
        refine held_region (fun w' : World => ArrC w' w.heap.size 98 (nC i)) (by kernel_rfl) ?_
        refine held_take 0 (.slice (some ⟨w.heap.size + 1 + 1, 20, none⟩) 12 12) rfl (by kernel_rfl) (by kernel_rfl) (by kernel_rfl) (fun _ _ _ h => h) (.inl ⟨by kernel_rfl, fun w' hw' => by go_simp⟩) HS.out ?_
        go_simp
        refine held_take 1 (.pointer (some ⟨w.heap.size, 11, none⟩)) rfl (by kernel_rfl) (by kernel_rfl) (by kernel_rfl) (fun _ _ _ h => h) (.inl ⟨by kernel_rfl, fun w' hw' => by go_simp⟩) HS.out ?_
        go_simp
        refine held_take 2 (.int .i64 i.ind) rfl (by kernel_rfl) (by kernel_rfl) (by kernel_rfl) (fun _ _ _ h => h) (.inl ⟨by kernel_rfl, fun w' hw' => by have q := ArrC.cell hw' 11 (nC_i HF.out.len); go_simp⟩) HS.out ?_
        go_simp
        generalize wf.drew = x1 at *
        refine held_one 3 rfl rfl (by kernel_rfl) ?_
        refine wp_buildSlice 49 2 1 #[(0, .tmp 23)] rfl #[.int .i64 i.ind] ic _ Tryd.underlying49 hic hcz0 (by rw [hcz1]; decide) (by rw [hcz1]; decide) (by rw [hcz1, Array.toList_map]; refine fill_intP _ ?_ _ _; simp) ?_
        have hs1 := (HB1.out.b2).lt
        have HB2 : Hid (EncR w (x1.alloc (.cells #[.int .i64 i.ind] 2)) i cD) := HB1.out.chg (Chg.alloc (Chg.refl 0 0 x1) _)
        have hnew := heap_new x1 (.cells #[.int .i64 i.ind] 2)
        have hN := putPointers_calls (x1.alloc (.cells #[.int .i64 i.ind] 2)) (w.heap.size + 1 + 1) 20 12 12 95 cD HB2.out.b2 [i.ind] x1.heap.size 0 1 (by omega) (by simp) (by simp) (by omega) (by omega) (by rw [HLe.out]; omega) (fun y hy => by rw [List.mem_singleton.1 hy]; exact k3) (fun j hj => by
          obtain rfl : j = 0 := by simpa using hj
          simp only [World.cell?, hnew]; rfl)
        rw [HM.out] at hN
        generalize x1.heap.size = M at *
        generalize x1.alloc (.cells #[.int .i64 i.ind] 2) = x2 at *
        refine ⟨HB2.out.b0, ?_⟩
        clear hnew HB1 hs1
        go_simp
        refine held_one 4 rfl rfl (by kernel_rfl) ?_
        refine wp_enter 67 #[.slice (some ⟨w.heap.size + 1 + 1, 20, none⟩) 12 12, .slice (some ⟨M, 0, none⟩) 1 1] (by first | kernel_rfl | go_simp) hN ?_
        rintro e x3 ⟨⟨v, rfl⟩, ha2, c2⟩
        have HB3 : Hid (EncR w x3 i (recV i)) := HB2.out.put c2 ha2
        refine ⟨_, rfl, HB3.out.b0, ?_⟩
        clear hN ha2 c2 HB2
        go_simp
        refine held_done (by kernel_rfl) (NoPanic.normal ?_)
        go_wp2
        go_meet
        exact HB3.out
      case rest =>
        have HBm : Hid (EncR w wc i (recV i)) := hcut
        generalize wc = wz at *
        have HR : Hid (wz.rangeAt (w.heap.size + 1 + 1) 0 (recV i)) := HBm.out.b2.range
        have HB1 : Hid (wz.heap[w.heap.size + 1]? = some (.cells Z32b.toArray 95 (0, 0))) := HBm.out.b1
        clear hcut HE4 HLe
        generalize hcs : recV i = cs at *
        have Hcs : Hid (recV i = cs) := hcs
        clear hcs
        go_wp2_with (first
          | (refine wpList_load_mid rfl 95 (.tmp 3) rfl (w.heap.size + 1 + 1) 0 rfl cs _ HR.out u48 rfl hics ?_)
          | (refine wpList_store_row rfl 95 (.tmp 2) (.tmp 26) rfl rfl (w.heap.size + 1) rfl cs Z32b 95 rfl HB1.out (by rw [Z32b_length]; exact Hln.out) hics HV2.out ?_; intro wg hbg hcg))
        have HCg : Hid (Chg 0 0 w wg) := HBm.out.ch.step hcg (by omega)
        have hl1 : (loadVar 95 ⟨w.heap.size + 1, 0, none⟩).run Tryd.prog wg = .ok (.agg cs.toArray) wg := run_loadVar_mid _ _ _ _ cs _ (row_rng hbg) u48 rfl hics
        go_wp2
        exact bodyPost_ret (v := .agg cs.toArray) (results_one Tryd.results55 rfl hl1) rfl ⟨by rw [Hcs.out], HCg.out⟩

end Go.Proofs.YtmfkgnifkkkkiaaDoor
