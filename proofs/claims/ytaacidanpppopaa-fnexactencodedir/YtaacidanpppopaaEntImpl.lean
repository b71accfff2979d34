/- (Entry).isValid, (Entry).encoded of the program. -/
import Derived.Test.YtaacidanpppopaaEntEnc
import Derived.Test.YtaacidanpppopaaImplName
import Derived.Test.YtaacidanpppopaaPutPs
import Derived.Test.YtaacidanpppopaaRowZ
import Derived.Lib.BufferWrite
namespace Go.Proofs.Ytaacidanpppopaa
open Go.RowKit

abbrev entA (q : Int) (s : ByteArray) : Array Value := #[.int .i64 q, .string s]
theorem ent_cells {w : World} {b : Nat} {q : Int} {s : ByteArray} {t : TypeId} (h : w.heap[b]? = some (.cells (entA q s) t (0, 0))) : w.cell? ⟨b, 0, none⟩ = some (.int .i64 q) ∧ w.cell? ⟨b, 1, none⟩ = some (.string s) := by
  simp [World.cell?, h]

set_option maxRecDepth 20000 in
set_option maxHeartbeats 1000000 in
theorem isValidE_calls (w : World) (q : Int) (s : ByteArray) :
    Calls Try.prog 31 #[.agg (entA q s)] w fun e w' => e = .returned (.bool (entB q s)) ∧ Chg 0 0 w w' := by
  have hA : Chg 0 0 w (w.alloc (.cells (entA q s) 37)) := Chg.alloc (Chg.refl 0 0 w) _
  obtain ⟨c0, c1⟩ := ent_cells (heap_new w (.cells (entA q s) 37))
  have hN1 := isWithin_calls (w.alloc (.cells (entA q s) 37)) q 1 256
  have hN2 := validName_any (w.alloc (.cells (entA q s) 37)) s
  have HR : Hid (entB q s = (nameB s && (decide (1 ≤ q) && decide (q ≤ 256)))) := rfl
  generalize (decide (1 ≤ q) && decide (q ≤ 256)) = b1 at *
  cases b1
  · clear hN2
    go_enter Try.func31, Try.ntmps31
    go_wp2_with (go_at_call 35; refine hN1.mono ?_; clear hN1; rintro e w' ⟨rfl, rfl⟩)
    go_ret
    exact ⟨by rw [HR.out, Bool.and_false]; rfl, hA⟩
  · go_enter Try.func31, Try.ntmps31
    go_wp2_with (first
      | (go_at_call 35; refine hN1.mono ?_; clear hN1; rintro e w' ⟨rfl, rfl⟩)
      | (go_at_call 36; refine hN2.mono ?_; clear hN2; rintro e w2 ⟨rfl, hc2⟩))
    go_ret
    exact ⟨by rw [HR.out, Bool.and_true]; rfl, hA.trans hc2⟩

/-- copy of a text into a row. -/
theorem wp_copy_str {P : Program} {o : Oper} {a : Act} {w : World} {K : Act → World → Prop} {Q : Exit → Act → World → Prop} (d s : Operand) (dT sT : TypeId)
    (ho : o.op = .call { callee := .builtin .copy, args := #[d, s], argTypes := #[dT, sT] }) (elem : TypeId) (hu : P.underlying dT = some (.slice elem)) (hsz : (P.info? elem).map (·.size) = some 1)
    (g off dLen dCap : Nat) (tx : ByteArray) (hd : a.eval d = .slice (some ⟨g, off, none⟩) dLen dCap) (hs : a.eval s = .string tx)
    (cur : List Value) (t : TypeId) (hg : w.heap[g]? = some (.cells cur.toArray t (0, 0))) (hle : tx.size ≤ dLen) (hfit : off + tx.size ≤ cur.length)
    (h : ∀ w', Hid (w'.heap[g]? = some (.cells (splice cur off ((strL tx).map (Value.int .u8))).toArray t (0, 0))) → Chg g (g + 1) w w' → K (a.put o.dst (goInt tx.size)) w') :
    Oper.wp P o a w K Q := by
  have hrun := Lib.run_copy_row_string (P := P) w dT sT o.type elem g off dLen dCap tx cur.toArray t hu hsz hg hle (by simpa using hfit)
  have hb : (strL tx).map (Value.int .u8) = Lib.byteCells tx.data.toList := by unfold strL; rw [List.map_map]; rfl
  have hbl : ((strL tx).map (Value.int .u8)).length = tx.size := by rw [List.length_map, strL_len]
  unfold Oper.wp
  simp [execOp, ho, resolve, invoke, builtin, hd, hs, hrun, Result.andThen]
  refine h _ (show _ = _ from ?_) (Chg.setRow _ _ _)
  rw [setRow_heap w g _ _ t _ hg]
  unfold splice
  rw [hbl, hb]

def Z16 : List Value := List.replicate 16 (.int .u8 0)
theorem Z16_eq : (#[.int .u8 0, .int .u8 0, .int .u8 0, .int .u8 0, .int .u8 0, .int .u8 0, .int .u8 0, .int .u8 0, .int .u8 0, .int .u8 0, .int .u8 0, .int .u8 0, .int .u8 0, .int .u8 0, .int .u8 0, .int .u8 0] : Array Value) = Z16.toArray := by unfold Z16; rfl
theorem Z16_length : Z16.length = 16 := by unfold Z16; simp
theorem Z16_rep : Z16 = List.replicate 16 (.int .u8 0) := by unfold Z16; rfl
theorem Try.sizeERec : (Try.prog.info? 56).map (·.size) = some 16 := by kernel_rfl
theorem splice_tail (X A : List Value) (z : Value) (n o : Nat) (ho : o = X.length) : splice (X ++ List.replicate n z) o A = X ++ A ++ List.replicate (n - A.length) z := by
  subst ho
  unfold splice
  rw [List.take_left, List.drop_append, List.drop_eq_nil_of_le (by omega), List.nil_append, Nat.add_sub_cancel_left, List.drop_replicate, List.append_assoc]
def recE (q : Int) (s : ByteArray) : List Value := (entL q s).map (Value.int .u8)
theorem put2_q {q : Int} (h : 1 ≤ q ∧ q ≤ 256) : (putN q 2).length = 2 := by
  unfold putN
  rw [if_neg (by omega), if_neg (by have : (256 : Int) ^ (2 : Int).toNat = 65536 := rfl; rw [this]; omega), digs_length]; rfl
theorem recE_made {q : Int} {s : ByteArray} (hq : 1 ≤ q ∧ q ≤ 256) :
    splice ((splice Z16 0 ((putN q 2).map (Value.int .u8))).set 2 (.int .u8 (s.size : Int))) 3 ((strL s).map (Value.int .u8)) = recE q s := by
  have h2 := put2_q hq
  have e0 : splice Z16 0 ((putN q 2).map (Value.int .u8)) = (putN q 2).map (Value.int .u8) ++ List.replicate 14 (.int .u8 0) := by
    rw [Z16_rep]
    have := splice_tail [] ((putN q 2).map (Value.int .u8)) (.int .u8 0) 16 0 rfl
    simpa [h2] using this
  have e1 : ((putN q 2).map (Value.int .u8) ++ List.replicate 14 (Value.int .u8 0)).set 2 (.int .u8 (s.size : Int)) = ((putN q 2).map (Value.int .u8) ++ [Value.int .u8 (s.size : Int)]) ++ List.replicate 13 (Value.int .u8 0) := by
    rw [List.set_append, if_neg (by rw [List.length_map, h2]; omega), List.length_map, h2, List.append_assoc]
    rfl
  rw [e0, e1, splice_tail _ _ _ 13 3 (by simp [h2])]
  unfold recE entL
  simp only [List.map_append, List.map_cons, List.map_nil, List.map_replicate, List.length_map, strL_len]

/-- What lies in memory while an entry is written. -/
structure EncE (w x : World) (q : Int) (s : ByteArray) (cur : List Value) : Prop where
  b0 : x.heap[w.heap.size]? = some (.cells (entA q s) 37 (0, 0))
  b1 : ArrC x (w.heap.size + 1) 56 Z16
  b2 : ArrC x (w.heap.size + 1 + 1) 56 cur
  ch : Chg 0 0 w x
theorem EncE.chg {w x y : World} {q : Int} {s : ByteArray} {cur : List Value} (h : EncE w x q s cur) (c : Chg 0 0 x y) : EncE w y q s cur :=
  ⟨(c.block _ (Array.getElem?_eq_some_iff.1 h.b0).1 (by omega)).trans h.b0, h.b1.chg c (by omega), h.b2.chg c (by omega), h.ch.trans c⟩
theorem EncE.put {w x y : World} {q : Int} {s : ByteArray} {cur cur' : List Value} (h : EncE w x q s cur) (c : Chg (w.heap.size + 1 + 1) (w.heap.size + 1 + 1 + 1) x y) (hb : ArrC y (w.heap.size + 1 + 1) 56 cur') : EncE w y q s cur' :=
  ⟨(c.block _ (Array.getElem?_eq_some_iff.1 h.b0).1 (by omega)).trans h.b0, h.b1.chg c (by omega), hb, h.ch.step c (by omega)⟩

set_option maxRecDepth 20000 in
set_option maxHeartbeats 4000000 in
theorem encE_calls (w : World) (q : Int) (s : ByteArray) (hq : 1 ≤ q ∧ q ≤ 256) (hs : s.size ≤ 13) :
    Calls Try.prog 27 #[.agg (entA q s)] w fun e w' => e = .returned (.agg (recE q s).toArray) ∧ Chg 0 0 w w' := by
  have u38 := Try.underlying56
  have HE0 : Hid (EncE w (((w.alloc (.cells (entA q s) 37)).alloc (.cells Z16.toArray 56)).alloc (.cells Z16.toArray 56)) q s Z16) := by
    show EncE _ _ _ _ _
    obtain ⟨_, h1, h2, h3⟩ := alloc3 w (.cells (entA q s) 37) (.cells Z16.toArray 56) (.cells Z16.toArray 56)
    exact ⟨h1, h2, h3, ((Chg.alloc (Chg.refl 0 0 w) _).alloc _).alloc _⟩
  have HM : Hid (splice ((splice Z16 0 ((putN q 2).map (Value.int .u8))).set 2 (.int .u8 (s.size : Int))) 3 ((strL s).map (Value.int .u8)) = recE q s) := recE_made hq
  have H2 : Hid ((putN q 2).length = 2) := put2_q hq
  have hc1 : (splice Z16 0 ((putN q 2).map (Value.int .u8))).length = 16 := by rw [length_splice _ _ _ (by rw [List.length_map, H2.out, Z16_length]; omega), Z16_length]
  have hln : (recE q s).length = 16 := by rw [← HM.out, length_splice _ _ _ (by rw [List.length_map, strL_len, List.length_set, hc1]; omega), List.length_set, hc1]
  have HL1 : Hid ((splice Z16 0 ((putN q 2).map (Value.int .u8))).length = 16) := hc1
  have Hln : Hid ((recE q s).length = 16) := hln
  have hics : (Try.prog.info? 56).map (·.size) = some (recE q s).length := by rw [hln]; exact Try.sizeERec
  have HV2 : Hid (∀ v ∈ recE q s, v.oneCell' = true) := by show ∀ v ∈ recE q s, v.oneCell' = true; unfold recE; exact ints_oneCell _ _
  have ew : IntKind.u8.wrap (s.size : Int) = (s.size : Int) := wrap_byt (by omega) (by omega)
  clear hc1 hln
  go_enter Try.func27, Try.ntmps27
  go_upto_region 2 with fail
  simp only [Z16_eq]
  generalize (((w.alloc (.cells (entA q s) 37)).alloc (.cells Z16.toArray 56)).alloc (.cells Z16.toArray 56)) = wd at *
  go_cut [8] (fun _ wx => EncE w wx q s (splice Z16 0 ((putN q 2).map (Value.int .u8))))
  case first =>
    have HB1 : Hid (EncE w wd.drew q s Z16) := HE0.out.chg (Chg.drew (Chg.refl 0 0 wd))
    have HS : Hid ((fun w' : World => w'.heap[w.heap.size]? = some (.cells (entA q s) 37 (0, 0))) wd.drew) := HB1.out.b0
    refine held_region (fun w' : World => w'.heap[w.heap.size]? = some (.cells (entA q s) 37 (0, 0))) (by kernel_rfl) ?_
    refine held_take 0 (.slice (some ⟨w.heap.size + 1 + 1, 0, none⟩) 16 16) rfl (by kernel_rfl) (by kernel_rfl) (by kernel_rfl) (fun _ _ _ h => h) (.inl ⟨by kernel_rfl, fun w' hw' => by go_simp⟩) HS.out ?_
    go_simp
    refine held_take 1 (.pointer (some ⟨w.heap.size, 0, none⟩)) rfl (by kernel_rfl) (by kernel_rfl) (by kernel_rfl) (fun _ _ _ h => h) (.inl ⟨by kernel_rfl, fun w' hw' => by go_simp⟩) HS.out ?_
    go_simp
    refine held_take 2 (.int .i64 q) rfl (by kernel_rfl) (by kernel_rfl) (by kernel_rfl) (fun _ _ _ h => h) (.inl ⟨by kernel_rfl, fun w' hw' => by obtain ⟨p0, p1⟩ := ent_cells hw'; go_simp⟩) HS.out ?_
    go_simp
    generalize wd.drew = x1 at *
    have hN := implPut_calls x1 q 2 (by omega)
    refine held_one 3 rfl rfl (by kernel_rfl) ?_
    refine wp_enter 32 #[.int .i64 q, .int .i64 2] (by first | kernel_rfl | go_simp) hN ?_
    rintro e x2 ⟨r, rfl, o2, c2⟩
    have HB2 : Hid (EncE w x2 q s Z16) := HB1.out.chg c2
    obtain ⟨g, gc, rfl, hcell⟩ := o2.two H2.out (by omega) (by omega)
    refine ⟨_, rfl, HB2.out.b0, ?_⟩
    have Hcell : Hid (∀ j v, ((putN q 2).map (Value.int .u8))[j]? = some v → x2.cell? ((⟨g, 0, none⟩ : Addr).add j) = some v) := hcell
    clear hN o2 c2 hcell HB1
    go_simp
    refine held_one 4 rfl rfl (by kernel_rfl) ?_
    refine wp_copy_row (.tmp 4) (.tmp 7) 24 24 rfl 5 Try.underlying24 (by kernel_rfl) (w.heap.size + 1 + 1) 0 16 16 ⟨g, 0, none⟩ 2 gc rfl rfl Z16 56 HB2.out.b2 ((putN q 2).map (Value.int .u8)) (by rw [List.length_map, H2.out]; rfl) Hcell.out (by rw [List.length_map, H2.out, Z16_length]; omega) (by intro v hv; rw [List.mem_map] at hv; obtain ⟨y, _, rfl⟩ := hv; rfl) ?_
    intro x3 hb3 hc3
    have HB3 : Hid (EncE w x3 q s (splice Z16 0 ((putN q 2).map (Value.int .u8)))) := HB2.out.put hc3 hb3.out
    refine ⟨HB3.out.b0, ?_⟩
    clear hb3 hc3 Hcell HB2
    go_simp
    refine held_done (by kernel_rfl) (NoPanic.normal ?_)
    go_wp2
    go_meet
    exact HB3.out
  case rest =>
    have HE1 : Hid (EncE w wc q s (splice Z16 0 ((putN q 2).map (Value.int .u8)))) := hcut
    generalize splice Z16 0 ((putN q 2).map (Value.int .u8)) = cA at *
    generalize wc = we at *
    clear hcut HE0
    obtain ⟨p0, p1⟩ := ent_cells HE1.out.b0
    obtain ⟨v2, c2⟩ : ∃ v2, we.cell? ⟨w.heap.size + 1 + 1, 2, none⟩ = some v2 := ⟨_, HE1.out.b2.cell 2 (List.getElem?_eq_getElem (by rw [HL1.out]; omega))⟩
    have f2 := HE1.out.b2.frozen 2
    have HE2 : Hid (EncE w (we.setCell ⟨w.heap.size + 1 + 1, 2, none⟩ (.int .u8 (s.size : Int))) q s (cA.set 2 (.int .u8 (s.size : Int)))) := HE1.out.put (Chg.setCell (Chg.refl _ _ we) (p := ⟨w.heap.size + 1 + 1, 2, none⟩) (Or.inl ⟨Nat.le_refl _, Nat.lt_succ_self _⟩) _) (HE1.out.b2.put 2 _)
    have HL2 : Hid ((cA.set 2 (.int .u8 (s.size : Int))).length = 16) := by show _ = _; rw [List.length_set]; exact HL1.out
    go_upto_region 4 with fail
    generalize we.setCell ⟨w.heap.size + 1 + 1, 2, none⟩ (.int .u8 (s.size : Int)) = wf at *
    clear HE1 HL1 p0 p1 c2 f2
    generalize cA.set 2 (.int .u8 (s.size : Int)) = cB at *
    go_cut [17] (fun _ wx => EncE w wx q s (recE q s))
    case first =>
      have HB1 : Hid (EncE w wf.drew q s cB) := HE2.out.chg (Chg.drew (Chg.refl 0 0 wf))
      have HS : Hid ((fun w' : World => w'.heap[w.heap.size]? = some (.cells (entA q s) 37 (0, 0))) wf.drew) := HB1.out.b0
      refine held_region (fun w' : World => w'.heap[w.heap.size]? = some (.cells (entA q s) 37 (0, 0))) (by kernel_rfl) ?_
      refine held_take 0 (.slice (some ⟨w.heap.size + 1 + 1, 3, none⟩) 13 13) rfl (by kernel_rfl) (by kernel_rfl) (by kernel_rfl) (fun _ _ _ h => h) (.inl ⟨by kernel_rfl, fun w' hw' => by go_simp⟩) HS.out ?_
      go_simp
      refine held_take 1 (.pointer (some ⟨w.heap.size, 1, none⟩)) rfl (by kernel_rfl) (by kernel_rfl) (by kernel_rfl) (fun _ _ _ h => h) (.inl ⟨by kernel_rfl, fun w' hw' => by go_simp⟩) HS.out ?_
      go_simp
      refine held_take 2 (.string s) rfl (by kernel_rfl) (by kernel_rfl) (by kernel_rfl) (fun _ _ _ h => h) (.inl ⟨by kernel_rfl, fun w' hw' => by obtain ⟨p0, p1⟩ := ent_cells hw'; go_simp⟩) HS.out ?_
      go_simp
      generalize wf.drew = x1 at *
      refine held_one 3 rfl rfl (by kernel_rfl) ?_
      refine wp_copy_str (.tmp 14) (.tmp 16) 24 9 rfl 5 Try.underlying24 (by kernel_rfl) (w.heap.size + 1 + 1) 3 13 13 s rfl rfl cB 56 HB1.out.b2 hs (by rw [HL2.out]; omega) ?_
      intro x3 hb3 hc3
      have HB3 : Hid (EncE w x3 q s (recE q s)) := by show EncE _ _ _ _ _; rw [← HM.out]; exact HB1.out.put hc3 hb3.out
      refine ⟨HB3.out.b0, ?_⟩
      clear hb3 hc3 HB1
      go_simp
      refine held_done (by kernel_rfl) (NoPanic.normal ?_)
      go_wp2
      go_meet
      exact HB3.out
    case rest =>
      have HBm : Hid (EncE w wc q s (recE q s)) := hcut
      generalize wc = wz at *
      have HR : Hid (wz.rangeAt (w.heap.size + 1 + 1) 0 (recE q s)) := HBm.out.b2.range
      have HB1 : Hid (wz.heap[w.heap.size + 1]? = some (.cells Z16.toArray 56 (0, 0))) := HBm.out.b1
      clear hcut HE2 HL2
      generalize hcs : recE q s = cs at *
      have Hcs : Hid (recE q s = cs) := hcs
      clear hcs
      go_wp2_with (first
        | (refine wpList_load_mid rfl 56 (.tmp 3) rfl (w.heap.size + 1 + 1) 0 rfl cs _ HR.out u38 rfl hics ?_)
        | (refine wpList_store_row rfl 56 (.tmp 2) (.tmp 18) rfl rfl (w.heap.size + 1) rfl cs Z16 56 rfl HB1.out (by rw [Z16_length]; exact Hln.out) hics HV2.out ?_; intro wg hbg hcg))
      have HCg : Hid (Chg 0 0 w wg) := HBm.out.ch.step hcg (by omega)
      have hl1 : (loadVar 56 ⟨w.heap.size + 1, 0, none⟩).run Try.prog wg = .ok (.agg cs.toArray) wg := run_loadVar_mid _ _ _ _ cs _ (row_rng hbg) u38 rfl hics
      go_wp2
      exact bodyPost_ret (v := .agg cs.toArray) (results_one Try.results27 rfl hl1) rfl ⟨by rw [Hcs.out], HCg.out⟩

end Go.Proofs.Ytaacidanpppopaa
