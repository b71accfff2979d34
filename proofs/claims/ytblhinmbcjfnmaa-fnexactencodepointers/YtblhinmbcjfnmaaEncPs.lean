/- (pointerList).encoded of the program. -/
import Derived.Test.YtblhinmbcjfnmaaPutPs
import Derived.Test.YtblhinmbcjfnmaaRowZ
namespace Go.Proofs.Ytblhinmbcjfnmaa
open Go.RowKit

/-- A list of numbers, a block to tell, a block that is written. -/
structure Enc3 (w x : World) (T : TypeId) (L cur : List Value) : Prop where
  b0 : ArrC x w.heap.size T L
  b1 : ArrC x (w.heap.size + 1) 37 Z64
  b2 : ArrC x (w.heap.size + 1 + 1) 37 cur
  ch : Chg 0 0 w x
theorem Enc3.chg {w x y : World} {T : TypeId} {L cur : List Value} (h : Enc3 w x T L cur) (c : Chg 0 0 x y) : Enc3 w y T L cur :=
  ⟨h.b0.chg c (by omega), h.b1.chg c (by omega), h.b2.chg c (by omega), h.ch.trans c⟩
theorem Enc3.put {w x y : World} {T : TypeId} {L cur cur' : List Value} (h : Enc3 w x T L cur) (c : Chg (w.heap.size + 1 + 1) (w.heap.size + 1 + 1 + 1) x y) (hb : ArrC y (w.heap.size + 1 + 1) 37 cur') : Enc3 w y T L cur' :=
  ⟨h.b0.chg c (by omega), h.b1.chg c (by omega), hb, h.ch.step c (by omega)⟩

theorem splice_whole {c xs : List Value} (h : xs.length = c.length) : splice c 0 xs = xs := by
  unfold splice
  rw [List.take_zero, List.nil_append, List.drop_eq_nil_of_le (by omega), List.append_nil]

set_option maxRecDepth 20000 in
set_option maxHeartbeats 2000000 in
theorem encPsOf_calls (w : World) (xs : List Int) (hx : xs.length = 32) (hg : ∀ x ∈ xs, 0 ≤ x ∧ x < 2048) :
    Calls Try.prog 16 #[.agg (xs.map (Value.int .i64)).toArray] w fun e w' => e = .returned (.agg ((putPs xs).map (Value.int .u8)).toArray) ∧ Chg 0 0 w w' := by
  obtain ⟨L, hL⟩ : ∃ L, L = xs.map (Value.int .i64) := ⟨_, rfl⟩
  rw [← hL]
  have HE0 : Hid (Enc3 w (((w.alloc (.cells L.toArray 34)).alloc (.cells Z64.toArray 37)).alloc (.cells Z64.toArray 37)) 34 L Z64) := by
    show Enc3 _ _ _ _ _
    obtain ⟨_, h1, h2, h3⟩ := alloc3 w (.cells L.toArray 34) (.cells Z64.toArray 37) (.cells Z64.toArray 37)
    exact ⟨h1, h2, h3, ((Chg.alloc (Chg.refl 0 0 w) _).alloc _).alloc _⟩
  have Hx : Hid (xs.length = 32) := hx
  have HL : Hid (L = xs.map (Value.int .i64)) := hL
  have hpl : (putPs xs).length = 64 := by rw [putPs_len hg, hx]
  obtain ⟨cs, hcs⟩ : ∃ cs, cs = (putPs xs).map (Value.int .u8) := ⟨_, rfl⟩
  have HV2 : Hid (∀ v ∈ cs, v.oneCell' = true) := by show ∀ v ∈ cs, v.oneCell' = true; rw [hcs]; exact ints_oneCell _ _
  have hln : cs.length = 64 := by rw [hcs, List.length_map]; exact hpl
  have Hln : Hid (cs.length = 64) := hln
  have hics : (Try.prog.info? 37).map (·.size) = some cs.length := by rw [hln]; kernel_rfl
  have Hcs : Hid (cs = (putPs xs).map (Value.int .u8)) := hcs
  rw [← hcs]
  have HG : Hid (∀ x ∈ xs, 0 ≤ x ∧ x < 2048) := hg
  clear hL hx hpl hcs hln hg
  go_enter Try.func16, Try.ntmps16
  go_upto_region 2 with fail
  simp only [Z64_eq]
  generalize (((w.alloc (.cells L.toArray 34)).alloc (.cells Z64.toArray 37)).alloc (.cells Z64.toArray 37)) = wa at *
  go_cut [6] (fun _ wx => Enc3 w wx 34 L cs)
  case first =>
    have HE1 : Hid (Enc3 w wa.drew 34 L Z64) := HE0.out.chg (Chg.drew (Chg.refl 0 0 wa))
    have HS0 : Hid ((fun _ : World => True) wa.drew) := trivial
    refine held_region (fun _ : World => True) (by kernel_rfl) ?_
    refine held_take 0 (.slice (some ⟨w.heap.size + 1 + 1, 0, none⟩) 64 64) rfl (by kernel_rfl) (by kernel_rfl) (by kernel_rfl) (fun _ _ _ h => h) (.inl ⟨by kernel_rfl, fun w' hw' => by go_simp⟩) HS0.out ?_
    go_simp
    refine held_take 1 (.slice (some ⟨w.heap.size, 0, none⟩) 32 32) rfl (by kernel_rfl) (by kernel_rfl) (by kernel_rfl) (fun _ _ _ h => h) (.inl ⟨by kernel_rfl, fun w' hw' => by go_simp⟩) HS0.out ?_
    go_simp
    generalize wa.drew = x1 at *
    have hN := putPointers_calls x1 (w.heap.size + 1 + 1) 0 64 64 37 Z64 HE1.out.b2 xs w.heap.size 0 32 (by omega) (by rw [Hx.out]; omega) (by rw [Hx.out]; omega) (by omega) (by omega) (by rw [Z64_length]; omega) HG.out (fun i hi => by
      rw [Nat.zero_add]
      refine HE1.out.b0.cell i ?_
      rw [HL.out]
      simp [List.getD_eq_getElem?_getD, hi])
    rw [← Hcs.out, splice_whole (by rw [Hln.out, Z64_length]), Hx.out] at hN
    refine held_one 2 rfl rfl (by kernel_rfl) ?_
    refine wp_enter 18 #[.slice (some ⟨w.heap.size + 1 + 1, 0, none⟩) 64 64, .slice (some ⟨w.heap.size, 0, none⟩) 32 32] (by first | kernel_rfl | go_simp) hN ?_
    rintro e x2 ⟨⟨v, rfl⟩, ha2, c2⟩
    have HE2 : Hid (Enc3 w x2 34 L cs) := HE1.out.put c2 ha2
    refine ⟨_, rfl, trivial, ?_⟩
    clear hN ha2 c2
    go_simp
    refine held_done (by kernel_rfl) (NoPanic.normal ?_)
    go_wp2
    go_meet
    exact HE2.out
  case rest =>
    have HBm : Hid (Enc3 w wc 34 L cs) := hcut
    generalize wc = wf at *
    have u44 := Try.underlying37
    have HR : Hid (wf.rangeAt (w.heap.size + 1 + 1) 0 cs) := HBm.out.b2.range
    have hb1 : wf.heap[w.heap.size + 1]? = some (.cells Z64.toArray 37 (0, 0)) := HBm.out.b1
    have HB1 : Hid (wf.heap[w.heap.size + 1]? = some (.cells Z64.toArray 37 (0, 0))) := hb1
    clear hcut HE0 hb1
    go_wp2_with (first
      | (refine wpList_load_mid rfl 37 (.tmp 3) rfl (w.heap.size + 1 + 1) 0 rfl cs _ HR.out u44 rfl hics ?_)
      | (refine wpList_store_row rfl 37 (.tmp 2) (.tmp 7) rfl rfl (w.heap.size + 1) rfl cs Z64 37 rfl HB1.out (by rw [Z64_length]; exact Hln.out) hics HV2.out ?_; intro wg hbg hcg))
    have HCg : Hid (Chg 0 0 w wg) := HBm.out.ch.step hcg (by omega)
    have hl1 : (loadVar 37 ⟨w.heap.size + 1, 0, none⟩).run Try.prog wg = .ok (.agg cs.toArray) wg := run_loadVar_mid _ _ _ _ cs _ (row_rng hbg) u44 rfl hics
    go_wp2
    exact bodyPost_ret (v := .agg cs.toArray) (results_one Try.results16 rfl hl1) rfl ⟨rfl, HCg.out⟩

end Go.Proofs.Ytblhinmbcjfnmaa
