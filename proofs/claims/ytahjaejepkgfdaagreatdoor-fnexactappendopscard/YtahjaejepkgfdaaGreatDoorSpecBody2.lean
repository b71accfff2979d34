/- l4Body of the model: homes. -/
import Derived.Test.YtahjaejepkgfdaaGreatDoorImplEsc
import Derived.Test.YtahjaejepkgfdaaGreatDoorTagOwn
import Derived.Test.YtahjaejepkgfdaaGreatDoorSpecEsc
namespace Go.Proofs.YtahjaejepkgfdaaGreatDoor
open Go.RowKit

def escs (hs : List Wr) : List Int := (hs.map fun h => escL h.2).flatten
theorem escs_len {hs : List Wr} (h : ∀ x ∈ hs, x.2.length = 64) : (escs hs).length = 64 * hs.length := by
  unfold escs
  rw [flat_len (fun b hb => by obtain ⟨x, hx, rfl⟩ := List.mem_map.1 hb; exact escL_length (h x hx)), List.length_map]
theorem escs_take {hs : List Wr} {k : Nat} (h : k < hs.length) : escs (hs.take (k + 1)) = escs (hs.take k) ++ escL (hs.getD k (0, [])).2 := by
  unfold escs
  rw [List.take_succ_eq_append_getElem h, List.map_append, List.flatten_append]
  simp [List.getD_eq_getElem?_getD, h]
theorem tags_take {hs : List Wr} {k : Nat} (h : k < hs.length) : (hs.take (k + 1)).map tagOf = (hs.take k).map tagOf ++ [tagOf (hs.getD k (0, []))] := by
  rw [List.take_succ_eq_append_getElem h, List.map_append]
  simp [List.getD_eq_getElem?_getD, h]
theorem fill_tag (A : Array Value) (hr : A.size = 2) (x : Int) (e : Bool) : Instr.fill (fun i => some (i * 2, 2)) A [(0, .agg #[.int .i64 x, .bool e])] = some #[.int .i64 x, .bool e] := by
  obtain ⟨l⟩ := A
  match l, hr with
  | [a, b], _ => simp [Instr.fill, Value.cells]

set_option maxRecDepth 20000 in
set_option maxHeartbeats 8000000 in
theorem body_home (w : World) {lo hi : Nat} {q : Int} {hs : List Wr} (ao : Option Addr) (ac b off cap : Nat) (hok : OkT q hs []) (h0 : 0 < hs.length) (hn : hs.length ≤ 128) (hb : b < w.heap.size) (hhi : hi ≤ w.heap.size) (hcap : hs.length ≤ cap)
    (h1 : ∀ i, i < hs.length → ∃ dv, w.cell? ⟨b, off + i * 2, none⟩ = some (.int .i64 (hs.getD i (0, [])).1) ∧ w.cell? ⟨b, off + i * 2 + 1, none⟩ = some dv ∧ View w lo hi .u8 dv (hs.getD i (0, [])).2)
    (rec : ∀ w' hv, Chg 0 0 w w' → PView w' 0 w.heap.size hv (hs.drop 17) → Calls Tryz.prog 40 #[.agg #[.int .i64 q, hv, .slice none 0 0]] w' fun e w'' => Told w' w'' e (BL q (hs.drop 17) [])) :
    Calls Tryz.prog 40 #[.agg #[.int .i64 q, .slice (some ⟨b, off, none⟩) hs.length cap, .slice ao 0 ac]] w fun e w' => Told w w' e (BL q hs []) := by
  have C0 : Chg 0 0 w (w.alloc (.cells #[.int .i64 q, .slice (some ⟨b, off, none⟩) hs.length cap, .slice ao 0 ac] 35)) := Chg.alloc (Chg.refl 0 0 w) _
  have B0 := heap_new w (.cells #[.int .i64 q, .slice (some ⟨b, off, none⟩) hs.length cap, .slice ao 0 ac] 35)
  obtain ⟨⟨k0, k1, k2⟩, _⟩ := tri B0
  have hne : ((hs.length : Int) == 0) = false := by rw [beq_eq_false_iff_ne]; omega
  obtain ⟨n, hk⟩ : ∃ n, n = min hs.length 17 := ⟨_, rfl⟩
  have e17 : (if (17 : Int) < (hs.length : Int) then (17 : Int) else (hs.length : Int)) = (n : Int) := by rw [hk]; split <;> omega
  have HTk : Hid (hs.take 17 = hs.take n ∧ hs.drop 17 = hs.drop n ∧ (hs.take n).length = n) := by
    rcases Nat.le_total hs.length 17 with h | h
    · have : n = hs.length := by omega
      refine ⟨?_, ?_, ?_⟩
      · rw [this, List.take_of_length_le h, List.take_length]
      · rw [this, List.drop_eq_nil_of_le h, List.drop_length]
      · rw [List.length_take]; omega
    · have : n = 17 := by omega
      rw [this]; exact ⟨rfl, rfl, by rw [List.length_take]; omega⟩
  have hn17 : n ≤ 17 := by omega
  have hn0 : 1 ≤ n := by omega
  have hnc : n ≤ hs.length := by omega
  have HBL : Hid (BL q hs [] = descBs q (hs.take n) ++ BL q (hs.drop n) []) := by have := BL_home q h0; rw [HTk.out.1, HTk.out.2.1] at this; exact this
  have HOK : Hid (OkT q hs []) := hok
  have H1 : Hid _ := h1
  have HREC : Hid (∀ w' hv, Chg 0 0 w w' → PView w' 0 w.heap.size hv (hs.drop n) → Calls Tryz.prog 40 #[.agg #[.int .i64 q, hv, .slice none 0 0]] w' fun e w'' => Told w' w'' e (BL q (hs.drop n) [])) := by rw [← HTk.out.2.1]; exact rec
  have HB0 : Hid _ := B0
  have HC0 : Hid _ := C0
  have s0 : (w.alloc (.cells #[.int .i64 q, .slice (some ⟨b, off, none⟩) hs.length cap, .slice ao 0 ac] 35)).heap.size = w.heap.size + 1 := by simp
  clear rec h1 B0 C0 hok hk
  go_enter Tryz.func40, Tryz.ntmps40
  go_upto_region 9 with fail
  generalize w.alloc (.cells #[.int .i64 q, .slice (some ⟨b, off, none⟩) hs.length cap, .slice ao 0 ac] 35) = w1 at *
  try simp only [e17]
  clear hne e17
  have D1 := heap_new w1 (.cells #[.int .i64 q, .slice none 0 0] 125)
  have s1 : (w1.alloc (.cells #[.int .i64 q, .slice none 0 0] 125)).heap.size = w1.heap.size + 1 := by simp
  have C1 : Chg 0 0 w1 (w1.alloc (.cells #[.int .i64 q, .slice none 0 0] 125)) := Chg.alloc (Chg.refl 0 0 w1) _
  have HD1 : Hid ((w1.alloc (.cells #[.int .i64 q, .slice none 0 0] 125)).heap[w.heap.size + 1]? = some (.cells #[.int .i64 q, .slice none 0 0] 125 (0, 0))) := by rw [← s0]; exact D1
  have HB1 : Hid _ := (C1.block _ (by omega) (by omega)).trans HB0.out
  have HC1 : Hid _ := HC0.out.trans C1
  clear D1 C1 HB0 HC0
  go_upto_region 10 with fail
  generalize w1.alloc (.cells #[.int .i64 q, .slice none 0 0] 125) = w2 at *
  have C2 : Chg 0 0 w2 (w2.alloc (.cells #[] 5)) := Chg.alloc (Chg.refl 0 0 w2) _
  have HO2 : Hid (OwnB (w2.alloc (.cells #[] 5)) (w.heap.size + 2) 5 (.slice (some ⟨w.heap.size + 1 + 1, 0, none⟩) 0 0) []) := by
    have h := OwnB.bnil w2 (w.heap.size + 2) (by omega)
    rwa [show w2.heap.size = w.heap.size + 1 + 1 by omega] at h
  have HD2 : Hid _ := (C2.block _ (by omega) (by omega)).trans HD1.out
  have HB2 : Hid _ := (C2.block _ (by omega) (by omega)).trans HB1.out
  have HC2 : Hid _ := HC1.out.trans C2
  have sz2 : w.heap.size + 2 ≤ (w2.alloc (.cells #[] 5)).heap.size := by have := C2.size; omega
  clear C2 HD1 HB1 HC1 k0 k1 k2
  go_wp2
  go_loopw [8, 9] (fun o x wr => ∃ k : Nat, k ≤ n ∧ x = .int .i64 k ∧ (∃ g c, o = .slice (some ⟨g, 0, none⟩) (64 * k) c) ∧ OwnB wr (w.heap.size + 2) 5 o (escs (hs.take k)) ∧ (∃ va vc, OwnG wr (w.heap.size + 2) (.slice va k vc) ((hs.take k).map tagOf) ∧ wr.heap[w.heap.size + 1]? = some (.cells #[.int .i64 q, .slice va k vc] 125 (0, 0))) ∧ wr.heap[w.heap.size]? = some (.cells #[.int .i64 q, .slice (some ⟨b, off, none⟩) hs.length cap, .slice ao 0 ac] 35 (0, 0)) ∧ Chg 0 0 w wr ∧ w.heap.size + 2 ≤ wr.heap.size) (fun _ x _ => n - (intOf x).toNat)
  case atStart => exact ⟨0, Nat.zero_le _, rfl, ⟨_, _, rfl⟩, HO2.out, ⟨none, 0, OwnG.nil _ _, HD2.out⟩, HB2.out, HC2.out, sz2⟩
  case round =>
    clear HO2 HD2 HB2 HC2 sz2 s1 s0
    obtain ⟨k, hk, rfl, ⟨g, gc, rfl⟩, ho, ⟨va, vc, hg, hd⟩, hbt, hc, hsz⟩ := hrel
    have HO : Hid (OwnB wr (w.heap.size + 2) 5 (.slice (some ⟨g, 0, none⟩) (64 * k) gc) (escs (hs.take k))) := ho
    have HG : Hid (OwnG wr (w.heap.size + 2) (.slice va k vc) ((hs.take k).map tagOf)) := hg
    have HD : Hid _ := hd
    have HB : Hid _ := hbt
    have HC : Hid _ := hc
    by_cases hlt : k < n
    · have hi' : (k : Int) < (n : Int) := by omega
      have hlx : k < hs.length := by omega
      obtain ⟨dv, r1, r2, r3⟩ := H1.out k hlx
      have c1 := hc.cell r1 (by omega)
      have c2 := hc.cell r2 (by omega)
      have v3 := r3.chg hc (by omega)
      have hik : (k : Int) < (hs.length : Int) := by omega
      obtain ⟨⟨k0, k1, k2⟩, _⟩ := tri hbt
      have hx : hs.getD k (0, []) = hs[k] := by simp [List.getD_eq_getElem?_getD, hlx]
      have hdat := HOK.out.data _ (List.getElem_mem hlx)
      have hbyt := HOK.out.byt _ (List.getElem_mem hlx)
      rw [← hx] at hdat hbyt
      have hN := specEscape_calls wr hbyt v3 (by have := hc.size; omega) (by omega)
      have HE : Hid (escD (hs.getD k (0, [])).2 = escL (hs.getD k (0, [])).2 ∧ escE (hs.getD k (0, [])).2 = (tagOf (hs.getD k (0, []))).2) := ⟨by unfold escD; rw [if_pos hdat], by unfold escE tagOf; rw [decide_eq_true hdat]; rfl⟩
      have HEl : Hid _ := escL_length hdat
      rw [HE.out.1, HE.out.2] at hN
      have HTe : Hid _ := escs_take hlx
      have HTg : Hid _ := tags_take hlx
      have HTl : Hid (((hs.take k).map tagOf).length = k) := by show _ = _; rw [List.length_map, List.length_take]; omega
      have HTs : Hid ((escs (hs.take k)).length = 64 * k) := by
        show _ = _
        rw [escs_len (fun x hx => HOK.out.data x (List.mem_of_mem_take hx)), List.length_take, Nat.min_eq_left (by omega)]
      have ht1 : (hs.getD k (0, [])).1 = (tagOf (hs.getD k (0, []))).1 := rfl
      rw [ht1] at c1
      obtain ⟨va0, vl0, vc0, rfl⟩ : ∃ a l c, dv = .slice a l c := by obtain ⟨a, c, e, _⟩ := v3; exact ⟨a, _, c, e⟩
      clear ht1 r1 r2 r3 v3 hx hdat hbyt ho hg hd hbt hc HE
      generalize tagOf (hs.getD k (0, [])) = tg at *
      generalize escL (hs.getD k (0, [])).2 = es at *
      generalize escG (hs.getD k (0, [])).2 = eg at *
      obtain ⟨x, ee⟩ := tg
      simp only at c1 hN
      have HX : Hid _ := c1
      go_wp2_with fail
      refine hN.mono ?_
      rintro e w3 ⟨v3, rfl, o3, h3⟩
      obtain ⟨g3, c3, rfl⟩ := o3.some_of (by rw [HEl.out]; omega)
      rw [HEl.out] at o3 ⊢
      have sr3 := h3.size
      have C3 : Chg 0 0 wr (w3.alloc (.cells #[.bool eg, .slice (some ⟨g3, 0, none⟩) 64 c3, .bool ee] 127)) := h3.alloc _
      have HBC : Hid ((w3.alloc (.cells #[.bool eg, .slice (some ⟨g3, 0, none⟩) 64 c3, .bool ee] 127)).heap[w3.heap.size]? = some (.cells #[.bool eg, .slice (some ⟨g3, 0, none⟩) 64 c3, .bool ee] 127 (0, 0))) := heap_new _ _
      have HO3 : Hid (OwnB (w3.alloc (.cells #[.bool eg, .slice (some ⟨g3, 0, none⟩) 64 c3, .bool ee] 127)) (w.heap.size + 2) 5 (.slice (some ⟨g3, 0, none⟩) 64 c3) es) := (o3.chg (Chg.alloc (Chg.refl 0 0 w3) _) (by intro g _; omega)).base (fun g hg => by have := (o3.lt g hg).1; omega)
      have HOc : Hid (OwnB (w3.alloc (.cells #[.bool eg, .slice (some ⟨g3, 0, none⟩) 64 c3, .bool ee] 127)) (w.heap.size + 2) 5 (.slice (some ⟨g, 0, none⟩) (64 * k) gc) (escs (hs.take k))) := HO.out.chg C3 (by intro g _; omega)
      have HG3 : Hid (OwnG (w3.alloc (.cells #[.bool eg, .slice (some ⟨g3, 0, none⟩) 64 c3, .bool ee] 127)) (w.heap.size + 2) (.slice va k vc) ((hs.take k).map tagOf)) := HG.out.chg C3 (by intro g _; omega)
      have HD3 : Hid _ := (C3.block _ (by omega) (by omega)).trans HD.out
      have HB3 : Hid _ := (C3.block _ (by omega) (by omega)).trans HB.out
      have HC3 : Hid _ := HC.out.trans C3
      have HX3 : Hid _ := C3.cell HX.out (by omega)
      have sBC : w.heap.size + 2 ≤ w3.heap.size := by omega
      have hgl := (o3.lt g3 rfl).2
      clear o3 h3 C3 HO HG HD HB HC HX c1 c2 k0 k1 k2 hN
      go_upto_region 15 with fail
      have sw3 : (w3.alloc (.cells #[.bool eg, .slice (some ⟨g3, 0, none⟩) 64 c3, .bool ee] 127)).heap.size = w3.heap.size + 1 := by simp
      generalize hBC : w3.heap.size = BC at *
      generalize w3.alloc (.cells #[.bool eg, .slice (some ⟨g3, 0, none⟩) 64 c3, .bool ee] 127) = w4 at *
      clear hBC
      go_cut [74] (fun _ wx => (∃ va vc, OwnG wx (w.heap.size + 2) (.slice va (k + 1) vc) ((hs.take (k + 1)).map tagOf) ∧ wx.heap[w.heap.size + 1]? = some (.cells #[.int .i64 q, .slice va (k + 1) vc] 125 (0, 0))) ∧ wx.heap[w.heap.size]? = some (.cells #[.int .i64 q, .slice (some ⟨b, off, none⟩) hs.length cap, .slice ao 0 ac] 35 (0, 0)) ∧ wx.heap[BC]? = some (.cells #[.bool eg, .slice (some ⟨g3, 0, none⟩) 64 c3, .bool ee] 127 (0, 0)) ∧ OwnB wx (w.heap.size + 2) 5 (.slice (some ⟨g3, 0, none⟩) 64 c3) es ∧ OwnB wx (w.heap.size + 2) 5 (.slice (some ⟨g, 0, none⟩) (64 * k) gc) (escs (hs.take k)) ∧ Chg 0 0 w wx ∧ BC < wx.heap.size)
      case first =>
        have HS : Hid ((fun w' : World => (w'.heap[w.heap.size]? = some (.cells #[.int .i64 q, .slice (some ⟨b, off, none⟩) hs.length cap, .slice ao 0 ac] 35 (0, 0)) ∧ w'.heap[w.heap.size + 1]? = some (.cells #[.int .i64 q, .slice va k vc] 125 (0, 0))) ∧ w'.heap[BC]? = some (.cells #[.bool eg, .slice (some ⟨g3, 0, none⟩) 64 c3, .bool ee] 127 (0, 0)) ∧ w'.cell? ⟨b, off + k * 2, none⟩ = some (.int .i64 x)) w4.drew) := ⟨⟨HB3.out, HD3.out⟩, HBC.out, HX3.out⟩
        refine weak_region 14 (fun w' : World => (w'.heap[w.heap.size]? = some (.cells #[.int .i64 q, .slice (some ⟨b, off, none⟩) hs.length cap, .slice ao 0 ac] 35 (0, 0)) ∧ w'.heap[w.heap.size + 1]? = some (.cells #[.int .i64 q, .slice va k vc] 125 (0, 0))) ∧ w'.heap[BC]? = some (.cells #[.bool eg, .slice (some ⟨g3, 0, none⟩) 64 c3, .bool ee] 127 (0, 0)) ∧ w'.cell? ⟨b, off + k * 2, none⟩ = some (.int .i64 x)) (by kernel_rfl) ?_
        refine weak_take 0 (.pointer (some ⟨w.heap.size + 1, 1, none⟩)) rfl (by kernel_rfl) (by kernel_rfl) (by kernel_rfl) (by kernel_rfl) (fun _ _ _ h => h) (.inl ⟨by kernel_rfl, fun w' hw' => by go_simp⟩) HS.out ?_
        go_simp
        refine weak_take 1 (.slice va k vc) rfl (by kernel_rfl) (by kernel_rfl) (by kernel_rfl) (by kernel_rfl) (fun _ _ _ h => h) (.inl ⟨by kernel_rfl, fun w' hw' => by obtain ⟨q0, q1, _, _⟩ := two_cells hw'.1.2; go_simp⟩) HS.out ?_
        go_simp
        refine weak_take 2 (.pointer (some ⟨w.heap.size, 1, none⟩)) rfl (by kernel_rfl) (by kernel_rfl) (by kernel_rfl) (by kernel_rfl) (fun _ _ _ h => h) (.inl ⟨by kernel_rfl, fun w' hw' => by go_simp⟩) HS.out ?_
        go_simp
        refine weak_take 3 (.slice (some ⟨b, off, none⟩) hs.length cap) rfl (by kernel_rfl) (by kernel_rfl) (by kernel_rfl) (by kernel_rfl) (fun _ _ _ h => h) (.inl ⟨by kernel_rfl, fun w' hw' => by obtain ⟨⟨q0, q1, q2⟩, _⟩ := tri hw'.1.1; go_simp⟩) HS.out ?_
        go_simp
        refine weak_take 4 (.int .i64 (k : Int)) rfl (by kernel_rfl) (by kernel_rfl) (by kernel_rfl) (by kernel_rfl) (fun _ _ _ h => h) (.inl ⟨by kernel_rfl, fun w' hw' => by go_simp⟩) HS.out ?_
        go_simp
        refine weak_take 5 (.pointer (some ⟨b, off + k * 2, none⟩)) rfl (by kernel_rfl) (by kernel_rfl) (by kernel_rfl) (by kernel_rfl) (fun _ _ _ h => h) (.inl ⟨by kernel_rfl, fun w' hw' => by go_simp⟩) HS.out ?_
        go_simp
        refine weak_take 6 (.pointer (some ⟨b, off + k * 2, none⟩)) rfl (by kernel_rfl) (by kernel_rfl) (by kernel_rfl) (by kernel_rfl) (fun _ _ _ h => h) (.inl ⟨by kernel_rfl, fun w' hw' => by go_simp⟩) HS.out ?_
        go_simp
        refine weak_take 7 (.int .i64 x) rfl (by kernel_rfl) (by kernel_rfl) (by kernel_rfl) (by kernel_rfl) (fun _ _ _ h => h) (.inl ⟨by kernel_rfl, fun w' hw' => by have q0 := hw'.2.2; go_simp⟩) HS.out ?_
        go_simp
        refine weak_take 8 (.pointer (some ⟨BC, 2, none⟩)) rfl (by kernel_rfl) (by kernel_rfl) (by kernel_rfl) (by kernel_rfl) (fun _ _ _ h => h) (.inl ⟨by kernel_rfl, fun w' hw' => by go_simp⟩) HS.out ?_
        go_simp
        refine weak_take 9 (.bool ee) rfl (by kernel_rfl) (by kernel_rfl) (by kernel_rfl) (by kernel_rfl) (fun _ _ _ h => h) (.inl ⟨by kernel_rfl, fun w' hw' => by obtain ⟨⟨q0, q1, q2⟩, _⟩ := tri hw'.2.1; go_simp⟩) HS.out ?_
        go_simp
        refine weak_take 10 (.agg #[.int .i64 x, .bool ee]) rfl (by kernel_rfl) (by kernel_rfl) (by kernel_rfl) (by kernel_rfl) (fun _ _ _ h => h) (.inl ⟨by kernel_rfl, fun w' hw' => by go_simp⟩) HS.out ?_
        go_simp
        have Cd := Chg.drew (Chg.refl 0 0 w4)
        have HO4 : Hid (OwnB w4.drew (w.heap.size + 2) 5 (.slice (some ⟨g3, 0, none⟩) 64 c3) es) := HO3.out.chg Cd (by intro g _; omega)
        have HOd : Hid (OwnB w4.drew (w.heap.size + 2) 5 (.slice (some ⟨g, 0, none⟩) (64 * k) gc) (escs (hs.take k))) := HOc.out.chg Cd (by intro g _; omega)
        have HG4 : Hid (OwnG w4.drew (w.heap.size + 2) (.slice va k vc) ((hs.take k).map tagOf)) := HG3.out.chg Cd (by intro g _; omega)
        have HC4 : Hid _ := HC3.out.trans Cd
        have sw4 : BC < w4.drew.heap.size := by show BC < w4.heap.size; omega
        clear Cd HO3 HOc HG3 HC3 HBC HD3 HB3 HX3
        generalize w4.drew = w5 at *
        obtain ⟨it, hit, hz0, hz1, hz2⟩ := info_parts Tryz.infoG
        have C6 : Chg 0 0 w5 (w5.alloc (.cells #[.int .i64 x, .bool ee] 130)) := Chg.alloc (Chg.refl 0 0 w5) _
        have HT6 : Hid ((w5.alloc (.cells #[.int .i64 x, .bool ee] 130)).heap[w5.heap.size]? = some (.cells #[.int .i64 x, .bool ee] 130 (0, 0))) := heap_new _ _
        have s6 : (w5.alloc (.cells #[.int .i64 x, .bool ee] 130)).heap.size = w5.heap.size + 1 := by simp
        refine weak_one 11 rfl rfl (by kernel_rfl) ?_
        refine wp_buildSlice 123 130 1 #[(0, .tmp 74)] rfl #[.int .i64 x, .bool ee] it _ Tryz.underlying123 hit hz0 (by rw [hz1]; decide) (by rw [hz1]; decide) (by rw [hz1, Array.toList_map]; refine fill_tag _ ?_ _ _; simp) ?_
        generalize w5.alloc (.cells #[.int .i64 x, .bool ee] 130) = w6 at *
        have HS6 : Hid ((fun w' : World => (w'.heap[w.heap.size]? = some (.cells #[.int .i64 q, .slice (some ⟨b, off, none⟩) hs.length cap, .slice ao 0 ac] 35 (0, 0)) ∧ w'.heap[w.heap.size + 1]? = some (.cells #[.int .i64 q, .slice va k vc] 125 (0, 0))) ∧ w'.heap[BC]? = some (.cells #[.bool eg, .slice (some ⟨g3, 0, none⟩) 64 c3, .bool ee] 127 (0, 0)) ∧ w'.cell? ⟨b, off + k * 2, none⟩ = some (.int .i64 x)) w6) := ⟨⟨(C6.block _ (by omega) (by omega)).trans HS.out.1.1, (C6.block _ (by omega) (by omega)).trans HS.out.1.2⟩, (C6.block _ (by omega) (by omega)).trans HS.out.2.1, C6.cell HS.out.2.2 (by omega)⟩
        have HO6 : Hid (OwnB w6 (w.heap.size + 2) 5 (.slice (some ⟨g3, 0, none⟩) 64 c3) es) := HO4.out.chg C6 (by intro g _; omega)
        have HOe : Hid (OwnB w6 (w.heap.size + 2) 5 (.slice (some ⟨g, 0, none⟩) (64 * k) gc) (escs (hs.take k))) := HOd.out.chg C6 (by intro g _; omega)
        have HG6 : Hid (OwnG w6 (w.heap.size + 2) (.slice va k vc) ((hs.take k).map tagOf)) := HG4.out.chg C6 (by intro g _; omega)
        have HC6 : Hid _ := HC4.out.trans C6
        refine ⟨fun _ => HS6.out, ?_⟩
        clear C6 HS HO4 HOd HG4 HC4
        go_simp
        refine weak_one 12 rfl rfl (by kernel_rfl) ?_
        refine wp_app_tag (.tmp 65) (.tmp 75) rfl (w.heap.size + 2) _ ((hs.take k).map tagOf) rfl HG6.out w5.heap.size 1 (x, ee) rfl HT6.out (by rw [HTl.out]; omega) (by omega) ?_
        intro v8 w8 o8 h8
        rw [← HTg.out] at o8
        have hl8 : ((hs.take (k + 1)).map tagOf).length = k + 1 := by rw [HTg.out, List.length_append, HTl.out]; rfl
        obtain ⟨a8, c8, rfl⟩ : ∃ a c, v8 = .slice a (k + 1) c := by
          rcases o8.2 with ⟨_, e⟩ | ⟨g', cap', cur, e', _⟩
          · rw [hl8] at e; omega
          · exact ⟨_, _, by rw [e', hl8]⟩
        have hrow : ∀ j, (Value.slice va k vc).ownBlock = some j → w.heap.size + 2 ≤ j := fun j hj => (HG6.out.lt j hj).1
        have hgb := HG6.out.apart HO6.out
        have hge := HG6.out.apart HOe.out
        have ch8 := Chg.ofGrown0 h8 hrow
        have hBCne : ∀ j, (Value.slice va k vc).ownBlock = some j → j ≠ BC := fun j hj e => by
          obtain ⟨cc, hcc⟩ := HG6.out.elem hj
          rw [e, HS6.out.2.1] at hcc
          simp only [Option.some.injEq, Obj.cells.injEq] at hcc
          exact absurd hcc.2.1 (by decide)
        have HS8 : Hid ((fun w' : World => (w'.heap[w.heap.size]? = some (.cells #[.int .i64 q, .slice (some ⟨b, off, none⟩) hs.length cap, .slice ao 0 ac] 35 (0, 0)) ∧ w'.heap[w.heap.size + 1]? = some (.cells #[.int .i64 q, .slice va k vc] 125 (0, 0))) ∧ w'.heap[BC]? = some (.cells #[.bool eg, .slice (some ⟨g3, 0, none⟩) 64 c3, .bool ee] 127 (0, 0)) ∧ w'.cell? ⟨b, off + k * 2, none⟩ = some (.int .i64 x)) w8) := ⟨⟨(ch8.block _ (by omega) (by omega)).trans HS6.out.1.1, (ch8.block _ (by omega) (by omega)).trans HS6.out.1.2⟩, (h8.block _ (by omega) (fun e => hBCne _ e.symm rfl)).trans HS6.out.2.1, ch8.cell HS6.out.2.2 (by omega)⟩
        have HO8 : Hid (OwnB w8 (w.heap.size + 2) 5 (.slice (some ⟨g3, 0, none⟩) 64 c3) es) := HO6.out.grown h8 hgb
        have HOf : Hid (OwnB w8 (w.heap.size + 2) 5 (.slice (some ⟨g, 0, none⟩) (64 * k) gc) (escs (hs.take k))) := HOe.out.grown h8 hge
        have HG8 : Hid (OwnG w8 (w.heap.size + 2) (.slice a8 (k + 1) c8) ((hs.take (k + 1)).map tagOf)) := o8
        have HC8 : Hid (Chg 0 0 w w8) := HC6.out.step ch8 (by omega)
        have s8 := ch8.size
        refine ⟨fun _ => HS8.out, ?_⟩
        clear o8 h8 ch8 HS6 HO6 HOe HG6 HC6 hl8 hgb hge hBCne hrow
        go_simp
        refine weak_take 13 (.pointer (some ⟨w.heap.size + 1, 1, none⟩)) rfl (by kernel_rfl) (by kernel_rfl) (by kernel_rfl) (by kernel_rfl) (fun _ _ _ h => h) (.inl ⟨by kernel_rfl, fun w' hw' => by go_simp⟩) HS8.out ?_
        go_simp
        obtain ⟨z0, z1, y0, y1⟩ := two_cells HS8.out.1.2
        have cc : ∀ u : Value, Chg (w.heap.size + 1) (w.heap.size + 2) w8 (w8.setCell ⟨w.heap.size + 1, 1, none⟩ u) := fun u => Chg.setCell (p := ⟨w.heap.size + 1, 1, none⟩) (Chg.refl (w.heap.size + 1) (w.heap.size + 2) w8) (Or.inl ⟨by show w.heap.size + 1 ≤ w.heap.size + 1; omega, by show w.heap.size + 1 < w.heap.size + 2; omega⟩) u
        have hb8 := HS8.out.1.2
        have HFin : Hid (∀ u : Value, (OwnG (w8.setCell ⟨w.heap.size + 1, 1, none⟩ u) (w.heap.size + 2) (.slice a8 (k + 1) c8) ((hs.take (k + 1)).map tagOf) ∧ (w8.setCell ⟨w.heap.size + 1, 1, none⟩ u).heap[w.heap.size + 1]? = some (.cells #[.int .i64 q, u] 125 (0, 0))) ∧ (w8.setCell ⟨w.heap.size + 1, 1, none⟩ u).heap[w.heap.size]? = some (.cells #[.int .i64 q, .slice (some ⟨b, off, none⟩) hs.length cap, .slice ao 0 ac] 35 (0, 0)) ∧ (w8.setCell ⟨w.heap.size + 1, 1, none⟩ u).heap[BC]? = some (.cells #[.bool eg, .slice (some ⟨g3, 0, none⟩) 64 c3, .bool ee] 127 (0, 0)) ∧ OwnB (w8.setCell ⟨w.heap.size + 1, 1, none⟩ u) (w.heap.size + 2) 5 (.slice (some ⟨g3, 0, none⟩) 64 c3) es ∧ OwnB (w8.setCell ⟨w.heap.size + 1, 1, none⟩ u) (w.heap.size + 2) 5 (.slice (some ⟨g, 0, none⟩) (64 * k) gc) (escs (hs.take k)) ∧ Chg 0 0 w (w8.setCell ⟨w.heap.size + 1, 1, none⟩ u) ∧ BC < (w8.setCell ⟨w.heap.size + 1, 1, none⟩ u).heap.size) := fun u =>
          ⟨⟨HG8.out.chg (cc u) (fun g hg => by have := (HG8.out.lt g hg).1; omega), by simp [World.setCell, Array.getElem?_modify, hb8]⟩, ((cc u).block _ (by omega) (by omega)).trans HS8.out.1.1, ((cc u).block _ (by omega) (by omega)).trans HS8.out.2.1, HO8.out.chg (cc u) (fun g hg => by have := (HO8.out.lt g hg).1; omega), HOf.out.chg (cc u) (fun g hg => by have := (HOf.out.lt g hg).1; omega), HC8.out.step (cc u) (by omega), by have := (cc u).size; omega⟩
        clear cc hb8 HG8 HO8 HOf HC8 HS8
        refine weak_one 14 rfl rfl (by kernel_rfl) ?_
        go_simp
        refine weak_done (by kernel_rfl) (NoPanic.normal ?_)
        clear z0 z1 y0 y1
        go_wp2
        go_meet
        obtain ⟨f1, f2⟩ := HFin.out (.slice a8 (k + 1) c8)
        exact ⟨⟨a8, c8, f1⟩, f2⟩
      case rest =>
        obtain ⟨⟨va', vc', hg', hd'⟩, hb', hcp, ho', hoc', hc', hsz'⟩ := hcut
        generalize wc = w9 at *
        obtain ⟨⟨y0, y1, y2⟩, _⟩ := tri hcp
        have HO9 : Hid (OwnB w9 (w.heap.size + 2) 5 (.slice (some ⟨g, 0, none⟩) (64 * k) gc) (escs (hs.take k))) := hoc'
        have HV9 : Hid (View w9 (w.heap.size + 2) w9.heap.size .u8 (.slice (some ⟨g3, 0, none⟩) 64 c3) es) := ho'.view (by rw [HEl.out]; omega) (fun g hg => (ho'.lt g hg).2)
        have HG9 : Hid (OwnG w9 (w.heap.size + 2) (.slice va' (k + 1) vc') ((hs.take (k + 1)).map tagOf)) := hg'
        have HD9 : Hid _ := hd'
        have HB9 : Hid _ := hb'
        have HC9 : Hid _ := hc'
        clear hg' hd' hb' hcp ho' hoc' hc' HBC HO3 HOc HG3 HD3 HB3 HC3 HX3
        go_wp2_with (at_builtin; refine wpList_app_seenG rfl (.tmp 78) (.tmp 80) rfl (w.heap.size + 2) _ (escs (hs.take k)) rfl HO9.out (by omega) _ _ _ es rfl HV9.out (by rw [HEl.out]; omega) (by rw [HEl.out, HTs.out]; omega) ?_)
        intro v10 w10 o10 h10
        have hrow : ∀ j, (Value.slice (some ⟨g, 0, none⟩) (64 * k) gc).ownBlock = some j → w.heap.size + 2 ≤ j := fun j hj => (HO9.out.lt j hj).1
        have ch10 := Chg.ofGrown0 h10 hrow
        have HG10 : Hid (OwnG w10 (w.heap.size + 2) (.slice va' (k + 1) vc') ((hs.take (k + 1)).map tagOf)) := HG9.out.grown h10 (fun j hj hk => HG9.out.apart HO9.out j hk hj)
        have HD10 : Hid _ := (ch10.block _ (by omega) (by omega)).trans HD9.out
        have HB10 : Hid _ := (ch10.block _ (by omega) (by omega)).trans HB9.out
        have HC10 : Hid _ := HC9.out.step ch10 (by omega)
        have HO10 : Hid (OwnB w10 (w.heap.size + 2) 5 v10 (escs (hs.take (k + 1)))) := by show OwnB _ _ _ _ _; rw [HTe.out]; exact o10
        have HV10 : Hid (∃ g c, v10 = .slice (some ⟨g, 0, none⟩) (64 * (k + 1)) c) := by
          have hl : (escs (hs.take (k + 1))).length = 64 * (k + 1) := by
            have e2 : (escs (hs.take k) ++ es).length = (escs (hs.take k)).length + es.length := List.length_append
            rw [HTe.out, e2, HTs.out, HEl.out]; omega
          obtain ⟨g', c', e'⟩ := HO10.out.some_of (by rw [hl]; omega)
          exact ⟨g', c', by rw [e', hl]⟩
        have s10 := ch10.size
        have sz10 : w.heap.size + 2 ≤ w10.heap.size := by omega
        clear o10 h10 ch10 hrow HO9 HV9 HG9 HD9 HB9 HC9 y0 y1 y2
        go_wp2
        go_roundw
        case rel => exact ⟨k + 1, by omega, by go_num, HV10.out, HO10.out, ⟨va', vc', HG10.out, HD10.out⟩, HB10.out, HC10.out, sz10⟩
        case measure => simp [intOf]; omega
    · obtain rfl : k = n := by omega
      have hge : ¬ ((k : Int) < (k : Int)) := by omega
      have hl17 : ((hs.take k).map tagOf).length = k := by rw [List.length_map]; exact HTk.out.2.2
      obtain ⟨gt, ct, et, hgt1, hgt2, hcells⟩ := hg.cells (by rw [hl17]; omega)
      rw [hl17] at et
      obtain ⟨rfl, rfl⟩ : va = some ⟨gt, 0, none⟩ ∧ vc = ct := by simp only [Value.slice.injEq] at et; exact ⟨et.1, et.2.2⟩
      have hd1 := two_cells hd
      obtain ⟨d0, d1, _, _⟩ := hd1
      have hN : Calls Tryz.prog 67 #[.agg #[.int .i64 q, .slice (some ⟨gt, 0, none⟩) k vc]] wr fun e w' => ∃ v, e = .returned v ∧ OwnB w' wr.heap.size 5 v (desB q (hs.take k)) ∧ Chg 0 0 wr w' := by
        have := specDesc_calls wr q ((hs.take k).map tagOf) gt 0 vc HOK.out.q0 HOK.out.q1 (by rw [hl17]; omega) (by rw [hl17]; omega) (tags_rise (HOK.out.takeH k)) hcells
        rw [hl17] at this
        unfold desB
        rw [HTk.out.2.2]
        exact this
      have HDl : Hid ((desB q (hs.take k)).length = 64) := des_64 HOK.out.q0 HOK.out.q1 (by rw [HTk.out.2.2]; omega) (HOK.out.takeH k).homes_in
      have HEs : Hid ((escs (hs.take k)).length = 64 * k) := by show _ = _; rw [escs_len (fun x hx => HOK.out.data x (List.mem_of_mem_take hx)), HTk.out.2.2]
      clear ho hg hd hbt hc hcells et
      go_wp2_with fail
      refine hN.mono ?_
      rintro e w3 ⟨v3, rfl, o3, h3⟩
      obtain ⟨g3, c3, rfl⟩ := o3.some_of (by rw [HDl.out]; omega)
      rw [HDl.out] at o3 ⊢
      have s3 := h3.size
      have hV3 : View w3 wr.heap.size w3.heap.size .u8 (.slice (some ⟨g3, 0, none⟩) 64 c3) (desB q (hs.take k)) := o3.view (by rw [HDl.out]; omega) (fun g hg => (o3.lt g hg).2)
      have hOc := HO.out.chg h3 (by intro g _; omega)
      have hVc : View w3 (w.heap.size + 2) w3.heap.size .u8 (.slice (some ⟨g, 0, none⟩) (64 * k) gc) (escs (hs.take k)) := hOc.view (by rw [HEs.out]; omega) (fun g hg => (hOc.lt g hg).2)
      have hN := l2Join_any (xs := desB q (hs.take k)) (ys := escs (hs.take k)) w3 (by rw [HDl.out]; omega) (by rw [HEs.out]; omega) hV3 hVc
      have HB3 : Hid _ := (h3.block _ (by omega) (by omega)).trans HB.out
      have HC3 : Hid _ := HC.out.trans h3
      have HFd : Hid ((descBs q (hs.take k)).flatten = desB q (hs.take k) ++ escs (hs.take k)) := by show _ = _; unfold descBs escs; rw [List.flatten_cons]
      have HLd : Hid ((desB q (hs.take k) ++ escs (hs.take k)).length = 64 * (descBs q (hs.take k)).length) := by
        show _ = _
        rw [List.length_append, HDl.out, HEs.out]
        unfold descBs
        rw [List.length_cons, List.length_map, HTk.out.2.2]; omega
      have hdl : (descBs q (hs.take k)).length = k + 1 := by unfold descBs; rw [List.length_cons, List.length_map, HTk.out.2.2]
      have HDl2 : Hid _ := hdl
      clear o3 h3 hV3 hVc hOc HO HG HD HB HC d0 d1 hdl hl17
      go_wp2_with fail
      refine hN.mono ?_
      rintro e w4 ⟨v4, rfl, o4, h4⟩
      obtain ⟨g4, c4, rfl⟩ := o4.some_of (by rw [HLd.out, HDl2.out]; omega)
      rw [HLd.out, HDl2.out] at o4 ⊢
      have s4 := h4.size
      have HB4 : Hid _ := (h4.block _ (by omega) (by omega)).trans HB3.out
      have HC4 : Hid _ := HC3.out.trans h4
      have HO4 : Hid (OwnB w4 w.heap.size 5 (.slice (some ⟨g4, 0, none⟩) (64 * (k + 1)) c4) (descBs q (hs.take k)).flatten) := by
        show OwnB _ _ _ _ _
        rw [HFd.out]
        exact o4.base (fun g hg => by have := (o4.lt g hg).1; omega)
      have HFl0 : Hid ((descBs q (hs.take k)).flatten.length = 64 * (k + 1)) := by show _ = _; rw [HFd.out, HLd.out, HDl2.out]
      clear o4 h4 HB3 HC3 hN
      obtain ⟨ad, had⟩ : ∃ ad : Option Addr, (if cap = k then some (⟨b, off, none⟩ : Addr) else some ⟨b, off + k * 2, none⟩) = ad := ⟨_, rfl⟩
      have HVd : Hid (∀ W, Chg 0 0 w W → PView W 0 w.heap.size (.slice ad (hs.length - k) (cap - k)) (hs.drop k)) := fun W hW => by
        rw [← had]
        split
        · have e : hs.drop k = [] := List.drop_eq_nil_of_le (by omega)
          rw [e]
          exact ⟨_, cap - k, by rw [show hs.length - k = 0 by omega]; rfl, by simp, by simp, Or.inl rfl⟩
        · refine ⟨_, cap - k, by rw [List.length_drop], by rw [List.length_drop]; omega, by rw [List.length_drop]; omega, Or.inr ⟨b, off + k * 2, rfl, Nat.zero_le _, hb, fun i hi => ?_⟩⟩
          rw [List.length_drop] at hi
          obtain ⟨dv, r1, r2, r3⟩ := H1.out (k + i) (by omega)
          have e : (hs.drop k).getD i (0, []) = hs.getD (k + i) (0, []) := by simp [List.getD_eq_getElem?_getD, List.getElem?_drop]
          rw [e]
          refine ⟨dv, ?_, ?_, (r3.chg hW (by omega)).mono (Nat.zero_le _) hhi⟩
          · rw [show off + k * 2 + i * 2 = off + (k + i) * 2 by omega]; exact hW.cell r1 (by omega)
          · rw [show off + k * 2 + i * 2 + 1 = off + (k + i) * 2 + 1 by omega]; exact hW.cell r2 (by omega)
      have n1 : ¬ cap < k := by omega
      have n2 : ¬ hs.length < k := by omega
      obtain ⟨i1, i2⟩ := BL_64 128 (q := q) (hs := hs.drop k) (rs := []) (by rw [List.length_drop]; simp; omega) (HOK.out.dropH k)
      have HFl : Hid _ := flat_len i1
      have hlen : (BL q (hs.drop k) []).length ≤ 256 := by rw [List.length_drop] at i2; simp at i2; omega
      clear i1 i2
      go_wp2
      have HS : Hid ((fun w' : World => w'.heap[w.heap.size]? = some (.cells #[.int .i64 q, .slice (some ⟨b, off, none⟩) hs.length cap, .slice ao 0 ac] 35 (0, 0))) w4.drew) := HB4.out
      refine held_region (fun w' : World => w'.heap[w.heap.size]? = some (.cells #[.int .i64 q, .slice (some ⟨b, off, none⟩) hs.length cap, .slice ao 0 ac] 35 (0, 0))) (by kernel_rfl) ?_
      refine held_take 0 (.slice (some ⟨g4, 0, none⟩) (64 * (k + 1)) c4) rfl (by kernel_rfl) (by kernel_rfl) (by kernel_rfl) (fun _ _ _ h => h) (.inl ⟨by kernel_rfl, fun w' hw' => by go_simp⟩) HS.out ?_
      go_simp
      refine held_take 1 (.pointer (some ⟨w.heap.size, 0, none⟩)) rfl (by kernel_rfl) (by kernel_rfl) (by kernel_rfl) (fun _ _ _ h => h) (.inl ⟨by kernel_rfl, fun w' hw' => by go_simp⟩) HS.out ?_
      go_simp
      refine held_take 2 (.int .i64 q) rfl (by kernel_rfl) (by kernel_rfl) (by kernel_rfl) (fun _ _ _ h => h) (.inl ⟨by kernel_rfl, fun w' hw' => by obtain ⟨⟨q0, q1, q2⟩, _⟩ := tri hw'; go_simp⟩) HS.out ?_
      go_simp
      refine held_take 3 (.pointer (some ⟨w.heap.size, 1, none⟩)) rfl (by kernel_rfl) (by kernel_rfl) (by kernel_rfl) (fun _ _ _ h => h) (.inl ⟨by kernel_rfl, fun w' hw' => by go_simp⟩) HS.out ?_
      go_simp
      refine held_take 4 (.slice (some ⟨b, off, none⟩) hs.length cap) rfl (by kernel_rfl) (by kernel_rfl) (by kernel_rfl) (fun _ _ _ h => h) (.inl ⟨by kernel_rfl, fun w' hw' => by obtain ⟨⟨q0, q1, q2⟩, _⟩ := tri hw'; go_simp⟩) HS.out ?_
      go_simp
      refine held_take 5 (.int .i64 (k : Int)) rfl (by kernel_rfl) (by kernel_rfl) (by kernel_rfl) (fun _ _ _ h => h) (.inl ⟨by kernel_rfl, fun w' hw' => by go_simp⟩) HS.out ?_
      go_simp
      refine held_take 6 (.slice ad (hs.length - k) (cap - k)) rfl (by kernel_rfl) (by kernel_rfl) (by kernel_rfl) (fun _ _ _ h => h) (.inl ⟨by kernel_rfl, fun w' hw' => by go_simp⟩) HS.out ?_
      go_simp
      refine held_take 7 (.agg #[.int .i64 q, .slice ad (hs.length - k) (cap - k), .slice none 0 0]) rfl (by kernel_rfl) (by kernel_rfl) (by kernel_rfl) (fun _ _ _ h => h) (.inl ⟨by kernel_rfl, fun w' hw' => by go_simp⟩) HS.out ?_
      go_simp
      have HC5 : Hid _ := HC4.out.drew
      have HO5 : Hid (OwnB w4.drew w.heap.size 5 (.slice (some ⟨g4, 0, none⟩) (64 * (k + 1)) c4) (descBs q (hs.take k)).flatten) := HO4.out.chg (Chg.drew (Chg.refl 0 0 w4)) (by intro g _; omega)
      have s5 : w.heap.size < w4.drew.heap.size := by show _ < w4.heap.size; omega
      generalize w4.drew = w5 at *
      clear HC4 HO4 HB4
      refine held_one 8 rfl rfl (by kernel_rfl) ?_
      refine wp_enter 40 #[.agg #[.int .i64 q, .slice ad (hs.length - k) (cap - k), .slice none 0 0]] (by first | kernel_rfl | go_simp) (HREC.out w5 _ HC5.out (HVd.out w5 HC5.out)) ?_
      rintro e w6 ⟨g6, c6, rfl, o6, h6⟩
      have HS6 : Hid ((fun w' : World => w'.heap[w.heap.size]? = some (.cells #[.int .i64 q, .slice (some ⟨b, off, none⟩) hs.length cap, .slice ao 0 ac] 35 (0, 0))) w6) := (h6.block _ (by omega) (by omega)).trans HS.out
      have HC6 : Hid _ := HC5.out.trans h6
      have s6 := h6.size
      have HV6 : Hid (View w6 w5.heap.size w6.heap.size .u8 (.slice (some ⟨g6, 0, none⟩) (64 * (BL q (hs.drop k) []).length) c6) (BL q (hs.drop k) []).flatten) := o6.view (by rw [HFl.out]; omega) (fun g hg => (o6.lt g hg).2)
      have HO6 : Hid (OwnB w6 w.heap.size 5 (.slice (some ⟨g4, 0, none⟩) (64 * (k + 1)) c4) (descBs q (hs.take k)).flatten) := HO5.out.chg h6 (by intro g _; omega)
      have HVa : Hid (View w6 w.heap.size w6.heap.size .u8 (.slice (some ⟨g4, 0, none⟩) (64 * (k + 1)) c4) (descBs q (hs.take k)).flatten) := HO6.out.view (by rw [HFl0.out]; omega) (fun g hg => (HO6.out.lt g hg).2)
      refine ⟨_, rfl, HS6.out, ?_⟩
      clear o6 h6 HO5 HS HC5
      go_simp
      have hN := l2Join_any (xs := (descBs q (hs.take k)).flatten) (ys := (BL q (hs.drop k) []).flatten) w6 (by rw [HFl0.out]; omega) (by rw [HFl.out]; omega) HVa.out HV6.out
      refine held_one 9 rfl rfl (by kernel_rfl) ?_
      refine wp_enter 42 #[.slice (some ⟨g4, 0, none⟩) (64 * (k + 1)) c4, .slice (some ⟨g6, 0, none⟩) (64 * (BL q (hs.drop k) []).length) c6] (by first | kernel_rfl | go_simp) hN ?_
      rintro e w7 ⟨v7, rfl, o7, h7⟩
      have HS7 : Hid _ := (h7.block _ (by omega) (by omega)).trans HS6.out
      have HC7 : Hid _ := HC6.out.trans h7
      have hlen7 : ((descBs q (hs.take k)).flatten ++ (BL q (hs.drop k) []).flatten).length = 64 * (BL q hs []).length := by rw [HBL.out, List.length_append, HFl0.out, HFl.out, List.length_append, HDl2.out]; omega
      obtain ⟨g7, c7, rfl⟩ := o7.some_of (by rw [hlen7, HBL.out, List.length_append, HDl2.out]; omega)
      rw [hlen7] at o7 ⊢
      have HO7 : Hid (OwnB w7 w.heap.size 5 (.slice (some ⟨g7, 0, none⟩) (64 * (BL q hs []).length) c7) (BL q hs []).flatten) := by
        have e : (BL q hs []).flatten = (descBs q (hs.take k)).flatten ++ (BL q (hs.drop k) []).flatten := by rw [HBL.out, List.flatten_append]
        show OwnB _ _ _ _ _
        rw [e]
        exact o7.base (fun g hg => by have := (o7.lt g hg).1; omega)
      refine ⟨_, rfl, HS7.out, ?_⟩
      clear o7 h7 hN HS6 HC6 hlen7
      go_simp
      refine held_one 10 rfl rfl (by kernel_rfl) ?_
      go_simp
      refine ⟨HS7.out, ?_⟩
      refine held_done (by kernel_rfl) (NoPanic.normal ?_)
      go_wp2
      go_ret
      exact ⟨_, _, rfl, HO7.out, HC7.out⟩

/-- All of it. -/
theorem l4Body_calls (n : Nat) : ∀ (w : World) {lo hi : Nat} {a : Value} {t : Tx}, t.homes.length + t.revs.length ≤ n → n ≤ 128 → OkT t.seq t.homes t.revs → hi ≤ w.heap.size → TView w lo hi a t →
    Calls Tryz.prog 40 #[a] w fun e w' => Told w w' e (BL t.seq t.homes t.revs) := by
  induction n with
  | zero =>
    intro w lo hi a t hn _ _ _ hT
    obtain ⟨q, hs, rs⟩ := t
    obtain ⟨hv, rv, rfl, h1, h2⟩ := hT
    simp only at hn h1 h2 ⊢
    obtain rfl : hs = [] := List.eq_nil_of_length_eq_zero (by omega)
    obtain rfl : rs = [] := List.eq_nil_of_length_eq_zero (by simp only [List.length_nil] at hn; omega)
    obtain ⟨po, pc, rfl⟩ := h1.slice
    obtain ⟨ao, ac, rfl⟩ := h2.slice
    exact body_nil w q po ao pc ac
  | succ n ih =>
    intro w lo hi a t hn hn2 hok hhi hT
    obtain ⟨q, hs, rs⟩ := t
    obtain ⟨hv, rv, rfl, h1, h2⟩ := hT
    simp only at hn hok h1 h2 ⊢
    by_cases hr : 0 < rs.length
    · obtain ⟨ao, cap, rfl, _, ⟨hcap, _⟩, hcell⟩ := h2
      obtain ⟨b, off, rfl, hb1, hb2, hb3⟩ : ∃ b off, ao = some ⟨b, off, none⟩ ∧ lo ≤ b ∧ b < hi ∧ ∀ i, i < rs.length → w.cell? ⟨b, off + i, none⟩ = some (.int .i64 (rs.getD i 0)) := by
        rcases hcell with e | h
        · rw [e] at hr; simp at hr
        · exact h
      refine body_rev w b off cap hok hr (by omega) (by omega) hcap h1 hb3 ?_
      intro w' rv hc hv'
      exact ih w' (lo := 0) (hi := w.heap.size) (t := ⟨q, hs, rs.drop 26⟩) (by simp only [List.length_drop]; omega) (by omega) (hok.dropR 26) hc.size ⟨_, _, rfl, (h1.chg hc (by omega)).mono (Nat.zero_le _) hhi, hv'⟩
    · obtain rfl : rs = [] := List.eq_nil_of_length_eq_zero (by omega)
      obtain ⟨ro, rc, rfl⟩ := h2.slice
      by_cases hh : 0 < hs.length
      · obtain ⟨ao, cap, rfl, _, hcap, hcell⟩ := h1
        obtain ⟨b, off, rfl, hb1, hb2, hb3⟩ : ∃ b off, ao = some ⟨b, off, none⟩ ∧ lo ≤ b ∧ b < hi ∧ ∀ i, i < hs.length → ∃ dv, w.cell? ⟨b, off + i * 2, none⟩ = some (.int .i64 (hs.getD i (0, [])).1) ∧ w.cell? ⟨b, off + i * 2 + 1, none⟩ = some dv ∧ View w lo hi .u8 dv (hs.getD i (0, [])).2 := by
          rcases hcell with e | h
          · rw [e] at hh; simp at hh
          · exact h
        refine body_home w ro rc b off cap hok hh (by simp only [List.length_nil] at hn; omega) (by omega) hhi hcap hb3 ?_
        intro w' hv hc hv'
        exact ih w' (lo := 0) (hi := w.heap.size) (t := ⟨q, hs.drop 17, []⟩) (by simp only [List.length_drop, List.length_nil] at hn ⊢; omega) (by omega) (hok.dropH 17) hc.size ⟨_, _, rfl, hv', View.nil _ _ _ _⟩
      · obtain rfl : hs = [] := List.eq_nil_of_length_eq_zero (by omega)
        obtain ⟨po, pc, rfl⟩ := h1.slice
        exact body_nil w q po ro pc rc

end Go.Proofs.YtahjaejepkgfdaaGreatDoor
