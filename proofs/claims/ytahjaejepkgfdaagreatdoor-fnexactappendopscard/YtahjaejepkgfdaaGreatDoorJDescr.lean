/- Several short texts in one: JRevoke, JDescr. -/
import Derived.Test.YtahjaejepkgfdaaGreatDoorJEnc
import Derived.Test.YtahjaejepkgfdaaGreatDoorSpecBeg
namespace Go.Proofs.YtahjaejepkgfdaaGreatDoor
open Go.RowKit

set_option maxRecDepth 20000 in
set_option maxHeartbeats 4000000 in
theorem encodedR_calls (w : World) (c q : Int) (xs : List Int) (b off cap : Nat) (hi : c ≤ 9223372036854775807) (hq : q ≤ 9223372036854775807) (hi2 : (putN c 2).length = 2) (hq4 : (putN q 4).length = 4) (hl : xs.length ≤ 26)
    (hg : ∀ x ∈ xs, 0 ≤ x ∧ x < 2048) (h1 : ∀ i, i < xs.length → w.cell? ⟨b, off + i, none⟩ = some (.int .i64 (xs.getD i 0))) :
    Calls Tryz.prog 79 #[.agg #[.int .u8 106, .int .u8 108, .int .u8 111, .int .u8 103, .int .i64 3, .int .i64 c, .int .i64 q, .slice (some ⟨b, off, none⟩) xs.length cap]] w fun e w' => e = .returned (.agg ((padL (headL 3 c q ++ putPs xs)).map (Value.int .u8)).toArray) ∧ Chg 0 0 w w' := by
  have HG : Hid (∀ x ∈ xs, 0 ≤ x ∧ x < 2048) := hg
  have H1 : Hid (∀ i, i < xs.length → w.cell? ⟨b, off + i, none⟩ = some (.int .i64 (xs.getD i 0))) := h1
  clear hg h1
  obtain ⟨lv, hlv⟩ : ∃ lv, lv = Value.slice (some ⟨b, off, none⟩) xs.length cap := ⟨_, rfl⟩
  have Hlv : Hid (lv = Value.slice (some ⟨b, off, none⟩) xs.length cap) := hlv
  rw [← hlv]
  clear hlv
  have hN := fun w => begun_calls w 106 108 111 103 3 c q (by omega) (by omega) hi hq hi2 hq4
  have Hi2 : Hid ((putN c 2).length = 2) := hi2
  have Hq4 : Hid ((putN q 4).length = 4) := hq4
  rw [begL_curV hi2 hq4] at hN
  have HY : Hid ((headL 3 c q).length = 12) := headL_length hi2 hq4
  obtain ⟨bs, Hbs⟩ : ∃ bs, Hid (bs = curV (headL 3 c q)) := ⟨_, rfl⟩
  have Hbl : Hid (bs.length = 64) := by show _ = _; rw [Hbs.out]; exact curV_length (by rw [HY.out]; omega)
  have HV : Hid (∀ v ∈ bs, v.oneCell' = true) := by show ∀ v ∈ bs, v.oneCell' = true; rw [Hbs.out]; exact curV_one _
  rw [← Hbs.out] at hN
  have hib : (Tryz.prog.info? 60).map (·.size) = some bs.length := by rw [Hbl.out]; kernel_rfl
  obtain ⟨z1, z2, z3⟩ := alloc2 w (jO 145 3 c q lv) (.cells Z64.toArray 60)
  have hA : Chg 0 0 w ((w.alloc (jO 145 3 c q lv)).alloc (.cells Z64.toArray 60)) := (Chg.alloc (Chg.refl 0 0 w) _).alloc _
  have HZ : Hid (_ ∧ _ ∧ _ ∧ _) := ⟨z1, z2, z3, hA⟩
  clear z1 z2 z3 hA hi2 hq4
  go_enter Tryz.func79, Tryz.ntmps79
  go_wp2_with fail
  simp only [Z64_eq]
  generalize ((w.alloc (jO 145 3 c q lv)).alloc (.cells Z64.toArray 60)) = wa at *
  refine (hN wa).mono ?_
  rintro e w2 ⟨rfl, hc2⟩
  have HE : Hid (Enc w (w2.alloc (.cells Z64.toArray 60)) w2.heap.size (jO 145 3 c q lv) Z64) := by
    obtain ⟨z1, z2, z3, hA⟩ := HZ.out
    have s2 := hc2.size
    have hc3 : Chg 0 0 wa (w2.alloc (.cells Z64.toArray 60)) := hc2.alloc _
    exact ⟨(hc3.block _ (by omega) (by omega)).trans z2, (hc3.block _ (by omega) (by omega)).trans z3, heap_new _ _, by omega, hA.trans hc3⟩
  clear hN hc2 HZ
  have hg := HE.out.b2
  rw [← Z64_eq] at hg
  have Hg : Hid (_ = _) := hg
  clear hg
  go_upto_region 2 with (first
    | (refine wpList_store_row rfl 60 (.tmp 3) (.tmp 8) rfl rfl w2.heap.size rfl bs _ 60 rfl Hg.out (by rw [Hbl.out]; rfl) hib HV.out ?_; intro w3 hb3 hc3))
  simp only [Z64_eq] at hc3
  clear Hg
  have HE3 : Hid _ := HE.out.put hc3 hb3
  have hlo := HE3.out.lo
  generalize w2.heap.size = N at *
  clear hb3 hc3 HE
  rw [Hbs.out] at HE3
  clear Hbs Hbl HV hib
  have k7 : w3.cell? ⟨w.heap.size, 7, none⟩ = some (.slice (some ⟨b, off, none⟩) xs.length cap) := by
    have hb := HE3.out.b0
    simp [World.cell?, hb, Hlv.out]
  go_wp2
  go_loopw [12] (fun x wr => ∃ k : Nat, k ≤ xs.length ∧ x = .int .i64 k ∧ Enc w wr N (jO 145 3 c q lv) (curV (headL 3 c q ++ putPs (xs.take k)))) (fun x _ => xs.length - (intOf x).toNat)
  case atStart => exact ⟨0, Nat.zero_le _, rfl, by rw [List.take_zero]; show Enc _ _ _ _ (curV (_ ++ [])); rw [List.append_nil]; exact HE3.out⟩
  case round =>
    obtain ⟨k, hk, rfl, ho⟩ := hrel
    by_cases hlt : k < xs.length
    · have c1 := ho.ch.cell (H1.out k hlt) (by omega)
      have hx : xs.getD k 0 = xs[k] := by simp [List.getD_eq_getElem?_getD, hlt]
      have hi' : (k : Int) < (xs.length : Int) := by omega
      have hgx := HG.out _ (List.getElem_mem hlt)
      rw [← hx] at hgx
      have h2 := put2_len hgx
      have hxb := hgx.2
      have hkl : (headL 3 c q ++ putPs (xs.take k)).length = 12 + 2 * k := by rw [List.length_append, HY.out, putPs_len (fun x hx => HG.out x (List.mem_of_mem_take hx)), List.length_take, Nat.min_eq_left hk]
      have HT : Hid (splice (curV (headL 3 c q ++ putPs (xs.take k))) (12 + 2 * k) ((putN (xs.getD k 0) 2).map (Value.int .u8)) = curV (headL 3 c q ++ putPs (xs.take (k + 1)))) := by
        show _ = _
        rw [putPs_take hlt, ← List.append_assoc, ← hkl]
        exact curV_more _ _
      have HL : Hid ((curV (headL 3 c q ++ putPs (xs.take k))).length = 64) := curV_length (by rw [hkl]; omega)
      have H2 : Hid _ := h2
      have HO : Hid _ := ho
      generalize curV (headL 3 c q ++ putPs (xs.take k)) = cur at *
      generalize xs.getD k 0 = x at *
      have q1 : (0 : Int) ≤ 12 + (k : Int) * 2 := by omega
      have q2 : 12 + (k : Int) * 2 ≤ 64 := by omega
      have q3 : (12 + (k : Int) * 2).toNat = 12 + 2 * k := by omega
      have q5 : ¬ (64 : Nat) = 12 + 2 * k := by omega
      have q4 : IntKind.i64.wrap ((k : Int) * 2) = (k : Int) * 2 := by rw [IntKind.wrap_i64]; omega
      have q6 : IntKind.i64.wrap (12 + (k : Int) * 2) = 12 + (k : Int) * 2 := by rw [IntKind.wrap_i64]; omega
      clear hx hgx h2 hkl ho k7
      go_upto_region 5 with fail
      have HS0 : Hid _ := trivial
      refine held_region (fun _ : World => True) (by kernel_rfl) ?_
      refine held_take 0 (.int .i64 (k : Int)) rfl (by kernel_rfl) (by kernel_rfl) (by kernel_rfl) (fun _ _ _ h => h) (.inl ⟨by kernel_rfl, fun w' hw' => by go_simp⟩) HS0.out ?_
      go_simp
      refine held_take 1 (.int .i64 ((k : Int) * 2)) rfl (by kernel_rfl) (by kernel_rfl) (by kernel_rfl) (fun _ _ _ h => h) (.inl ⟨by kernel_rfl, fun w' hw' => by go_simp⟩) HS0.out ?_
      go_simp
      refine held_take 2 (.int .i64 (12 + (k : Int) * 2)) rfl (by kernel_rfl) (by kernel_rfl) (by kernel_rfl) (fun _ _ _ h => h) (.inl ⟨by kernel_rfl, fun w' hw' => by go_simp⟩) HS0.out ?_
      go_simp
      refine held_take 3 (.slice (some ⟨N, 12 + 2 * k, none⟩) (64 - (12 + 2 * k)) (64 - (12 + 2 * k))) rfl (by kernel_rfl) (by kernel_rfl) (by kernel_rfl) (fun _ _ _ h => h) (.inl ⟨by kernel_rfl, fun w' hw' => by go_simp⟩) HS0.out ?_
      go_simp
      refine held_take 4 (.int .i64 x) rfl (by kernel_rfl) (by kernel_rfl) (by kernel_rfl) (fun _ _ _ h => h) (.inl ⟨by kernel_rfl, fun w' hw' => by go_simp⟩) HS0.out ?_
      go_simp
      have HO1 : Hid _ := HO.out.chg (Chg.drew (Chg.refl 0 0 wr))
      clear HO
      generalize wr.drew = x1 at *
      have hN := implPut_calls x1 x 2 (by omega)
      refine held_one 5 rfl rfl (by kernel_rfl) ?_
      refine wp_enter 86 #[.int .i64 x, .int .i64 2] (by first | kernel_rfl | go_simp) hN ?_
      rintro e x2 ⟨r, rfl, o2, c2⟩
      have HO2 : Hid _ := HO1.out.chg c2
      obtain ⟨g, gc, rfl, hcell⟩ := o2.two H2.out (by omega) (by omega)
      refine ⟨_, rfl, trivial, ?_⟩
      have Hcell : Hid _ := hcell
      clear hN o2 c2 hcell HO1
      go_simp
      refine held_one 6 rfl rfl (by kernel_rfl) ?_
      refine wp_copy_row (.tmp 20) (.tmp 22) 45 45 rfl 5 Tryz.underlying45 (by kernel_rfl) N (12 + 2 * k) (64 - (12 + 2 * k)) (64 - (12 + 2 * k)) ⟨g, 0, none⟩ 2 gc rfl rfl cur 60 HO2.out.b2 ((putN x 2).map (Value.int .u8)) (by rw [List.length_map, H2.out]; exact (Nat.min_eq_left (by omega)).symm) Hcell.out (by rw [List.length_map, H2.out, HL.out]; omega) (ints_oneCell _ _) ?_
      intro x3 hb3 hc3
      have HO3 : Hid (Enc w x3 N (jO 145 3 c q lv) (curV (headL 3 c q ++ putPs (xs.take (k + 1))))) := by show Enc _ _ _ _ _; rw [← HT.out]; exact HO2.out.put hc3 hb3.out
      refine ⟨trivial, ?_⟩
      clear hb3 hc3 Hcell HO2
      go_simp
      refine held_done (by kernel_rfl) (NoPanic.normal ?_)
      go_wp2
      go_roundw
      case rel => exact ⟨k + 1, by omega, by go_num, HO3.out⟩
      case measure => simp [intOf]; omega
    · obtain rfl : k = xs.length := by omega
      rw [List.take_length] at ho
      have hcl := curV_length (Y := headL 3 c q ++ putPs xs) (by rw [List.length_append, HY.out, putPs_len HG.out]; omega)
      obtain ⟨cs, hcs⟩ : ∃ cs, cs = curV (headL 3 c q ++ putPs xs) := ⟨_, rfl⟩
      rw [← hcs] at ho hcl
      have HBm : Hid _ := ho
      generalize wr = wf at *
      clear ho HE3 k7
      have HV2 : Hid (∀ v ∈ cs, v.oneCell' = true) := by show ∀ v ∈ cs, v.oneCell' = true; rw [hcs]; exact curV_one _
      have hics : (Tryz.prog.info? 60).map (·.size) = some cs.length := by rw [hcl]; kernel_rfl
      have Hcl : Hid _ := hcl
      have Hcs : Hid _ := hcs
      have u44 := Tryz.underlying60
      have HR : Hid _ := row_rng HBm.out.b2
      have HB1 : Hid _ := HBm.out.b1
      clear hcl hcs
      go_wp2_with (first
        | (refine wpList_load_mid rfl 60 (.tmp 3) rfl N 0 rfl cs _ HR.out u44 rfl hics ?_)
        | (refine wpList_store_row rfl 60 (.tmp 2) (.tmp 25) rfl rfl (w.heap.size + 1) rfl cs Z64 60 rfl HB1.out (by rw [Z64_length]; exact Hcl.out) hics HV2.out ?_; intro wg hbg hcg))
      have HCg : Hid _ := HBm.out.ch.step hcg (by omega)
      have hl1 : (loadVar 60 ⟨w.heap.size + 1, 0, none⟩).run Tryz.prog wg = .ok (.agg cs.toArray) wg := run_loadVar_mid _ _ _ _ cs _ (row_rng hbg) u44 rfl hics
      go_wp2
      exact bodyPost_ret (v := .agg cs.toArray) (results_one Tryz.results79 rfl hl1) rfl ⟨by rw [Hcs.out]; rfl, HCg.out⟩

end Go.Proofs.YtahjaejepkgfdaaGreatDoor

namespace Go.Proofs.YtahjaejepkgfdaaGreatDoor
open Go.RowKit

theorem wpList_copy_row {P : Program} {ops : Array Oper} {rest : List Oper} {o : Oper} {a : Act} {w : World} {Q : Exit → Act → World → Prop} (hgd : o.guard = none) (d s : Operand) (dT sT : TypeId)
    (ho : o.op = .call { callee := .builtin .copy, args := #[d, s], argTypes := #[dT, sT] }) (elem : TypeId) (hu : P.underlying dT = some (.slice elem)) (hsz : (P.info? elem).map (·.size) = some 1)
    (g off dLen dCap : Nat) (ad : Addr) (sLen sCap : Nat) (hd : a.eval d = .slice (some ⟨g, off, none⟩) dLen dCap) (hs : a.eval s = .slice (some ad) sLen sCap)
    (cur : List Value) (t : TypeId) (hg : w.heap[g]? = some (.cells cur.toArray t (0, 0))) (cs : List Value) (hn : cs.length = Nat.min sLen dLen)
    (hsrc : ∀ j v, cs[j]? = some v → w.cell? (ad.add j) = some v) (hfit : off + cs.length ≤ cur.length) (h1 : ∀ v ∈ cs, v.oneCell' = true)
    (h : ∀ w', Hid (w'.heap[g]? = some (.cells (splice cur off cs).toArray t (0, 0))) → Chg g (g + 1) w w' → wpList P ops Q rest (a.put o.dst (goInt cs.length)) w') : wpList P ops Q (o :: rest) a w :=
  wpList_plain hgd fun _ hK => wp_copy_row d s dT sT ho elem hu hsz g off dLen dCap ad sLen sCap hd hs cur t hg cs hn hsrc hfit h1 fun w' h1 h2 => hK _ _ (h w' h1 h2)

set_option maxRecDepth 20000 in
set_option maxHeartbeats 4000000 in
theorem encodedD_calls (w : World) (c q : Int) (ts : List (Int × Bool)) (b off cap : Nat) (hi : c ≤ 9223372036854775807) (hq : q ≤ 9223372036854775807) (hi2 : (putN c 2).length = 2) (hq4 : (putN q 4).length = 4) (hl : ts.length ≤ 17)
    (hg : ∀ x ∈ ts, 0 ≤ x.1 ∧ x.1 < 2048) (h1 : ∀ i, i < ts.length → w.cell? ⟨b, off + i * 2, none⟩ = some (.int .i64 (ts.getD i (0, false)).1) ∧ w.cell? ⟨b, off + i * 2 + 1, none⟩ = some (.bool (ts.getD i (0, false)).2)) :
    Calls Tryz.prog 98 #[.agg #[.int .u8 106, .int .u8 108, .int .u8 111, .int .u8 103, .int .i64 2, .int .i64 c, .int .i64 q, .slice (some ⟨b, off, none⟩) ts.length cap]] w fun e w' => e = .returned (.agg ((padL (headL 2 c q ++ tagsL ts)).map (Value.int .u8)).toArray) ∧ Chg 0 0 w w' := by
  have HG : Hid (∀ x ∈ ts, 0 ≤ x.1 ∧ x.1 < 2048) := hg
  have H1 : Hid (∀ i, i < ts.length → w.cell? ⟨b, off + i * 2, none⟩ = some (.int .i64 (ts.getD i (0, false)).1) ∧ w.cell? ⟨b, off + i * 2 + 1, none⟩ = some (.bool (ts.getD i (0, false)).2)) := h1
  clear hg h1
  obtain ⟨lv, hlv⟩ : ∃ lv, lv = Value.slice (some ⟨b, off, none⟩) ts.length cap := ⟨_, rfl⟩
  have Hlv : Hid (lv = Value.slice (some ⟨b, off, none⟩) ts.length cap) := hlv
  rw [← hlv]
  clear hlv
  have hN := fun w => begun_calls w 106 108 111 103 2 c q (by omega) (by omega) hi hq hi2 hq4
  have Hi2 : Hid ((putN c 2).length = 2) := hi2
  have Hq4 : Hid ((putN q 4).length = 4) := hq4
  rw [begL_curV hi2 hq4] at hN
  have HY : Hid ((headL 2 c q).length = 12) := headL_length hi2 hq4
  obtain ⟨bs, Hbs⟩ : ∃ bs, Hid (bs = curV (headL 2 c q)) := ⟨_, rfl⟩
  have Hbl : Hid (bs.length = 64) := by show _ = _; rw [Hbs.out]; exact curV_length (by rw [HY.out]; omega)
  have HV : Hid (∀ v ∈ bs, v.oneCell' = true) := by show ∀ v ∈ bs, v.oneCell' = true; rw [Hbs.out]; exact curV_one _
  rw [← Hbs.out] at hN
  have hib : (Tryz.prog.info? 60).map (·.size) = some bs.length := by rw [Hbl.out]; kernel_rfl
  obtain ⟨z1, z2, z3⟩ := alloc2 w (jO 168 2 c q lv) (.cells Z64.toArray 60)
  have hA : Chg 0 0 w ((w.alloc (jO 168 2 c q lv)).alloc (.cells Z64.toArray 60)) := (Chg.alloc (Chg.refl 0 0 w) _).alloc _
  have HZ : Hid (_ ∧ _ ∧ _ ∧ _) := ⟨z1, z2, z3, hA⟩
  clear z1 z2 z3 hA hi2 hq4
  go_enter Tryz.func98, Tryz.ntmps98
  go_wp2_with fail
  simp only [Z64_eq]
  generalize ((w.alloc (jO 168 2 c q lv)).alloc (.cells Z64.toArray 60)) = wa at *
  refine (hN wa).mono ?_
  rintro e w2 ⟨rfl, hc2⟩
  have HE : Hid (Enc w (w2.alloc (.cells Z64.toArray 60)) w2.heap.size (jO 168 2 c q lv) Z64) := by
    obtain ⟨z1, z2, z3, hA⟩ := HZ.out
    have s2 := hc2.size
    have hc3 : Chg 0 0 wa (w2.alloc (.cells Z64.toArray 60)) := hc2.alloc _
    exact ⟨(hc3.block _ (by omega) (by omega)).trans z2, (hc3.block _ (by omega) (by omega)).trans z3, heap_new _ _, by omega, hA.trans hc3⟩
  clear hN hc2 HZ
  have hg := HE.out.b2
  rw [← Z64_eq] at hg
  have Hg : Hid (_ = _) := hg
  clear hg
  go_upto_region 2 with (first
    | (refine wpList_store_row rfl 60 (.tmp 3) (.tmp 9) rfl rfl w2.heap.size rfl bs _ 60 rfl Hg.out (by rw [Hbl.out]; rfl) hib HV.out ?_; intro w3 hb3 hc3))
  simp only [Z64_eq] at hc3
  clear Hg
  have HE3 : Hid _ := HE.out.put hc3 hb3
  have hlo := HE3.out.lo
  generalize w2.heap.size = N at *
  clear hb3 hc3 HE
  rw [Hbs.out] at HE3
  clear Hbs Hbl HV hib
  have k7 : w3.cell? ⟨w.heap.size, 7, none⟩ = some (.slice (some ⟨b, off, none⟩) ts.length cap) := by
    have hb := HE3.out.b0
    simp [World.cell?, hb, Hlv.out]
  go_wp2
  go_loopw [13] (fun x wr => ∃ k : Nat, k ≤ ts.length ∧ x = .int .i64 k ∧ Enc w wr N (jO 168 2 c q lv) (curV (headL 2 c q ++ tagsL (ts.take k)))) (fun x _ => ts.length - (intOf x).toNat)
  case atStart => exact ⟨0, Nat.zero_le _, rfl, by rw [List.take_zero]; show Enc _ _ _ _ (curV (_ ++ [])); rw [List.append_nil]; exact HE3.out⟩
  case round =>
    obtain ⟨k, hk, rfl, ho⟩ := hrel
    by_cases hlt : k < ts.length
    · obtain ⟨r1, r2⟩ := H1.out k hlt
      have c1 := ho.ch.cell r1 (by omega)
      have c2 := ho.ch.cell r2 (by omega)
      clear r1 r2
      have hx : ts.getD k (0, false) = ts[k] := by simp [List.getD_eq_getElem?_getD, hlt]
      have hi' : (k : Int) < (ts.length : Int) := by omega
      have hgx := HG.out _ (List.getElem_mem hlt)
      rw [← hx] at hgx
      have h2 := put2_len hgx
      have hxb := hgx.2
      have hkl : (headL 2 c q ++ tagsL (ts.take k)).length = 12 + 3 * k := by rw [List.length_append, HY.out, tagsL_len (fun x hx => HG.out x (List.mem_of_mem_take hx)), List.length_take, Nat.min_eq_left hk]
      have HT0 : Hid (splice (curV (headL 2 c q ++ tagsL (ts.take k))) (12 + 3 * k) ((putN (ts.getD k (0, false)).1 2).map (Value.int .u8)) = curV (headL 2 c q ++ tagsL (ts.take k) ++ putN (ts.getD k (0, false)).1 2)) := by
        show _ = _
        rw [← hkl]
        exact curV_more _ _
      have hk2 : (headL 2 c q ++ tagsL (ts.take k) ++ putN (ts.getD k (0, false)).1 2).length = 12 + 3 * k + 2 := by rw [List.length_append, hkl, h2]
      have HT1 : Hid ((ts.getD k (0, false)).2 = true → (curV (headL 2 c q ++ tagsL (ts.take k) ++ putN (ts.getD k (0, false)).1 2)).set (12 + 3 * k + 2) (.int .u8 1) = curV (headL 2 c q ++ tagsL (ts.take (k + 1)))) := by
        show _ → _
        intro he
        rw [← hk2, curV_set (by rw [hk2]; omega), tagsL_take hlt]
        unfold tagL
        rw [if_pos he, ← List.append_assoc, ← List.append_assoc]
      have HT2 : Hid ((ts.getD k (0, false)).2 = false → curV (headL 2 c q ++ tagsL (ts.take k) ++ putN (ts.getD k (0, false)).1 2) = curV (headL 2 c q ++ tagsL (ts.take (k + 1)))) := by
        show _ → _
        intro he
        rw [curV_zero (by rw [hk2]; omega), tagsL_take hlt]
        unfold tagL
        rw [if_neg (by rw [he]; simp), ← List.append_assoc, ← List.append_assoc]
      have HL : Hid ((curV (headL 2 c q ++ tagsL (ts.take k))).length = 64) := curV_length (by rw [hkl]; omega)
      have HL2 : Hid ((curV (headL 2 c q ++ tagsL (ts.take k) ++ putN (ts.getD k (0, false)).1 2)).length = 64) := curV_length (by rw [hk2]; omega)
      have H2 : Hid _ := h2
      have HO : Hid _ := ho
      generalize curV (headL 2 c q ++ tagsL (ts.take k)) = cur at *
      generalize curV (headL 2 c q ++ tagsL (ts.take k) ++ putN (ts.getD k (0, false)).1 2) = cur2 at *
      clear hx hgx h2 hkl hk2 ho k7
      generalize (ts.getD k (0, false)).1 = x at *
      generalize (ts.getD k (0, false)).2 = ee at *
      have q1 : (0 : Int) ≤ 12 + (k : Int) * 3 := by omega
      have q2 : 12 + (k : Int) * 3 ≤ 64 := by omega
      have q3 : (12 + (k : Int) * 3).toNat = 12 + 3 * k := by omega
      have q5 : ¬ (64 : Nat) = 12 + 3 * k := by omega
      have q4 : IntKind.i64.wrap ((k : Int) * 3) = (k : Int) * 3 := by rw [IntKind.wrap_i64]; omega
      have q6 : IntKind.i64.wrap (12 + (k : Int) * 3) = 12 + (k : Int) * 3 := by rw [IntKind.wrap_i64]; omega
      have HO0 : Hid (Enc w (wr.alloc (.cells #[.int .i64 x, .bool ee] 130)) N (jO 168 2 c q lv) cur) := HO.out.chg (Chg.alloc (Chg.refl 0 0 wr) _)
      have Hd0 : Hid ((wr.alloc (.cells #[.int .i64 x, .bool ee] 130)).heap[wr.heap.size]? = some (.cells #[.int .i64 x, .bool ee] 130 (0, 0))) := heap_new _ _
      have hNlt := HO.out.lt
      clear HO
      go_upto_region 6 with fail
      generalize wr.alloc (.cells #[.int .i64 x, .bool ee] 130) = wa at *
      obtain ⟨d0, d1, _, _⟩ := two_cells Hd0.out
      have hdl := (Array.getElem?_eq_some_iff.1 Hd0.out).1
      have hN := implPut_calls wa x 2 (by omega)
      clear c1 c2
      go_wp2_with fail
      refine hN.mono ?_
      rintro e x2 ⟨r, rfl, o2, c2⟩
      have HO2 : Hid _ := HO0.out.chg c2
      have d1' := c2.cell d1 (by omega)
      obtain ⟨g, gc, rfl, hcell⟩ := o2.two H2.out (by omega) (by omega)
      have Hcell : Hid _ := hcell
      clear hN o2 c2 hcell HO0 Hd0 d0 d1
      go_wp2_with (refine wpList_copy_row rfl (.tmp 22) (.tmp 25) 45 45 rfl 5 Tryz.underlying45 (by kernel_rfl) N (12 + 3 * k) (64 - (12 + 3 * k)) (64 - (12 + 3 * k)) ⟨g, 0, none⟩ 2 gc rfl rfl cur 60 HO2.out.b2 ((putN x 2).map (Value.int .u8)) (by rw [List.length_map, H2.out]; exact (Nat.min_eq_left (by omega)).symm) Hcell.out (by rw [List.length_map, H2.out, HL.out]; omega) (ints_oneCell _ _) ?_)
      intro x3 hb3 hc3
      have HO3 : Hid (Enc w x3 N (jO 168 2 c q lv) cur2) := by show Enc _ _ _ _ _; rw [← HT0.out]; exact HO2.out.put hc3 hb3.out
      have d1 := hc3.cell d1' (by omega)
      clear hb3 hc3 Hcell HO2 d1'
      cases ee with
      | true =>
        have hb2 := HO3.out.b2
        have HSt : Hid (cur2.set (12 + 3 * k + 2) (.int .u8 1) = curV (headL 2 c q ++ tagsL (ts.take (k + 1)))) := HT1.out rfl
        obtain ⟨cv, hcv⟩ : ∃ cv, cur2[12 + 3 * k + 2]? = some cv := ⟨_, List.getElem?_eq_getElem (by rw [HL2.out]; omega)⟩
        have ce := ArrC.cell (w := x3) (b := N) (T := 60) (cs := cur2) hb2 (12 + 3 * k + 2) hcv
        have cf := ArrC.frozen (w := x3) (b := N) (T := 60) (cs := cur2) hb2 (12 + 3 * k + 2)
        have hlen : (2 : Int) < ((64 - (12 + 3 * k) : Nat) : Int) := by omega
        have HO4 : Hid (Enc w (x3.setCell ⟨N, 12 + 3 * k + 2, none⟩ (.int .u8 1)) N (jO 168 2 c q lv) (curV (headL 2 c q ++ tagsL (ts.take (k + 1))))) := by
          show Enc _ _ _ _ _
          rw [← HSt.out]
          exact HO3.out.put (Chg.setCell (Chg.refl _ _ x3) (p := ⟨N, 12 + 3 * k + 2, none⟩) (Or.inl ⟨Nat.le_refl _, Nat.lt_succ_self _⟩) _) (ArrC.put (w := x3) (b := N) (T := 60) (cs := cur2) hb2 (12 + 3 * k + 2) (.int .u8 1))
        clear hb2 hcv
        go_wp2
        go_roundw
        case rel => exact ⟨k + 1, by omega, by go_num, HO4.out⟩
        case measure => simp [intOf]; omega
      | false =>
        have HO4 : Hid (Enc w x3 N (jO 168 2 c q lv) (curV (headL 2 c q ++ tagsL (ts.take (k + 1))))) := by
          show Enc _ _ _ _ _
          rw [← HT2.out rfl]; exact HO3.out
        go_wp2
        go_roundw
        case rel => exact ⟨k + 1, by omega, by go_num, HO4.out⟩
        case measure => simp [intOf]; omega
    · obtain rfl : k = ts.length := by omega
      rw [List.take_length] at ho
      have hcl := curV_length (Y := headL 2 c q ++ tagsL ts) (by rw [List.length_append, HY.out, tagsL_len HG.out]; omega)
      obtain ⟨cs, hcs⟩ : ∃ cs, cs = curV (headL 2 c q ++ tagsL ts) := ⟨_, rfl⟩
      rw [← hcs] at ho hcl
      have HBm : Hid _ := ho
      generalize wr = wf at *
      clear ho HE3 k7
      have HV2 : Hid (∀ v ∈ cs, v.oneCell' = true) := by show ∀ v ∈ cs, v.oneCell' = true; rw [hcs]; exact curV_one _
      have hics : (Tryz.prog.info? 60).map (·.size) = some cs.length := by rw [hcl]; kernel_rfl
      have Hcl : Hid _ := hcl
      have Hcs : Hid _ := hcs
      have u44 := Tryz.underlying60
      have HR : Hid _ := row_rng HBm.out.b2
      have HB1 : Hid _ := HBm.out.b1
      clear hcl hcs
      go_wp2_with (first
        | (refine wpList_load_mid rfl 60 (.tmp 3) rfl N 0 rfl cs _ HR.out u44 rfl hics ?_)
        | (refine wpList_store_row rfl 60 (.tmp 2) (.tmp 32) rfl rfl (w.heap.size + 1) rfl cs Z64 60 rfl HB1.out (by rw [Z64_length]; exact Hcl.out) hics HV2.out ?_; intro wg hbg hcg))
      have HCg : Hid _ := HBm.out.ch.step hcg (by omega)
      have hl1 : (loadVar 60 ⟨w.heap.size + 1, 0, none⟩).run Tryz.prog wg = .ok (.agg cs.toArray) wg := run_loadVar_mid _ _ _ _ cs _ (row_rng hbg) u44 rfl hics
      go_wp2
      exact bodyPost_ret (v := .agg cs.toArray) (results_one Tryz.results98 rfl hl1) rfl ⟨by rw [Hcs.out]; rfl, HCg.out⟩

end Go.Proofs.YtahjaejepkgfdaaGreatDoor
