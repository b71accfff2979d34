/- readEntry of the program. -/
import Derived.Test.YtilnlphkkbflaaaDirEnc
import Derived.Test.YtilnlphkkbflaaaArrEq
namespace Go.Proofs.Ytilnlphkkbflaaa
open Go.RowKit

/-- How many bytes of a name are read. -/
def lenN (xs : List Int) : Nat := min (xs.getD 2 0).toNat 13
def eT (xs : List Int) : ByteArray := strOfNums ((xs.drop 3).take (lenN xs))
theorem eT_size {xs : List Int} (h : xs.length = 16) : (eT xs).size = lenN xs := by
  unfold eT
  rw [strOfNums_size, List.length_take, List.length_drop]
  unfold lenN
  omega
theorem ent_same {xs : List Int} (h : xs.length = 16) (hB : Byt xs) : entG xs = (entB (eQ xs) (eT xs) && decide (entL (eQ xs) (eT xs) = xs)) := by
  unfold entG
  rw [decide_eq_true h, Bool.true_and]
  have hg := hB.getD 2
  by_cases h13 : xs.getD 2 0 ≤ 13
  · have e : eS xs = eT xs := by
      unfold eS eT lenN
      rw [Nat.min_eq_left (by omega)]
    rw [decide_eq_true h13, Bool.true_and, e]
    unfold encEnt
    cases entB (eQ xs) (eT xs) with
    | true => rw [if_pos rfl]; rfl
    | false =>
      rw [if_neg (by simp), Bool.false_and]
      exact decide_eq_false (fun h' => by rw [← h'] at h; cases h)
  · rw [decide_eq_false h13, Bool.false_and]
    symm
    rw [Bool.and_eq_false_iff]
    cases hb : entB (eQ xs) (eT xs) with
    | false => exact Or.inl rfl
    | true =>
      refine Or.inr (decide_eq_false (fun h' => ?_))
      obtain ⟨g1, g2, g3, g4⟩ := ent_good hb
      have h2 := put2_q ⟨g1, g2⟩
      have hsz := eT_size h
      have : (entL (eQ xs) (eT xs)).getD 2 0 = ((eT xs).size : Int) := by
        unfold entL
        rw [List.getD_eq_getElem?_getD, List.getElem?_append_left (by simp [h2]), List.getElem?_append_left (by simp [h2]), List.getElem?_append_right (by omega), h2]
        rfl
      rw [h', hsz] at this
      unfold lenN at this
      omega

/-- A text's bytes, in a row. -/
theorem row_str {w : World} {b o n : Nat} {T : TypeId} {xs : List Int} (h : ArrC w b T (xs.map (Value.int .u8))) (hl : xs.length ≤ 1048576) (hon : o + n ≤ xs.length) (cap : Nat) (hc : n ≤ cap) :
    (convert 22 9 (.slice (some ⟨b, o, none⟩) n cap)).run Try.prog w = .ok (.string (strOfNums ((xs.drop o).take n))) w :=
  (row_view h o n cap hon hl hc).str

set_option maxRecDepth 20000 in
set_option maxHeartbeats 4000000 in
theorem readEntry_calls (w : World) (xs : List Int) (h16 : xs.length = 16) (hB : Byt xs) :
    Calls Try.prog 23 #[.agg (xs.map (Value.int .u8)).toArray] w fun e w' => e = .returned (if entG xs = true then .tuple #[.agg (entA (eQ xs) (eT xs)), .bool true] else .tuple #[.agg (entA 0 ⟨#[]⟩), .bool false]) ∧ Chg 0 0 w w' := by
  have u37 := Try.underlying55
  obtain ⟨vr, hvr⟩ : ∃ vr, vr = (if entG xs = true then Value.tuple #[.agg (entA (eQ xs) (eT xs)), .bool true] else .tuple #[.agg (entA 0 ⟨#[]⟩), .bool false]) := ⟨_, rfl⟩
  rw [← hvr]
  rw [ent_same h16 hB] at hvr
  have Hvr : Hid (vr = (if (entB (eQ xs) (eT xs) && decide (entL (eQ xs) (eT xs) = xs)) = true then Value.tuple #[.agg (entA (eQ xs) (eT xs)), .bool true] else .tuple #[.agg (entA 0 ⟨#[]⟩), .bool false])) := hvr
  obtain ⟨n, hn⟩ : ∃ n : Nat, xs.getD 2 0 = (n : Int) := ⟨(xs.getD 2 0).toNat, by have := (hB.getD 2).1; omega⟩
  have hnb : n < 256 := by have := (hB.getD 2).2; omega
  obtain ⟨m, hm⟩ : ∃ m, lenN xs = m := ⟨_, rfl⟩
  have hmn : m = min n 13 := by rw [← hm]; unfold lenN; rw [hn]; rfl
  have hm13 : m ≤ 13 := by omega
  have HT : Hid (eT xs = strOfNums ((xs.drop 3).take m)) := by show _ = _; unfold eT; rw [hm]
  obtain ⟨cs, hcs⟩ : ∃ cs, cs = xs.map (Value.int .u8) := ⟨_, rfl⟩
  rw [← hcs]
  have Hcs : Hid (cs = xs.map (Value.int .u8)) := hcs
  have hcl : cs.length = 16 := by rw [hcs, List.length_map]; exact h16
  have hics : (Try.prog.info? 55).map (·.size) = some cs.length := by rw [hcl]; exact Try.sizeERec
  have hc2 : cs[2]? = some (.int .u8 (n : Int)) := by rw [hcs, ← hn]; simp [List.getD_eq_getElem?_getD, show 2 < xs.length by omega]
  obtain ⟨z0, z1, z2⟩ := alloc2 w (.cells cs.toArray 55) (.cells #[.int .i64 0, .string ⟨#[]⟩] 34)
  have HC0 : Hid (Chg 0 0 w ((w.alloc (.cells cs.toArray 55)).alloc (.cells #[.int .i64 0, .string ⟨#[]⟩] 34))) := (Chg.alloc (Chg.refl 0 0 w) _).alloc _
  have HA0 : Hid (ArrC ((w.alloc (.cells cs.toArray 55)).alloc (.cells #[.int .i64 0, .string ⟨#[]⟩] 34)) w.heap.size 55 cs) := z1
  have HZ0 : Hid (((w.alloc (.cells cs.toArray 55)).alloc (.cells #[.int .i64 0, .string ⟨#[]⟩] 34)).heap[w.heap.size + 1]? = some (.cells #[.int .i64 0, .string ⟨#[]⟩] 34 (0, 0))) := z2
  have Hsz : Hid (((w.alloc (.cells cs.toArray 55)).alloc (.cells #[.int .i64 0, .string ⟨#[]⟩] 34)).heap.size = w.heap.size + 2) := z0
  have p2 := HA0.out.cell 2 hc2
  have H16 : Hid (xs.length = 16) := h16
  have HBy : Hid (Byt xs) := hB
  have HG : Hid (∀ W, ArrC W w.heap.size 55 cs → Calls Try.prog 33 #[.slice (some ⟨w.heap.size, 0, none⟩) 2 16] W fun e w' => e = .returned (.int .i64 (eQ xs)) ∧ Same W w') := fun W h => by
    have h' : ArrC W w.heap.size 55 (xs.map (Value.int .u8)) := by rw [← hcs]; exact h
    have hv := row_view h' 0 2 16 (by omega) (by omega) (by omega)
    rw [List.drop_zero] at hv
    exact implGet_calls W (hB.take 2) hv
  have HStr : Hid (∀ W, ArrC W w.heap.size 55 cs → (convert 22 9 (.slice (some ⟨w.heap.size, 3, none⟩) m 13)).run Try.prog W = .ok (.string (eT xs)) W) := fun W h => by
    have h' : ArrC W w.heap.size 55 (xs.map (Value.int .u8)) := by rw [← hcs]; exact h
    rw [HT.out]
    exact row_str h' (by omega) (by omega) 13 hm13
  have w1 : IntKind.i64.wrap (n : Int) = (n : Int) := wrap_i (by omega) (by omega)
  have w2 : IntKind.i64.wrap (3 + (m : Int)) = 3 + (m : Int) := wrap_i (by omega) (by omega)
  have q0 : (0 : Int) ≤ 3 + (m : Int) := by omega
  have q1 : (3 : Int) ≤ max (3 + (m : Int)) 0 := by omega
  have q2 : (3 + (m : Int)).toNat - 3 = m := by omega
  have q3 : 3 + (m : Int) ≤ 16 := by omega
  have q4 : (3 : Int) ≤ 3 + (m : Int) := by omega
  clear hvr hm hcs hcl z0 z1 z2 hB h16 hn HT
  go_enter Try.func23, Try.ntmps23
  go_upto_region 1 with fail
  generalize ((w.alloc (.cells cs.toArray 55)).alloc (.cells #[.int .i64 0, .string ⟨#[]⟩] 34)) = w0 at *
  go_cut [4, 6, 7, 8, 9] (fun s4 _ _ _ _ wx => wx = w0 ∧ s4 = .int .i64 (m : Int))
  case first =>
    by_cases h13 : n ≤ 13
    · obtain rfl : m = n := by omega
      clear hmn
      have e1 : (m : Int) ≤ 13 := by omega
      go_wp2
      go_meet
      first | exact ⟨rfl, rfl⟩ | (refine ⟨rfl, ?_⟩; congr 1; omega)
    · obtain rfl : m = 13 := by omega
      clear hmn w2 q0 q1 q2 q3 q4 hm13
      have e1 : ¬ (n : Int) ≤ 13 := by omega
      go_wp2
      go_meet
      first | exact ⟨rfl, rfl⟩ | (refine ⟨rfl, ?_⟩; congr 1; omega)
  case rest =>
    obtain ⟨rfl, rfl⟩ := hcut
    clear hc2 p2 w1 hnb hmn
    generalize wc = wv at *
    go_upto_region 2 with fail
    go_cut [5] (fun s5 wx => s5 = .pointer (some ⟨w.heap.size + 2, 0, none⟩) ∧ Chg 0 0 wv wx ∧ w.heap.size + 2 < wx.heap.size ∧ wx.heap[w.heap.size + 2]? = some (.cells (entA (eQ xs) (eT xs)) 34 (0, 0)))
    case first =>
      generalize eQ xs = qq at *
      generalize eT xs = ss at *
      have HS : Hid ((fun w' : World => ArrC w' w.heap.size 55 cs) wv.drew) := ArrC.chg HA0.out (Chg.drew (Chg.refl 0 0 wv)) (by omega)
      have S0 : Same wv wv.drew := (Same.refl wv).drew
      refine held_region (fun w' : World => ArrC w' w.heap.size 55 cs) (by kernel_rfl) ?_
      generalize wv.drew = wd at *
      refine held_take 0 (.slice (some ⟨w.heap.size, 0, none⟩) 2 16) rfl (by kernel_rfl) (by kernel_rfl) (by kernel_rfl) (fun _ _ _ h => h) (.inl ⟨by kernel_rfl, fun w' hw' => by go_simp⟩) HS.out ?_
      go_simp
      refine held_take 2 (.int .i64 (m : Int)) rfl (by kernel_rfl) (by kernel_rfl) (by kernel_rfl) (fun _ _ _ h => h) (.inl ⟨by kernel_rfl, fun w' hw' => by go_simp⟩) HS.out ?_
      go_simp
      refine held_take 3 (.int .i64 (3 + (m : Int))) rfl (by kernel_rfl) (by kernel_rfl) (by kernel_rfl) (fun _ _ _ h => h) (.inl ⟨by kernel_rfl, fun w' hw' => by go_simp⟩) HS.out ?_
      go_simp
      refine held_take 4 (.slice (some ⟨w.heap.size, 3, none⟩) m 13) rfl (by kernel_rfl) (by kernel_rfl) (by kernel_rfl) (fun _ _ _ h => h) (.inl ⟨by kernel_rfl, fun w' hw' => by go_simp⟩) HS.out ?_
      go_simp
      refine held_take 5 (.string ss) rfl (by kernel_rfl) (by kernel_rfl) (by kernel_rfl) (fun _ _ _ h => h) (.inl ⟨by kernel_rfl, fun w' hw' => by have h5 := HStr.out _ hw'; go_simp⟩) HS.out ?_
      go_simp
      refine held_two 1 7 rfl rfl rfl rfl (by kernel_rfl) ?_ ?_
      · refine wp_enter 33 #[.slice (some ⟨w.heap.size, 0, none⟩) 2 16] (by first | kernel_rfl | go_simp) (HG.out wd HS.out) ?_
        rintro e wa ⟨rfl, twa⟩
        have HSwa : Hid ((fun w' : World => ArrC w' w.heap.size 55 cs) wa) := ArrC.chg HS.out (twa.chg 0 0) (by omega)
        refine ⟨_, rfl, HSwa.out, ?_⟩
        go_simp
        refine held_take 6 (.agg #[.int .i64 qq, .string ss]) rfl (by kernel_rfl) (by kernel_rfl) (by kernel_rfl) (fun _ _ _ h => h) (.inl ⟨by kernel_rfl, fun w' hw' => by go_simp⟩) HSwa.out ?_
        go_simp
        have Fa : Same wv wa := S0.trans twa
        refine held_one 7 rfl rfl (by kernel_rfl) ?_
        have Gwb : EntMade wv (wa.alloc (.cells #[.int .i64 0, .string ⟨#[]⟩] 34)) := ent_alloc Fa
        have HSwb : Hid ((fun w' : World => ArrC w' w.heap.size 55 cs) (wa.alloc (.cells #[.int .i64 0, .string ⟨#[]⟩] 34))) := ArrC.chg HSwa.out (Chg.alloc (Chg.refl 0 0 wa) _) (by omega)
        have ewb : wa.heap.size = w.heap.size + 2 := by rw [Fa.heap]; exact Hsz.out
        go_simp
        clear ewb
        generalize wa.alloc (.cells #[.int .i64 0, .string ⟨#[]⟩] 34) = wb at *
        refine ⟨HSwb.out, ?_⟩
        refine held_one 8 rfl rfl (by kernel_rfl) ?_
        refine wp_store_row 34 (.tmp 5) (.tmp 16) rfl rfl (w.heap.size + 2) rfl [.int .i64 qq, .string ss] [.int .i64 0, .string ⟨#[]⟩] 34 rfl (by rw [← Hsz.out]; exact Gwb.2.2) rfl (by kernel_rfl) (by simp [Value.oneCell']) ?_
        intro wy hy cy
        have HSy : Hid ((fun w' : World => ArrC w' w.heap.size 55 cs) wy) := ArrC.chg HSwb.out cy (by omega)
        have HR : Hid (Chg 0 0 wv wy ∧ w.heap.size + 2 < wy.heap.size ∧ wy.heap[w.heap.size + 2]? = some (.cells (entA qq ss) 34 (0, 0))) := ⟨Gwb.1.step cy (by have := Hsz.out; omega), by have := cy.size; have := Gwb.2.1; have := Hsz.out; omega, hy⟩
        clear hy cy
        refine ⟨HSy.out, held_done (by kernel_rfl) (NoPanic.normal ?_)⟩
        go_wp2
        go_meet
        exact ⟨rfl, HR.out⟩
      · have Gwa : EntMade wv (wd.alloc (.cells #[.int .i64 0, .string ⟨#[]⟩] 34)) := ent_alloc S0
        have HSwa : Hid ((fun w' : World => ArrC w' w.heap.size 55 cs) (wd.alloc (.cells #[.int .i64 0, .string ⟨#[]⟩] 34))) := ArrC.chg HS.out (Chg.alloc (Chg.refl 0 0 wd) _) (by omega)
        have ewa : wd.heap.size = w.heap.size + 2 := by rw [S0.heap]; exact Hsz.out
        go_simp
        clear ewa
        generalize wd.alloc (.cells #[.int .i64 0, .string ⟨#[]⟩] 34) = wa at *
        refine ⟨HSwa.out, ?_⟩
        refine held_one 1 rfl rfl (by kernel_rfl) ?_
        refine wp_enter 33 #[.slice (some ⟨w.heap.size, 0, none⟩) 2 16] (by first | kernel_rfl | go_simp) (HG.out wa HSwa.out) ?_
        rintro e wb ⟨rfl, twb⟩
        have HSwb : Hid ((fun w' : World => ArrC w' w.heap.size 55 cs) wb) := ArrC.chg HSwa.out (twb.chg 0 0) (by omega)
        refine ⟨_, rfl, HSwb.out, ?_⟩
        go_simp
        refine held_take 6 (.agg #[.int .i64 qq, .string ss]) rfl (by kernel_rfl) (by kernel_rfl) (by kernel_rfl) (fun _ _ _ h => h) (.inl ⟨by kernel_rfl, fun w' hw' => by go_simp⟩) HSwb.out ?_
        go_simp
        have Gwb : EntMade wv wb := ⟨Gwa.1.trans (twb.chg 0 0), by rw [twb.heap]; exact Gwa.2.1, by rw [twb.heap]; exact Gwa.2.2⟩
        refine held_one 8 rfl rfl (by kernel_rfl) ?_
        refine wp_store_row 34 (.tmp 5) (.tmp 16) rfl rfl (w.heap.size + 2) rfl [.int .i64 qq, .string ss] [.int .i64 0, .string ⟨#[]⟩] 34 rfl (by rw [← Hsz.out]; exact Gwb.2.2) rfl (by kernel_rfl) (by simp [Value.oneCell']) ?_
        intro wy hy cy
        have HSy : Hid ((fun w' : World => ArrC w' w.heap.size 55 cs) wy) := ArrC.chg HSwb.out cy (by omega)
        have HR : Hid (Chg 0 0 wv wy ∧ w.heap.size + 2 < wy.heap.size ∧ wy.heap[w.heap.size + 2]? = some (.cells (entA qq ss) 34 (0, 0))) := ⟨Gwb.1.step cy (by have := Hsz.out; omega), by have := cy.size; have := Gwb.2.1; have := Hsz.out; omega, hy⟩
        clear hy cy
        refine ⟨HSy.out, held_done (by kernel_rfl) (NoPanic.normal ?_)⟩
        go_wp2
        go_meet
        exact ⟨rfl, HR.out⟩
    case rest =>
      obtain ⟨rfl, hcx, hsx, hbx⟩ := hcut
      generalize wc = wf at *
      have HA1 : Hid (ArrC wf w.heap.size 55 cs) := HA0.out.chg hcx (by omega)
      have HZ1 : Hid (wf.heap[w.heap.size + 1]? = some (.cells #[.int .i64 0, .string ⟨#[]⟩] 34 (0, 0))) := (hcx.block _ (Array.getElem?_eq_some_iff.1 HZ0.out).1 (by omega)).trans HZ0.out
      have HC1 : Hid (Chg 0 0 w wf) := HC0.out.trans hcx
      have HE1 : Hid (wf.heap[w.heap.size + 2]? = some (.cells (entA (eQ xs) (eT xs)) 34 (0, 0))) := hbx
      have HsT : Hid ((eT xs).size ≤ 13) := by
        show _ ≤ _
        rw [eT_size H16.out]; unfold lenN; omega
      clear hcx hbx HA0 HZ0 HC0 HG HStr w2 q0 q1 q2 q3 q4 Hsz hsx
      generalize eQ xs = qq at *
      generalize eT xs = ss at *
      go_upto_region 3 with fail
      have HS : Hid ((fun w' : World => ArrC w' w.heap.size 55 cs ∧ w'.heap[w.heap.size + 2]? = some (.cells (entA qq ss) 34 (0, 0))) wf.drew) := ⟨ArrC.chg HA1.out (Chg.drew (Chg.refl 0 0 wf)) (by omega), HE1.out⟩
      have HC : Hid (Chg 0 0 w wf.drew) := HC1.out.drew
      have HZ : Hid (wf.drew.heap[w.heap.size + 1]? = some (.cells #[.int .i64 0, .string ⟨#[]⟩] 34 (0, 0))) := HZ1.out
      clear HA1 HE1 HC1 HZ1
      refine held_region (fun w' : World => ArrC w' w.heap.size 55 cs ∧ w'.heap[w.heap.size + 2]? = some (.cells (entA qq ss) 34 (0, 0))) (by kernel_rfl) ?_
      generalize wf.drew = x1 at *
      refine held_take 0 (.agg #[.int .i64 qq, .string ss]) rfl (by kernel_rfl) (by kernel_rfl) (by kernel_rfl) (fun _ _ _ h => h) (.inl ⟨by kernel_rfl, fun w' hw' => by obtain ⟨p0, p1⟩ := ent_cells hw'.2; go_simp⟩) HS.out ?_
      go_simp
      refine held_one 1 rfl rfl (by kernel_rfl) ?_
      refine wp_enter 34 #[.agg #[.int .i64 qq, .string ss]] (by first | kernel_rfl | go_simp) (isValidE_calls x1 qq ss) ?_
      rintro e x2 ⟨rfl, c2⟩
      have HS2 : Hid ((fun w' : World => ArrC w' w.heap.size 55 cs ∧ w'.heap[w.heap.size + 2]? = some (.cells (entA qq ss) 34 (0, 0))) x2) := ⟨HS.out.1.chg c2 (by omega), (c2.block _ (Array.getElem?_eq_some_iff.1 HS.out.2).1 (by omega)).trans HS.out.2⟩
      have HC2 : Hid (Chg 0 0 w x2) := HC.out.trans c2
      have HZ2 : Hid (x2.heap[w.heap.size + 1]? = some (.cells #[.int .i64 0, .string ⟨#[]⟩] 34 (0, 0))) := (c2.block _ (Array.getElem?_eq_some_iff.1 HZ.out).1 (by omega)).trans HZ.out
      refine ⟨_, rfl, HS2.out, ?_⟩
      clear c2 HS HC HZ
      go_simp
      have HS := HS2
      have HC := HC2
      have HZ := HZ2
      clear HS2 HC2 HZ2
      cases hb : entB qq ss with
      | false =>
        have Hv : Hid (vr = .tuple #[.agg (entA 0 ⟨#[]⟩), .bool false]) := by show _ = _; rw [Hvr.out, hb]; rfl
        clear hb
        refine held_take 2 (.bool true) rfl (by kernel_rfl) (by kernel_rfl) (by kernel_rfl) (fun _ _ _ h => h) (.inl ⟨by kernel_rfl, fun w' hw' => by go_simp⟩) HS.out ?_
        go_simp
        refine held_take 3 (.bool true) rfl (by kernel_rfl) (by kernel_rfl) (by kernel_rfl) (fun _ _ _ h => h) (.inl ⟨by kernel_rfl, fun w' hw' => by go_simp⟩) HS.out ?_
        go_simp
        refine held_take 4 undef rfl (by kernel_rfl) (by kernel_rfl) (by kernel_rfl) (fun _ _ _ h => h) (.inr ⟨by kernel_rfl, rfl⟩) HS.out ?_
        go_simp
        refine held_take 6 undef rfl (by kernel_rfl) (by kernel_rfl) (by kernel_rfl) (fun _ _ _ h => h) (.inr ⟨by kernel_rfl, rfl⟩) HS.out ?_
        go_simp
        refine held_take 5 undef rfl (by kernel_rfl) (by kernel_rfl) (by kernel_rfl) (fun _ _ _ h => h) (.inr ⟨by kernel_rfl, rfl⟩) HS.out ?_
        go_simp
        refine held_take 7 undef rfl (by kernel_rfl) (by kernel_rfl) (by kernel_rfl) (fun _ _ _ h => h) (.inr ⟨by kernel_rfl, rfl⟩) HS.out ?_
        go_simp
        refine held_take 8 (.bool true) rfl (by kernel_rfl) (by kernel_rfl) (by kernel_rfl) (fun _ _ _ h => h) (.inl ⟨by kernel_rfl, fun w' hw' => by go_simp⟩) HS.out ?_
        go_simp
        refine held_done (by kernel_rfl) (NoPanic.normal ?_)
        have hb1 := HZ.out
        have k0 : x2.cell? ⟨w.heap.size + 1, 0, none⟩ = some (.int .i64 0) := by simp [World.cell?, hb1]
        have k1 : x2.cell? ⟨w.heap.size + 1, 1, none⟩ = some (.string ⟨#[]⟩) := by simp [World.cell?, hb1]
        have f0 : x2.frozen? ⟨w.heap.size + 1, 0, none⟩ = false := by simp [World.frozen?, hb1]
        have f1 : x2.frozen? ⟨w.heap.size + 1, 1, none⟩ = false := by simp [World.frozen?, hb1]
        clear hb1
        go_wp2
        exact bodyPost_ret (v := .tuple #[.agg (entA 0 ⟨#[]⟩), .bool false]) (by simp [results, Try.results23, go_sem, *]) rfl ⟨by rw [Hv.out], by first | exact HC.out | (refine Chg.setCell (Chg.setCell HC.out ?_ _) ?_ _ <;> exact Or.inr (Nat.le_succ _))⟩
      | true =>
        obtain ⟨g1, g2, g3, g4⟩ := ent_good hb
        have hNe := fun x => encE_calls x qq ss ⟨g1, g2⟩ g4
        have hel := entL_len hb
        have heb : Byt (entL qq ss) := fun y hy => encEnt_byt qq ss y (by unfold encEnt; rw [if_pos hb]; exact hy)
        have hEq := fun W => equal_bytes W 55 16 Try.underlying55 (xs := entL qq ss) (ys := xs) heb HBy.out hel H16.out
        rw [← Hcs.out] at hEq
        have hre : (entL qq ss).map (Value.int .u8) = recE qq ss := rfl
        rw [hre] at hEq
        have Hv : Hid (vr = if decide (entL qq ss = xs) = true then Value.tuple #[.agg (entA qq ss), .bool true] else .tuple #[.agg (entA 0 ⟨#[]⟩), .bool false]) := by show _ = _; rw [Hvr.out, hb, Bool.true_and]
        generalize decide (entL qq ss = xs) = D at *
        have HEq : Hid (∀ W : World, (Op.equalIn 10000 55 (.agg (recE qq ss).toArray) (.agg cs.toArray)).run Try.prog W = .ok D W) := hEq
        generalize recE qq ss = rs at *
        clear hb g1 g2 g3 g4 hel heb hEq hre
        refine held_take 2 (.bool false) rfl (by kernel_rfl) (by kernel_rfl) (by kernel_rfl) (fun _ _ _ h => h) (.inl ⟨by kernel_rfl, fun w' hw' => by go_simp⟩) HS.out ?_
        go_simp
        refine held_take 3 (.bool false) rfl (by kernel_rfl) (by kernel_rfl) (by kernel_rfl) (fun _ _ _ h => h) (.inl ⟨by kernel_rfl, fun w' hw' => by go_simp⟩) HS.out ?_
        go_simp
        refine held_take 4 (.agg #[.int .i64 qq, .string ss]) rfl (by kernel_rfl) (by kernel_rfl) (by kernel_rfl) (fun _ _ _ h => h) (.inl ⟨by kernel_rfl, fun w' hw' => by obtain ⟨p0, p1⟩ := ent_cells hw'.2; go_simp⟩) HS.out ?_
        go_simp
        refine held_take 6 (.agg cs.toArray) rfl (by kernel_rfl) (by kernel_rfl) (by kernel_rfl) (fun _ _ _ h => h) (yieldsIf_load_mid (by kernel_rfl) 55 (.tmp 1) rfl w.heap.size 0 rfl cs _ (fun w' hw' => ArrC.range hw'.1) u37 rfl hics) HS.out ?_
        go_simp
        refine held_oneG 5 rfl (by kernel_rfl) (by kernel_rfl) ?_
        refine wp_enter 35 #[.agg #[.int .i64 qq, .string ss]] (by first | kernel_rfl | go_simp) (hNe x2) ?_
        rintro e x3 ⟨rfl, c3⟩
        have HS3 : Hid ((fun w' : World => ArrC w' w.heap.size 55 cs ∧ w'.heap[w.heap.size + 2]? = some (.cells (entA qq ss) 34 (0, 0))) x3) := ⟨HS.out.1.chg c3 (by omega), (c3.block _ (Array.getElem?_eq_some_iff.1 HS.out.2).1 (by omega)).trans HS.out.2⟩
        have HC3 : Hid (Chg 0 0 w x3) := HC.out.trans c3
        have HZ3 : Hid (x3.heap[w.heap.size + 1]? = some (.cells #[.int .i64 0, .string ⟨#[]⟩] 34 (0, 0))) := (c3.block _ (Array.getElem?_eq_some_iff.1 HZ.out).1 (by omega)).trans HZ.out
        refine ⟨_, rfl, HS3.out, ?_⟩
        clear c3 HS HC HZ hNe
        have HS := HS3
        have HC := HC3
        have HZ := HZ3
        clear HS3 HC3 HZ3
        go_simp
        refine held_take 7 (.bool (!D)) rfl (by kernel_rfl) (by kernel_rfl) (by kernel_rfl) (fun _ _ _ h => h) (.inl ⟨by kernel_rfl, fun w' hw' => by have he := HEq.out w'; go_simp⟩) HS.out ?_
        go_simp
        cases D with
        | false =>
          refine held_take 8 (.bool true) rfl (by kernel_rfl) (by kernel_rfl) (by kernel_rfl) (fun _ _ _ h => h) (.inl ⟨by kernel_rfl, fun w' hw' => by go_simp⟩) HS.out ?_
          go_simp
          refine held_done (by kernel_rfl) (NoPanic.normal ?_)
          have hb1 := HZ.out
          have k0 : x3.cell? ⟨w.heap.size + 1, 0, none⟩ = some (.int .i64 0) := by simp [World.cell?, hb1]
          have k1 : x3.cell? ⟨w.heap.size + 1, 1, none⟩ = some (.string ⟨#[]⟩) := by simp [World.cell?, hb1]
          have f0 : x3.frozen? ⟨w.heap.size + 1, 0, none⟩ = false := by simp [World.frozen?, hb1]
          have f1 : x3.frozen? ⟨w.heap.size + 1, 1, none⟩ = false := by simp [World.frozen?, hb1]
          clear hb1
          go_wp2
          exact bodyPost_ret (v := .tuple #[.agg (entA 0 ⟨#[]⟩), .bool false]) (by simp [results, Try.results23, go_sem, *]) rfl ⟨by rw [Hv.out]; rfl, by first | exact HC.out | (refine Chg.setCell (Chg.setCell HC.out ?_ _) ?_ _ <;> exact Or.inr (Nat.le_succ _))⟩
        | true =>
          refine held_take 8 (.bool false) rfl (by kernel_rfl) (by kernel_rfl) (by kernel_rfl) (fun _ _ _ h => h) (.inl ⟨by kernel_rfl, fun w' hw' => by go_simp⟩) HS.out ?_
          go_simp
          refine held_done (by kernel_rfl) (NoPanic.normal ?_)
          have hb1 := HZ.out
          obtain ⟨p0, p1⟩ := ent_cells HS.out.2
          have k0 : x3.cell? ⟨w.heap.size + 1, 0, none⟩ = some (.int .i64 0) := by simp [World.cell?, hb1]
          have k1 : x3.cell? ⟨w.heap.size + 1, 1, none⟩ = some (.string ⟨#[]⟩) := by simp [World.cell?, hb1]
          have f0 : x3.frozen? ⟨w.heap.size + 1, 0, none⟩ = false := by simp [World.frozen?, hb1]
          have f1 : x3.frozen? ⟨w.heap.size + 1, 1, none⟩ = false := by simp [World.frozen?, hb1]
          clear hb1
          go_wp2
          exact bodyPost_ret (v := .tuple #[.agg (entA qq ss), .bool true]) (by simp [results, Try.results23, go_sem, *]) rfl ⟨by rw [Hv.out]; rfl, by first | exact HC.out | (refine Chg.setCell (Chg.setCell HC.out ?_ _) ?_ _ <;> exact Or.inr (Nat.le_succ _))⟩

end Go.Proofs.Ytilnlphkkbflaaa
