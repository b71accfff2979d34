/- Several short texts in one: EntDec, ArrEq. -/
import Derived.Test.YtilnlphkkbflaaaRunes
import Derived.Test.YtilnlphkkbflaaaViewPart
import Derived.Test.YtilnlphkkbflaaaBytesOf
import Derived.Test.YtilnlphkkbflaaaRows
import Derived.Stop.BytesEq
namespace Go.Proofs.Ytilnlphkkbflaaa
open Go.RowKit

/-- The number and the name of a record. -/
def eQ (xs : List Int) : Int := getN (xs.take 2)
def eS (xs : List Int) : ByteArray := strOfNums ((xs.drop 3).take (xs.getD 2 0).toNat)
abbrev erV (g : Bool) (q : Int) (s : ByteArray) : Value := .agg #[.bool g, .int .i64 q, .string s]
def entG (xs : List Int) : Bool := decide (xs.length = 16) && (decide (xs.getD 2 0 ≤ 13) && decide (encEnt (eQ xs) (eS xs) = xs))
/-- DecodeEntry. -/
def decEnt (xs : List Int) : Value := if entG xs = true then erV true (eQ xs) (eS xs) else erV false 0 ⟨#[]⟩

theorem three_all {w : World} {s : Nat} {a b c : Value} {t : TypeId} (h : w.heap[s]? = some (.cells #[a, b, c] t (0, 0))) :
    (w.cell? ⟨s, 0, none⟩ = some a ∧ w.cell? ⟨s, 1, none⟩ = some b ∧ w.cell? ⟨s, 2, none⟩ = some c) ∧ w.frozen? ⟨s, 0, none⟩ = false ∧ w.frozen? ⟨s, 1, none⟩ = false ∧ w.frozen? ⟨s, 2, none⟩ = false := by
  simp [World.cell?, World.frozen?, h]

theorem wrap_i {x : Int} (h0 : 0 ≤ x) (h1 : x < 1000000) : IntKind.i64.wrap x = x := by
  unfold IntKind.wrap
  simp [IntKind.bits, IntKind.signed]
  omega

/-- The entry's cell, made. -/
def EntMade (w0 W : World) : Prop := Chg 0 0 w0 W ∧ w0.heap.size < W.heap.size ∧ W.heap[w0.heap.size]? = some (.cells #[.int .i64 0, .string ⟨#[]⟩] 34 (0, 0))

theorem ent_alloc {w0 W : World} (h : Same w0 W) : EntMade w0 (W.alloc (.cells #[.int .i64 0, .string ⟨#[]⟩] 34)) := by
  have hs : W.heap.size = w0.heap.size := by rw [h.heap]
  have hb := heap_new W (.cells #[.int .i64 0, .string ⟨#[]⟩] 34)
  rw [hs] at hb
  exact ⟨(h.chg 0 0).trans (Chg.alloc (Chg.refl 0 0 W) _), by simp [hs], hb⟩

set_option maxRecDepth 20000 in
set_option maxHeartbeats 4000000 in
theorem specDecEntry_calls (w : World) {lo hi : Nat} {a : Value} {xs : List Int} (hv : View w lo hi .u8 a xs) (hB : Byt xs) :
    Calls Try.prog 12 #[a] w fun e w' => e = .returned (decEnt xs) ∧ Chg 0 0 w w' := by
  have HV0 : Hid (View w lo hi .u8 a xs) := hv
  obtain ⟨ao, cap, rfl, hle, ⟨hcp, _⟩, hcell⟩ := hv
  have C0 : Chg 0 0 w (w.alloc (.cells #[.bool false, .int .i64 0, .string ⟨#[]⟩] 36)) := Chg.alloc (Chg.refl 0 0 w) _
  have B0 := heap_new w (.cells #[.bool false, .int .i64 0, .string ⟨#[]⟩] 36)
  have s0 : (w.alloc (.cells #[.bool false, .int .i64 0, .string ⟨#[]⟩] 36)).heap.size = w.heap.size + 1 := by simp
  have HB : Hid ((w.alloc (.cells #[.bool false, .int .i64 0, .string ⟨#[]⟩] 36)).heap[w.heap.size]? = some (.cells #[.bool false, .int .i64 0, .string ⟨#[]⟩] 36 (0, 0))) := B0
  have HC : Hid (Chg 0 0 w (w.alloc (.cells #[.bool false, .int .i64 0, .string ⟨#[]⟩] 36))) := C0
  clear C0 B0
  by_cases h16 : xs.length = 16
  case neg =>
    have HE : Hid (decEnt xs = erV false 0 ⟨#[]⟩) := by show _ = _; unfold decEnt entG; rw [decide_eq_false h16, Bool.false_and, if_neg (by decide)]
    have hne : ((xs.length : Int) != 16) = true := by simp; omega
    go_enter Try.func12, Try.ntmps12
    go_wp2
    exact bodyPost_ret (v := erV false 0 ⟨#[]⟩) (by simp [results, Try.results12, go_sem]) rfl ⟨by rw [HE.out], by first | exact HC.out | (refine Chg.setCell (Chg.setCell (Chg.setCell HC.out ?_ _) ?_ _) ?_ _ <;> exact Or.inr (Nat.le_refl _))⟩
  obtain ⟨b, off, rfl, hlo, hhi, hcl⟩ := hcell.resolve_left (fun h => by rw [h] at h16; cases h16)
  have H16 : Hid (xs.length = 16) := h16
  have HBy : Hid (Byt xs) := hB
  have hx2 : 0 ≤ xs.getD 2 0 ∧ xs.getD 2 0 < 256 := hB _ (by rw [List.getD_eq_getElem?_getD, List.getElem?_eq_getElem (by omega)]; exact List.getElem_mem _)
  obtain ⟨n, hn⟩ : ∃ n : Nat, xs.getD 2 0 = (n : Int) := ⟨(xs.getD 2 0).toNat, by omega⟩
  have HN : Hid (xs.getD 2 0 = (n : Int)) := hn
  have c2 := HC.out.cell (hcl 2 (by omega)) (by omega)
  rw [hn] at c2
  have hne : ((xs.length : Int) != 16) = false := by rw [h16]; rfl
  have HV1 : Hid (View w 0 w.heap.size .u8 (.slice (some ⟨b, off, none⟩) xs.length cap) xs) := ⟨_, cap, rfl, hle, ⟨hcp, fun h => by cases h⟩, Or.inr ⟨b, off, rfl, Nat.zero_le _, lt_of_cell (hcl 0 (by omega)), hcl⟩⟩
  rw [h16] at HV0 HV1 hcp
  rw [h16]
  by_cases h13 : (13 : Int) < (n : Int)
  · have HE : Hid (decEnt xs = erV false 0 ⟨#[]⟩) := by show _ = _; unfold decEnt entG; rw [HN.out, decide_eq_false (by omega : ¬ (n : Int) ≤ 13), Bool.false_and, Bool.and_false, if_neg (by decide)]
    clear hcell hcl hx2 hn
    go_enter Try.func12, Try.ntmps12
    go_wp2
    exact bodyPost_ret (v := erV false 0 ⟨#[]⟩) (by simp [results, Try.results12, go_sem]) rfl ⟨by rw [HE.out], by first | exact HC.out | (refine Chg.setCell (Chg.setCell (Chg.setCell HC.out ?_ _) ?_ _) ?_ _ <;> exact Or.inr (Nat.le_refl _))⟩
  have hc16 : (16 : Int) ≤ (cap : Int) := by omega
  have hc2' : (2 : Int) ≤ (cap : Int) := by omega
  have hc3 : 3 + (n : Int) ≤ (cap : Int) := by omega
  have hz3 : ¬ cap = 3 := by omega
  have hw1 : IntKind.i64.wrap (n : Int) = (n : Int) := wrap_i (by omega) (by omega)
  have hw2 : IntKind.i64.wrap (3 + (n : Int)) = 3 + (n : Int) := wrap_i (by omega) (by omega)
  have hq0 : (0 : Int) ≤ 3 + (n : Int) := by omega
  have hq1 : (3 : Int) ≤ max (3 + (n : Int)) 0 := by omega
  have hq2 : (3 + (n : Int)).toNat - 3 = n := by omega
  have hz0 : ¬ cap = 0 := by omega
  have HG : Hid (∀ W, Chg 0 0 w W → Calls Try.prog 18 #[.slice (some ⟨b, off, none⟩) 2 cap] W fun e w' => e = .returned (.int .i64 (eQ xs)) ∧ Same W w') := fun W h => specGet_calls W (HBy.out.take 2) ((HV0.out.chg h (by omega)).take 2 (by rw [H16.out]; omega))
  have HStr : Hid (∀ W, View W 0 w.heap.size .u8 (.slice (some ⟨b, off, none⟩) 16 cap) xs → View W 0 w.heap.size .u8 (.slice (some ⟨b, off + 3, none⟩) n (cap - 3)) ((xs.drop 3).take n)) := by
    intro W hW
    by_cases hn0 : n = 0
    · subst hn0
      exact ⟨_, cap - 3, rfl, by simp, ⟨by simp, by simp⟩, Or.inl (by simp)⟩
    · exact View.part (by rw [H16.out]; exact hW) (by rw [H16.out]; omega) (by omega) (cap - 3) (by omega)
  clear hcell hcl hx2 hn hB h16 hne
  go_enter Try.func12, Try.ntmps12
  go_upto_region 3 with fail
  generalize w.alloc (.cells #[.bool false, .int .i64 0, .string ⟨#[]⟩] 36) = w0 at *
  clear c2
  have HSn : Hid (eS xs = strOfNums ((xs.drop 3).take n)) := by show _ = _; unfold eS; rw [HN.out]; rfl
  go_cut [3] (fun s3 wx => s3 = .pointer (some ⟨w.heap.size + 1, 0, none⟩) ∧ Chg 0 0 w0 wx ∧ w.heap.size + 1 < wx.heap.size ∧ wx.heap[w.heap.size + 1]? = some (.cells #[.int .i64 (eQ xs), .string (eS xs)] 34 (0, 0)))
  case first =>
    generalize eQ xs = qq at *
    generalize eS xs = ss at *
    have HS0 : Hid ((fun w' : World => View w' 0 w.heap.size .u8 (.slice (some ⟨b, off, none⟩) 16 cap) xs) w0.drew) := (HV1.out.chg HC.out (by omega)).chg (Chg.drew (Chg.refl 0 0 w0)) (by omega)
    have S0 : Same w0 w0.drew := (Same.refl w0).drew
    refine held_region (fun w' : World => View w' 0 w.heap.size .u8 (.slice (some ⟨b, off, none⟩) 16 cap) xs) (by kernel_rfl) ?_
    generalize w0.drew = wd at *
    refine held_take 0 (.slice (some ⟨b, off, none⟩) 16 cap) rfl (by kernel_rfl) (by kernel_rfl) (by kernel_rfl) (fun _ _ _ h => h) (.inl ⟨by kernel_rfl, fun w' hw' => by go_simp⟩) HS0.out ?_
    go_simp
    refine held_take 1 (.slice (some ⟨b, off, none⟩) 2 cap) rfl (by kernel_rfl) (by kernel_rfl) (by kernel_rfl) (fun _ _ _ h => h) (.inl ⟨by kernel_rfl, fun w' hw' => by go_simp⟩) HS0.out ?_
    go_simp
    refine held_take 3 (.slice (some ⟨b, off, none⟩) 16 cap) rfl (by kernel_rfl) (by kernel_rfl) (by kernel_rfl) (fun _ _ _ h => h) (.inl ⟨by kernel_rfl, fun w' hw' => by go_simp⟩) HS0.out ?_
    go_simp
    refine held_take 4 (.slice (some ⟨b, off, none⟩) 16 cap) rfl (by kernel_rfl) (by kernel_rfl) (by kernel_rfl) (fun _ _ _ h => h) (.inl ⟨by kernel_rfl, fun w' hw' => by go_simp⟩) HS0.out ?_
    go_simp
    refine held_take 5 (.pointer (some ⟨b, off + 2, none⟩)) rfl (by kernel_rfl) (by kernel_rfl) (by kernel_rfl) (fun _ _ _ h => h) (.inl ⟨by kernel_rfl, fun w' hw' => by go_simp⟩) HS0.out ?_
    go_simp
    refine held_take 6 (.int .u8 (n : Int)) rfl (by kernel_rfl) (by kernel_rfl) (by kernel_rfl) (fun _ _ _ h => h) (.inl ⟨by kernel_rfl, fun w' hw' => by obtain ⟨_, _, e1, _, _, e2⟩ := id hw'; simp only [Value.slice.injEq] at e1; obtain ⟨b', off', e3, _, _, e4⟩ := e2.resolve_left (fun h => by have := H16.out; rw [h] at this; cases this); rw [← e1.1] at e3; cases e3; have h4 := e4 2 (by have := H16.out; omega); rw [HN.out] at h4; clear e1 e2 e4; go_simp⟩) HS0.out ?_
    go_simp
    refine held_take 7 (.int .i64 (n : Int)) rfl (by kernel_rfl) (by kernel_rfl) (by kernel_rfl) (fun _ _ _ h => h) (.inl ⟨by kernel_rfl, fun w' hw' => by go_simp⟩) HS0.out ?_
    go_simp
    refine held_take 8 (.int .i64 (3 + (n : Int))) rfl (by kernel_rfl) (by kernel_rfl) (by kernel_rfl) (fun _ _ _ h => h) (.inl ⟨by kernel_rfl, fun w' hw' => by go_simp⟩) HS0.out ?_
    go_simp
    refine held_take 9 (.slice (some ⟨b, off + 3, none⟩) n (cap - 3)) rfl (by kernel_rfl) (by kernel_rfl) (by kernel_rfl) (fun _ _ _ h => h) (.inl ⟨by kernel_rfl, fun w' hw' => by go_simp⟩) HS0.out ?_
    go_simp
    refine held_take 10 (.string ss) rfl (by kernel_rfl) (by kernel_rfl) (by kernel_rfl) (fun _ _ _ h => h) (.inl ⟨by kernel_rfl, fun w' hw' => by have h5 := (HStr.out _ hw').str; rw [← HSn.out] at h5; go_simp⟩) HS0.out ?_
    go_simp
    refine held_two 2 12 rfl rfl rfl rfl (by kernel_rfl) ?_ ?_
    · refine wp_enter 18 #[.slice (some ⟨b, off, none⟩) 2 cap] (by first | kernel_rfl | go_simp) (HG.out wd (HC.out.trans (S0.chg 0 0))) ?_
      rintro e wa ⟨rfl, twa⟩
      have HSwa : Hid ((fun w' : World => View w' 0 w.heap.size .u8 (.slice (some ⟨b, off, none⟩) 16 cap) xs) wa) := HS0.out.chg (twa.chg 0 0) (by omega)
      refine ⟨_, rfl, HSwa.out, ?_⟩
      go_simp
      refine held_take 11 (.agg #[.int .i64 qq, .string ss]) rfl (by kernel_rfl) (by kernel_rfl) (by kernel_rfl) (fun _ _ _ h => h) (.inl ⟨by kernel_rfl, fun w' hw' => by go_simp⟩) HSwa.out ?_
      go_simp
      have Fa : Same w0 wa := S0.trans twa
      refine held_one 12 rfl rfl (by kernel_rfl) ?_
      have Gwb : EntMade w0 (wa.alloc (.cells #[.int .i64 0, .string ⟨#[]⟩] 34)) := ent_alloc Fa
      have HSwb : Hid ((fun w' : World => View w' 0 w.heap.size .u8 (.slice (some ⟨b, off, none⟩) 16 cap) xs) (wa.alloc (.cells #[.int .i64 0, .string ⟨#[]⟩] 34))) := HSwa.out.chg (Chg.alloc (Chg.refl 0 0 wa) _) (by omega)
      have ewb : wa.heap.size = w0.heap.size := by rw [Fa.heap]
      go_simp
      clear ewb
      generalize wa.alloc (.cells #[.int .i64 0, .string ⟨#[]⟩] 34) = wb at *
      refine ⟨HSwb.out, ?_⟩
      refine held_one 13 rfl rfl (by kernel_rfl) ?_
      refine wp_store_row 34 (.tmp 3) (.tmp 25) rfl rfl (w.heap.size + 1) rfl [.int .i64 qq, .string ss] [.int .i64 0, .string ⟨#[]⟩] 34 rfl (by rw [← s0]; exact Gwb.2.2) rfl (by kernel_rfl) (by simp [Value.oneCell']) ?_
      intro wy hy cy
      have HSy : Hid ((fun w' : World => View w' 0 w.heap.size .u8 (.slice (some ⟨b, off, none⟩) 16 cap) xs) wy) := HSwb.out.chg cy (by have := Gwb.1.size; have := HC.out.size; omega)
      have HR : Hid (Chg 0 0 w0 wy ∧ w.heap.size + 1 < wy.heap.size ∧ wy.heap[w.heap.size + 1]? = some (.cells #[.int .i64 qq, .string ss] 34 (0, 0))) := ⟨Gwb.1.step cy (by omega), by have := cy.size; have := Gwb.2.1; omega, hy⟩
      clear hy cy
      refine ⟨HSy.out, held_done (by kernel_rfl) (NoPanic.normal ?_)⟩
      go_wp2
      go_meet
      exact ⟨rfl, HR.out⟩
    · have Gwa : EntMade w0 (wd.alloc (.cells #[.int .i64 0, .string ⟨#[]⟩] 34)) := ent_alloc S0
      have HSwa : Hid ((fun w' : World => View w' 0 w.heap.size .u8 (.slice (some ⟨b, off, none⟩) 16 cap) xs) (wd.alloc (.cells #[.int .i64 0, .string ⟨#[]⟩] 34))) := HS0.out.chg (Chg.alloc (Chg.refl 0 0 wd) _) (by omega)
      have ewa : wd.heap.size = w0.heap.size := by rw [S0.heap]
      go_simp
      clear ewa
      generalize wd.alloc (.cells #[.int .i64 0, .string ⟨#[]⟩] 34) = wa at *
      refine ⟨HSwa.out, ?_⟩
      refine held_one 2 rfl rfl (by kernel_rfl) ?_
      refine wp_enter 18 #[.slice (some ⟨b, off, none⟩) 2 cap] (by first | kernel_rfl | go_simp) (HG.out wa (HC.out.trans Gwa.1)) ?_
      rintro e wb ⟨rfl, twb⟩
      have HSwb : Hid ((fun w' : World => View w' 0 w.heap.size .u8 (.slice (some ⟨b, off, none⟩) 16 cap) xs) wb) := HSwa.out.chg (twb.chg 0 0) (by omega)
      refine ⟨_, rfl, HSwb.out, ?_⟩
      go_simp
      refine held_take 11 (.agg #[.int .i64 qq, .string ss]) rfl (by kernel_rfl) (by kernel_rfl) (by kernel_rfl) (fun _ _ _ h => h) (.inl ⟨by kernel_rfl, fun w' hw' => by go_simp⟩) HSwb.out ?_
      go_simp
      have Gwb : EntMade w0 wb := ⟨Gwa.1.trans (twb.chg 0 0), by rw [twb.heap]; exact Gwa.2.1, by rw [twb.heap]; exact Gwa.2.2⟩
      refine held_one 13 rfl rfl (by kernel_rfl) ?_
      refine wp_store_row 34 (.tmp 3) (.tmp 25) rfl rfl (w.heap.size + 1) rfl [.int .i64 qq, .string ss] [.int .i64 0, .string ⟨#[]⟩] 34 rfl (by rw [← s0]; exact Gwb.2.2) rfl (by kernel_rfl) (by simp [Value.oneCell']) ?_
      intro wy hy cy
      have HSy : Hid ((fun w' : World => View w' 0 w.heap.size .u8 (.slice (some ⟨b, off, none⟩) 16 cap) xs) wy) := HSwb.out.chg cy (by have := Gwb.1.size; have := HC.out.size; omega)
      have HR : Hid (Chg 0 0 w0 wy ∧ w.heap.size + 1 < wy.heap.size ∧ wy.heap[w.heap.size + 1]? = some (.cells #[.int .i64 qq, .string ss] 34 (0, 0))) := ⟨Gwb.1.step cy (by omega), by have := cy.size; have := Gwb.2.1; omega, hy⟩
      clear hy cy
      refine ⟨HSy.out, held_done (by kernel_rfl) (NoPanic.normal ?_)⟩
      go_wp2
      go_meet
      exact ⟨rfl, HR.out⟩
  case rest =>
    obtain ⟨rfl, hcx, hsx, hbx⟩ := hcut
    have HBr : Hid (wc.heap[w.heap.size]? = some (.cells #[.bool false, .int .i64 0, .string ⟨#[]⟩] 36 (0, 0))) := (hcx.block _ (by omega) (by omega)).trans HB.out
    have HCr : Hid (Chg 0 0 w wc) := HC.out.trans hcx
    have HBg : Hid (wc.heap[w.heap.size + 1]? = some (.cells #[.int .i64 (eQ xs), .string (eS xs)] 34 (0, 0))) := hbx
    have HD : Hid (decEnt xs = if encEnt (eQ xs) (eS xs) = xs then erV true (eQ xs) (eS xs) else erV false 0 ⟨#[]⟩) := by
      show _ = _
      unfold decEnt entG
      rw [decide_eq_true H16.out, HN.out, decide_eq_true (by omega : (n : Int) ≤ 13)]
      by_cases h : encEnt (eQ xs) (eS xs) = xs
      · rw [decide_eq_true h, if_pos h, if_pos (by decide)]
      · rw [decide_eq_false h, if_neg h, if_neg (by decide)]
    have hss : (eS xs).size ≤ 1048576 := by
      rw [HSn.out, strOfNums_size, List.length_take]
      omega
    clear HG HStr HSn HB HC hcx hbx hw1 hw2 hq0 hq1 hq2 hz3 hz0 hc16 hc2' hc3
    generalize eQ xs = qq at *
    generalize eS xs = ss at *
    obtain ⟨k0, k1, _⟩ := two_cells HBg.out
    have hN := specEncEntry_calls wc qq ss hss
    go_wp2_with fail
    clear k0 k1
    refine hN.mono ?_
    rintro e w5 ⟨v5, rfl, o5, h5⟩
    have s5 := h5.size
    have HB5 : Hid (w5.heap[w.heap.size]? = some (.cells #[.bool false, .int .i64 0, .string ⟨#[]⟩] 36 (0, 0))) := (h5.block _ (by omega) (by omega)).trans HBr.out
    have HC5 : Hid (Chg 0 0 w w5) := HCr.out.trans h5
    have HG5 : Hid (w5.heap[w.heap.size + 1]? = some (.cells #[.int .i64 qq, .string ss] 34 (0, 0))) := (h5.block _ (by omega) (by omega)).trans HBg.out
    have v5' := o5.seen (by have := encEnt_len qq ss; omega)
    obtain ⟨e5, l5, c5, rfl⟩ := row_slice o5
    have hS := l2Same_calls w5 (encEnt_byt qq ss) HBy.out v5' (HV0.out.chg HC5.out (by omega))
    clear hN o5 h5 v5' HBr HCr HBg
    go_wp2_with fail
    refine hS.mono ?_
    rintro e w6 ⟨rfl, hw6⟩
    subst w6
    clear hS
    obtain ⟨⟨z1, z2, z3⟩, f1, f2, f3⟩ := three_all HB5.out
    obtain ⟨k0, k1, _⟩ := two_cells HG5.out
    have HCs : Hid (∀ u0 u1 u2 : Value, Chg 0 0 w (((w5.setCell ⟨w.heap.size, 0, none⟩ u0).setCell ⟨w.heap.size, 1, none⟩ u1).setCell ⟨w.heap.size, 2, none⟩ u2)) := fun u0 u1 u2 => by
      refine HC5.out.step (l := w.heap.size) (r := w.heap.size + 1) ?_ (Or.inr (Or.inl (Nat.le_refl _)))
      refine Chg.setCell (Chg.setCell (Chg.setCell (Chg.refl _ _ _) ?_ _) ?_ _) ?_ _ <;> exact Or.inl ⟨Nat.le_refl _, Nat.lt_succ_self _⟩
    clear HB5 HG5
    by_cases he : encEnt qq ss = xs
    · have HE : Hid (decEnt xs = erV true qq ss) := by show _ = _; rw [HD.out, if_pos he]
      rw [decide_eq_true he]
      clear HD he
      go_wp2
      exact bodyPost_ret (v := erV true qq ss) (by simp [results, Try.results12, go_sem, *]) rfl ⟨by rw [HE.out], HCs.out _ _ _⟩
    · have HE : Hid (decEnt xs = erV false 0 ⟨#[]⟩) := by show _ = _; rw [HD.out, if_neg he]
      rw [decide_eq_false he]
      clear HD he
      go_wp2
      exact bodyPost_ret (v := erV false 0 ⟨#[]⟩) (by simp [results, Try.results12, go_sem, *]) rfl ⟨by rw [HE.out], HCs.out _ _ _⟩

end Go.Proofs.Ytilnlphkkbflaaa

namespace Go.Proofs.Ytilnlphkkbflaaa
open Go.RowKit

theorem byt_cells {xs : List Int} (h : Byt xs) : (xs.map fun n => UInt8.ofNat n.toNat).map Extern.Stop.cell = xs.map (Value.int .u8) := by
  rw [List.map_map]
  refine List.map_congr_left fun x hx => ?_
  have := h x hx
  have e : ((UInt8.ofNat x.toNat).toNat : Int) = x := by rw [UInt8.toNat_ofNat']; omega
  show Value.int .u8 ((UInt8.ofNat x.toNat).toNat : Int) = _
  rw [e]

theorem equal_bytes (w : World) (t : TypeId) (n : Nat) (ht : Try.prog.underlying t = some (.array n 5)) {xs ys : List Int} (hx : Byt xs) (hy : Byt ys) (lx : xs.length = n) (ly : ys.length = n) :
    (Op.equalIn 10000 t (.agg (xs.map (Value.int .u8)).toArray) (.agg (ys.map (Value.int .u8)).toArray)).run Try.prog w = .ok (decide (xs = ys)) w := by
  have h := run_equalIn_bytes (P := Try.prog) w 9998 t 5 n ht Try.underlying5 (fun w => by kernel_rfl) (xs.map fun n => UInt8.ofNat n.toNat) (ys.map fun n => UInt8.ofNat n.toNat) (by simpa using lx) (by simpa using ly)
  rw [byt_cells hx, byt_cells hy] at h
  have hb : ((xs.map fun n => UInt8.ofNat n.toNat) == ys.map fun n => UInt8.ofNat n.toNat) = decide (xs = ys) := by
    by_cases e : xs = ys
    · subst e; rw [decide_eq_true rfl]; exact beq_self_eq_true _
    · rw [decide_eq_false e, beq_eq_false_iff_ne]
      exact fun h' => e (str_inj hx hy h')
  rw [h, hb]

end Go.Proofs.Ytilnlphkkbflaaa
