/- DrawQuote of the model: a text of bounded size. (made ahead of stage 12) -/
import Derived.Test.YtmbonljmghpcmaaDoorQuoteSpec
import Derived.Test.YtmbonljmghpcmaaDoorDrawB
namespace Go.Proofs.YtmbonljmghpcmaaDoor
open Go.RowKit

/-- m bytes of 0 that make([]byte, m) lays. -/
theorem run_makeB (w : World) (x : Int) (h0 : 0 ≤ x) (h1 : x ≤ 1048576) :
    (Instr.makeSlice 22 (.int .i64 x) (.int .i64 x)).run Tryd.prog w = .ok (.slice (some ⟨w.heap.size, 0, none⟩) x.toNat x.toNat) (w.alloc (.cells ((List.replicate x.toNat (0 : Int)).map (Value.int .u8)).toArray 5)) := by
  obtain ⟨i, hi, hz0, hz1, hz2⟩ := info_parts Tryd.infoU1
  have h := run_make (P := Tryd.prog) w 22 5 i _ Tryd.underlying22 hi hz0 .i64 .i64 x x h0 (Int.le_refl _) (by rw [hz2]; omega) (by omega)
  rw [h, hz1]
  congr 3
  apply Array.ext'
  rw [Nat.mul_one]
  show (madeCells #[Value.int .u8 0] x.toNat).toList = _
  apply List.ext_getElem?
  intro j
  by_cases hj : j < x.toNat
  · simp [madeCells, hj, Nat.mod_one]
  · simp [madeCells, hj]

set_option maxRecDepth 20000 in
set_option maxHeartbeats 2000000 in
theorem drawQuote_calls (w : World) {lo hi : Nat} {cv : Value} {code : List Int} (hB : Byt code) (hcl : code.length ≤ 1048576) (hc : View w lo hi .u8 cv code) (hhi : hi ≤ w.heap.size) :
    Calls Tryd.prog 4 #[cv] w fun e w' => ∃ t : ByteArray, e = .returned (.string t) ∧ t.size ≤ 65537 ∧ Chg 0 0 w w' := by
  have v0 := hc
  obtain ⟨ao, cap, rfl, hl, _, _⟩ := hc
  have HV : Hid (View w lo hi .u8 (.slice ao code.length cap) code) := v0
  clear v0
  go_enter Tryd.func4, Tryd.ntmps4
  go_wp2_with fail
  refine (l1Source_calls _ ao code.length cap hl).mono ?_
  rintro e w1 ⟨rfl, s1, c1⟩
  generalize min (code.length / 16) 12 = z at *
  have hN := l1Next_calls w1 w.heap.size 0 z 25 (by omega) hB hcl (by omega) s1 (HV.out.chg c1 (by omega)) (Or.inr hhi)
  have HC1 : Hid (Chg 0 0 w w1) := c1
  clear s1 c1
  go_wp2_with fail
  refine hN.mono ?_
  rintro e w2 ⟨rfl, s2, c2⟩
  have HC2 : Hid (Chg 0 0 w w2) := HC1.out.step c2 (Or.inr (Or.inl (Nat.le_refl _)))
  clear hN c2
  have hsz := HC2.out.size
  generalize nxt code 0 25 = a0 at *
  by_cases h7 : a0 = 7
  · have hN := l1Next_calls w2 w.heap.size (0 + 1) z 2 (by omega) hB hcl (by omega) s2 (HV.out.chg HC2.out (by omega)) (Or.inr hhi)
    obtain ⟨r0, r1⟩ := nxt_range code (0 + 1) 2
    have r1 := r1 (by omega)
    subst h7
    clear s2
    go_wp2_with fail
    refine hN.mono ?_
    rintro e w3 ⟨rfl, _, c3⟩
    have HC3 : Hid (Chg 0 0 w w3) := HC2.out.step c3 (Or.inr (Or.inl (Nat.le_refl _)))
    clear hN c3
    generalize nxt code (0 + 1) 2 = a1 at *
    obtain ⟨m, hm⟩ : ∃ m : Nat, 65536 + a1 = (m : Int) := ⟨(65536 + a1).toNat, by omega⟩
    have hwr : IntKind.i64.wrap (65536 + a1) = 65536 + a1 := by rw [IntKind.wrap_i64]; omega
    have hmk := run_makeB w3 (m : Int) (by omega) (by omega)
    rw [Int.toNat_natCast] at hmk
    have Hm : Hid (m ≤ 65537) := by show _ ≤ _; omega
    have hst : (convert 22 9 (.slice (some ⟨w3.heap.size, 0, none⟩) m m)).run Tryd.prog (w3.alloc (.cells ((List.replicate m (0 : Int)).map (Value.int .u8)).toArray 5)) = .ok (.string (strOfNums (List.replicate m 0))) (w3.alloc (.cells ((List.replicate m (0 : Int)).map (Value.int .u8)).toArray 5)) := by
      have h := row_view (w := w3.alloc (.cells ((List.replicate m (0 : Int)).map (Value.int .u8)).toArray 5)) (b := w3.heap.size) (xs := List.replicate m (0 : Int)) (t := 5) (heap_new w3 _) 0 m m (by simp) (by rw [List.length_replicate]; have := Hm.out; omega) (Nat.le_refl _)
      rw [List.drop_zero, List.take_of_length_le (by simp)] at h
      exact h.str
    have Hsz : Hid ((strOfNums (List.replicate m 0)).size = m) := by show _ = _; rw [strOfNums_size, List.length_replicate]
    have HC4 : Hid (Chg 0 0 w (w3.alloc (.cells ((List.replicate m (0 : Int)).map (Value.int .u8)).toArray 5))) := HC3.out.alloc _
    generalize ((List.replicate m (0 : Int)).map (Value.int .u8)).toArray = zs at *
    go_wp2
    go_ret
    exact ⟨_, rfl, by rw [Hsz.out]; exact Hm.out, HC4.out⟩
  · have h7b : (a0 == 7) = false := by rw [beq_eq_false_iff_ne]; exact h7
    have hN := l1Next_calls w2 w.heap.size (0 + 1) z 12 (by omega) hB hcl (by omega) s2 (HV.out.chg HC2.out (by omega)) (Or.inr hhi)
    obtain ⟨r0, r1⟩ := nxt_range code (0 + 1) 12
    have r1 := r1 (by omega)
    clear s2
    go_wp2_with fail
    refine hN.mono ?_
    rintro e w3 ⟨rfl, s3, c3⟩
    have HC3 : Hid (Chg 0 0 w w3) := HC2.out.step c3 (Or.inr (Or.inl (Nat.le_refl _)))
    generalize nxt code (0 + 1) 12 = a1 at *
    obtain ⟨m, rfl⟩ : ∃ m : Nat, a1 = (m : Int) := ⟨a1.toNat, by omega⟩
    have hN2 := l1DrawBytes_calls w3 w.heap.size (0 + 1 + 1) z m (by omega) hB hcl (by omega) s3 (HV.out.chg HC3.out (by omega)) (Or.inr hhi)
    clear hN c3 s3
    go_wp2_with fail
    refine hN2.mono ?_
    rintro e w4 ⟨v, rfl, ⟨g, cp, rfl⟩, o4, _, c4⟩
    have hdl := drawB_length code (0 + 1 + 1) m
    have hst := (o4.seen (by omega)).str
    have HC4 : Hid (Chg 0 0 w w4) := HC3.out.step c4 (Or.inr (Or.inl (Nat.le_refl _)))
    have Hsz : Hid ((strOfNums (drawB code (0 + 1 + 1) m)).size ≤ 65537) := by show _ ≤ _; rw [strOfNums_size]; omega
    clear hN2 o4 c4 hdl
    generalize strOfNums (drawB code (0 + 1 + 1) m) = t at *
    go_wp2
    go_ret
    exact ⟨_, rfl, Hsz.out, HC4.out⟩

end Go.Proofs.YtmbonljmghpcmaaDoor
