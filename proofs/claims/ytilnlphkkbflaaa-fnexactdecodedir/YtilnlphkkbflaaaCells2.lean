/- Several short texts in one: ImplStr0, IsWithin, ImplName, ArrKit, CopyRow, PutPs, Cells2. -/
import Derived.Test.YtilnlphkkbflaaaRunes
import Derived.Deep.DeepCutAuto
import Derived.Test.YtilnlphkkbflaaaMem
import Derived.Test.YtilnlphkkbflaaaRows
import Derived.Test.YtilnlphkkbflaaaBytesOf
import Derived.Deep.MidRow
import Derived.Laws.CopyOwn
import Derived.Test.YtilnlphkkbflaaaPutByt
import Derived.Test.YtilnlphkkbflaaaDirMap
import Derived.Test.YtilnlphkkbflaaaHeld
namespace Go.Proofs.Ytilnlphkkbflaaa
open Go.RowKit

theorem setTo_low {s : ByteArray} : ∀ {n k : Nat}, setTo s n = true → k < n → inSet (chr s k) = true
  | 0, _, _, h => absurd h (Nat.not_lt_zero _)
  | n + 1, k, h, hk => by
    unfold setTo at h
    rw [Bool.and_eq_true] at h
    rcases Nat.lt_or_eq_of_le (Nat.le_of_lt_succ hk) with h1 | h1
    · exact setTo_low h.1 h1
    · rw [h1]; exact h.2

set_option maxRecDepth 20000 in
set_option maxHeartbeats 1000000 in
theorem hasOnlyMarks_calls (w : World) (s : ByteArray) :
    Calls Try.prog 43 #[.string s] w fun e w' => e = .returned (.bool (setB s)) ∧ Chg 0 0 w w' := by
  have HB : Hid (setB s = setTo s s.size) := rfl
  have hI0 := World.iter_heap w s 0
  have hC0 : Chg 0 0 w (w.iter s 0) := Chg.alloc (Chg.refl 0 0 w) _
  go_enter Try.func43, Try.ntmps43
  go_wp2
  generalize w.iter s 0 = w1 at *
  go_loopw [] (fun wr => ∃ k : Nat, k ≤ s.size ∧ wr.heap[w.heap.size]? = some (.stringIter s k) ∧ setTo s k = true ∧ Chg 0 0 w wr) (fun wr => s.size - (match wr.heap[w.heap.size]? with | some (.stringIter _ k) => k | _ => 0))
  case atStart => exact ⟨0, Nat.zero_le _, hI0, rfl, hC0⟩
  case round =>
    clear hI0 hC0
    obtain ⟨k, hk, hb, hs, hc⟩ := hrel
    by_cases hlt : k < s.size
    · have hnx := run_next_at (P := Try.prog) wr w.heap.size s k 0 hb hlt
      have hbl : w.heap.size < wr.heap.size := (Array.getElem?_eq_some_iff.1 hb).1
      have HC : Hid (Chg 0 0 w (wr.putObj w.heap.size (.stringIter s (k + wide s k)))) := hc.step (Chg.putObj wr w.heap.size _) (by omega)
      have HI : Hid ((wr.putObj w.heap.size (.stringIter s (k + wide s k))).heap[w.heap.size]? = some (.stringIter s (k + wide s k))) := World.putObj_heap_same hbl
      by_cases hin : inSet (chr s k) = true
      · obtain ⟨h33, h126⟩ := inSet_iff.1 hin
        obtain ⟨hr, hw⟩ := decode_low hlt (by omega)
        rw [hr, hw] at hnx
        rw [hw] at HC HI
        have HS : Hid (setTo s (k + 1) = true) := by show setTo s (k + 1) = true; unfold setTo; rw [hs, hin]; rfl
        generalize chr s k = c at *
        have e1 : ¬ ((c : Int) < 33) := by omega
        have e2 : ¬ ((126 : Int) < (c : Int)) := by omega
        have Hb : Hid (wr.heap[w.heap.size]? = some (.stringIter s k)) := hb
        clear hr hw hs hin hb hc
        generalize wr.putObj w.heap.size (.stringIter s (k + 1)) = w2 at *
        go_wp2
        go_roundw
        case rel => exact ⟨k + 1, by omega, HI.out, HS.out, HC.out⟩
        case measure => rw [HI.out, Hb.out]; simp only; omega
      · have HF : Hid (setB s = false) := by show _ = _; rw [HB.out]; exact setTo_false (by simpa using hin) _ hlt
        have hr : (rune s k : Int) < 33 ∨ (126 : Int) < (rune s k : Int) := by
          by_cases h8 : chr s k < 128
          · rw [(decode_low hlt h8).1]
            have : ¬ (33 ≤ chr s k ∧ chr s k ≤ 126) := fun h => hin (inSet_iff.2 h)
            omega
          · have := (decode_high hlt (by omega)).1
            omega
        clear hs hin hb hc HI
        generalize wr.putObj w.heap.size (.stringIter s (k + wide s k)) = w2 at *
        generalize rune s k = c at *
        rcases hr with hr | hr
        · go_wp2
          go_ret
          exact ⟨by rw [HF.out]; rfl, HC.out⟩
        · have e1 : ¬ ((c : Int) < 33) := by omega
          go_wp2
          go_ret
          exact ⟨by rw [HF.out]; rfl, HC.out⟩
    · obtain rfl : k = s.size := by omega
      have hnx := run_next_out (P := Try.prog) wr w.heap.size s s.size 0 hb hlt
      have HF : Hid (setB s = true) := by show _ = _; rw [HB.out]; exact hs
      clear hs hb
      go_wp2
      go_ret
      exact ⟨by rw [HF.out]; rfl, hc⟩

set_option maxRecDepth 20000 in
set_option maxHeartbeats 1000000 in
theorem hasStroke_calls (w : World) (s : ByteArray) (hs : setB s = true) :
    Calls Try.prog 44 #[.string s] w fun e w' => e = .returned (.bool (!decide ((cutD s 47).length = 1))) ∧ Chg 0 0 w w' := by
  have hlow : ∀ k, k < s.size → chr s k < 128 := fun k hk => by have := (inSet_iff.1 (setTo_low hs hk)).2; omega
  have HC1 : Hid ((∀ j, j < s.size → chr s j ≠ 47) → (!decide ((cutD s 47).length = 1)) = false) := fun h => by rw [decide_eq_true (cutD_one.2 h)]; rfl
  have HC2 : Hid (∀ j, j < s.size → chr s j = 47 → (!decide ((cutD s 47).length = 1)) = true) := fun j hj h => by rw [decide_eq_false (fun h' => cutD_one.1 h' j hj h)]; rfl
  have hI0 := World.iter_heap w s 0
  have hC0 : Chg 0 0 w (w.iter s 0) := Chg.alloc (Chg.refl 0 0 w) _
  generalize (!decide ((cutD s 47).length = 1)) = R at *
  clear hs
  go_enter Try.func44, Try.ntmps44
  go_wp2
  generalize w.iter s 0 = w1 at *
  go_loopw [] (fun wr => ∃ k : Nat, k ≤ s.size ∧ wr.heap[w.heap.size]? = some (.stringIter s k) ∧ (∀ j, j < k → chr s j ≠ 47) ∧ Chg 0 0 w wr) (fun wr => s.size - (match wr.heap[w.heap.size]? with | some (.stringIter _ k) => k | _ => 0))
  case atStart => exact ⟨0, Nat.zero_le _, hI0, fun j hj => absurd hj (Nat.not_lt_zero _), hC0⟩
  case round =>
    clear hI0 hC0
    obtain ⟨k, hk, hb, hs, hc⟩ := hrel
    by_cases hlt : k < s.size
    · have hnx := run_next_at (P := Try.prog) wr w.heap.size s k 0 hb hlt
      have hbl : w.heap.size < wr.heap.size := (Array.getElem?_eq_some_iff.1 hb).1
      have HC : Hid (Chg 0 0 w (wr.putObj w.heap.size (.stringIter s (k + wide s k)))) := hc.step (Chg.putObj wr w.heap.size _) (by omega)
      have HI : Hid ((wr.putObj w.heap.size (.stringIter s (k + wide s k))).heap[w.heap.size]? = some (.stringIter s (k + wide s k))) := World.putObj_heap_same hbl
      obtain ⟨hr, hw⟩ := decode_low hlt (hlow k hlt)
      rw [hr, hw] at hnx
      rw [hw] at HC HI
      have Hb : Hid (wr.heap[w.heap.size]? = some (.stringIter s k)) := hb
      by_cases h47 : chr s k = 47
      · have HR : Hid (R = true) := HC2.out k hlt h47
        have e1 : ((chr s k : Int) == 47) = true := by rw [h47]; rfl
        clear hr hw hb hc hs HI hlow HC1 HC2 h47
        generalize chr s k = c at *
        generalize wr.putObj w.heap.size (.stringIter s (k + 1)) = w2 at *
        go_wp2
        go_ret
        exact ⟨by rw [HR.out]; rfl, HC.out⟩
      · have e1 : ((chr s k : Int) == 47) = false := by simp; omega
        have HS : Hid (∀ j, j < k + 1 → chr s j ≠ 47) := fun j hj => by
          rcases Nat.lt_or_eq_of_le (Nat.le_of_lt_succ hj) with h1 | h1
          · exact hs j h1
          · rw [h1]; exact h47
        clear hr hw hb hc hs h47 hlow HC1 HC2
        generalize hcc : chr s k = c at *
        clear hcc
        generalize wr.putObj w.heap.size (.stringIter s (k + 1)) = w2 at *
        go_wp2
        go_roundw
        case rel => exact ⟨k + 1, by omega, HI.out, HS.out, HC.out⟩
        case measure => rw [HI.out, Hb.out]; simp only; omega
    · obtain rfl : k = s.size := by omega
      have hnx := run_next_out (P := Try.prog) wr w.heap.size s s.size 0 hb hlt
      have HR : Hid (R = false) := HC1.out hs
      clear hs hb
      go_wp2
      go_ret
      exact ⟨by rw [HR.out]; rfl, hc⟩

end Go.Proofs.Ytilnlphkkbflaaa

namespace Go.Proofs.Ytilnlphkkbflaaa
open Go.RowKit

set_option maxHeartbeats 400000 in
theorem isWithin_calls (w : World) (v l m : Int) : Calls Try.prog 38 #[.int .i64 v, .int .i64 l, .int .i64 m] w fun e w' => e = .returned (.bool (decide (l ≤ v) && decide (v ≤ m))) ∧ w' = w := by
  by_cases h1 : l ≤ v
  · by_cases h2 : v ≤ m
    · rw [decide_eq_true h1, decide_eq_true h2]
      go_enter Try.func38, Try.ntmps38
      go_wp2
      go_ret
      exact ⟨rfl, rfl⟩
    · rw [decide_eq_true h1, decide_eq_false h2]
      go_enter Try.func38, Try.ntmps38
      go_wp2
      go_ret
      exact ⟨rfl, rfl⟩
  · rw [decide_eq_false h1]
    go_enter Try.func38, Try.ntmps38
    go_wp2
    go_ret
    exact ⟨rfl, rfl⟩

end Go.Proofs.Ytilnlphkkbflaaa

namespace Go.Proofs.Ytilnlphkkbflaaa
open Go.RowKit

set_option maxRecDepth 20000 in
set_option maxHeartbeats 1000000 in
theorem validName_any (w : World) (s : ByteArray) :
    Calls Try.prog 39 #[.string s] w fun e w' => e = .returned (.bool (nameB s)) ∧ Chg 0 0 w w' := by
  have hN1 := isWithin_calls w (s.size : Int) 1 13
  by_cases h1 : 1 ≤ s.size ∧ s.size ≤ 13
  · rw [decide_eq_true (show (1 : Int) ≤ (s.size : Int) by omega), decide_eq_true (show (s.size : Int) ≤ 13 by omega)] at hN1
    have hN2 := hasOnlyMarks_calls w s
    by_cases h2 : setB s = true
    · rw [h2] at hN2
      have hN3 := fun w => hasStroke_calls w s h2
      by_cases h3 : (cutD s 47).length = 1
      · rw [decide_eq_true h3] at hN3
        obtain ⟨b1, hb1⟩ : ∃ b, (s.toList == [46]) = b := ⟨_, rfl⟩
        obtain ⟨b2, hb2⟩ : ∃ b, (s.toList == [46, 46]) = b := ⟨_, rfl⟩
        have Hn : Hid (nameB s = (!b1 && !b2)) := by
          show _ = _
          unfold nameB
          rw [← hb1, ← hb2, Bool.eq_iff_iff, decide_eq_true_eq]
          simp only [Bool.and_eq_true, Bool.not_eq_true', beq_eq_false_iff_ne]
          exact ⟨fun h => ⟨h.2.2.2.1, h.2.2.2.2.1⟩, fun h => ⟨h2, h1.1, h1.2, h.1, h.2, h3⟩⟩
        clear h1 h2 h3
        cases b1
        all_goals cases b2
        all_goals
          go_enter Try.func39, Try.ntmps39
          go_wp2_with (first
            | (go_at_call 38; refine hN1.mono ?_; rintro e w1 ⟨rfl, rfl⟩)
            | (go_at_call 43; refine hN2.mono ?_; rintro e w2 ⟨rfl, hc2⟩)
            | (go_at_call 44; refine (hN3 w2).mono ?_; rintro e w3 ⟨rfl, hc3⟩))
          go_ret
          exact ⟨by rw [Hn.out]; rfl, hc2.trans hc3⟩
      · rw [decide_eq_false h3] at hN3
        have Hn : Hid (nameB s = false) := nameB_false (fun h => h3 h.2.2.2.2.2)
        clear h1 h2 h3
        go_enter Try.func39, Try.ntmps39
        go_wp2_with (first
          | (go_at_call 38; refine hN1.mono ?_; rintro e w1 ⟨rfl, rfl⟩)
          | (go_at_call 43; refine hN2.mono ?_; rintro e w2 ⟨rfl, hc2⟩)
          | (go_at_call 44; refine (hN3 w2).mono ?_; rintro e w3 ⟨rfl, hc3⟩))
        go_ret
        exact ⟨by rw [Hn.out]; rfl, hc2.trans hc3⟩
    · have Hn : Hid (nameB s = false) := nameB_false (fun h => h2 h.1)
      rw [Bool.not_eq_true] at h2
      rw [h2] at hN2
      clear h1 h2
      go_enter Try.func39, Try.ntmps39
      go_wp2_with (first
        | (go_at_call 38; refine hN1.mono ?_; rintro e w1 ⟨rfl, rfl⟩)
        | (go_at_call 43; refine hN2.mono ?_; rintro e w2 ⟨rfl, hc2⟩))
      go_ret
      exact ⟨by rw [Hn.out]; rfl, hc2⟩
  · have Hn : Hid (nameB s = false) := nameB_false (fun h => h1 ⟨h.2.1, h.2.2.1⟩)
    have hf : (decide ((1 : Int) ≤ (s.size : Int)) && decide ((s.size : Int) ≤ 13)) = false := by simp only [Bool.and_eq_false_iff, decide_eq_false_iff_not]; omega
    rw [hf] at hN1
    clear hf h1
    go_enter Try.func39, Try.ntmps39
    go_wp2_with (go_at_call 38; refine hN1.mono ?_; rintro e w1 ⟨rfl, rfl⟩)
    go_ret
    exact ⟨by rw [Hn.out]; rfl, Chg.refl _ _ _⟩

theorem implValidName_calls (w : World) (s : ByteArray) (_hl : s.size ≤ 1048576) :
    Calls Try.prog 39 #[.string s] w fun e w' => e = .returned (.bool (nameB s)) ∧ Chg 0 0 w w' := validName_any w s

end Go.Proofs.Ytilnlphkkbflaaa

namespace Go.Proofs.Ytilnlphkkbflaaa
open Go.RowKit

/-- The block b has these cells. -/
def ArrC (w : World) (b : Nat) (T : TypeId) (cs : List Value) : Prop := w.heap[b]? = some (.cells cs.toArray T (0, 0))
theorem ArrC.lt {w : World} {b : Nat} {T : TypeId} {cs : List Value} (h : ArrC w b T cs) : b < w.heap.size := (Array.getElem?_eq_some_iff.1 h).1
theorem ArrC.cell {w : World} {b : Nat} {T : TypeId} {cs : List Value} (h : ArrC w b T cs) (i : Nat) {v : Value} (hv : cs[i]? = some v) : w.cell? ⟨b, i, none⟩ = some v := by
  have h' : w.heap[b]? = some (.cells cs.toArray T (0, 0)) := h
  simp only [World.cell?, h']
  simpa using hv
theorem ArrC.frozen {w : World} {b : Nat} {T : TypeId} {cs : List Value} (h : ArrC w b T cs) (i : Nat) : w.frozen? ⟨b, i, none⟩ = false := by
  have h' : w.heap[b]? = some (.cells cs.toArray T (0, 0)) := h
  simp [World.frozen?, h']
theorem ArrC.put {w : World} {b : Nat} {T : TypeId} {cs : List Value} (h : ArrC w b T cs) (i : Nat) (v : Value) : ArrC (w.setCell ⟨b, i, none⟩ v) b T (cs.set i v) := by
  have h' : w.heap[b]? = some (.cells cs.toArray T (0, 0)) := h
  show (w.setCell ⟨b, i, none⟩ v).heap[b]? = _
  simp only [World.setCell, Array.getElem?_modify, if_true, h', Option.map_some]
  simp
theorem ArrC.chg {w w' : World} {b l r : Nat} {T : TypeId} {cs : List Value} (h : ArrC w b T cs) (c : Chg l r w w') (d : b < l ∨ r ≤ b) : ArrC w' b T cs := (c.block b h.lt d).trans h
theorem ArrC.range {w : World} {b : Nat} {T : TypeId} {cs : List Value} (h : ArrC w b T cs) : w.rangeAt b 0 cs := by
  intro j v hv
  rw [Nat.zero_add]
  exact h.cell j hv
theorem ArrC.new (w : World) (T : TypeId) (cs : List Value) : ArrC (w.alloc (.cells cs.toArray T)) w.heap.size T cs := heap_new w _

/-- One of an array that is a value. -/
theorem run_idx {P : Program} {t e : TypeId} {n : Nat} {kd : IntKind} {row : List Value} {k : Nat} {v : Value} (h : P.underlying t = some (.array n e)) (he : P.underlying e = some (.int kd)) (hs : (P.info? e).map (·.size) = some 1) (hk : k < n) (hv : row[k]? = some v) (w : World) :
    (Instr.index t (.agg row.toArray) (.int .i64 (k : Int))).run P w = .ok v w := by
  cases hq : P.info? e with
  | none => rw [hq] at hs; cases hs
  | some i =>
    have hs : i.size = 1 := by simpa [hq] using hs
    have hk' : 0 ≤ (k : Int) ∧ (k : Int) < (n : Int) := by omega
    have hkl : k < row.length := (List.getElem?_eq_some_iff.1 hv).1
    have hv' : row[k] = v := (List.getElem?_eq_some_iff.1 hv).2
    simp [Instr.index, run_underlying h, asIntOf, hk', part, isAgg, run_underlying he, sizeOf, typeInfo, hq, hs, hkl, hv', go_sem]
    intro hc
    omega

theorem results_ct {P : Program} {fn : Func} {p1 p3 : Tmp} {t1 : TypeId} {w : World} {tmps : Array Value} {a1 : Addr} {v1 v3 : Value} (h : fn.results = #[.cell p1 t1, .tmp p3]) (h1 : tmps.getD p1 undef = .pointer (some a1)) (h3 : tmps.getD p3 undef = v3)
    (hl : (loadVar t1 a1).run P w = .ok v1 w) : (results fn tmps).run P w = .ok (.tuple #[v1, v3]) w := by
  have h1' : tmps[p1]?.getD undef = .pointer (some a1) := by simpa using h1
  have h3' : tmps[p3]?.getD undef = v3 := by simpa using h3
  simp only [results, h]
  simp [asAddr, h1', h3', hl]

/-- A whole row is read, where it is wanted. -/
theorem wpList_load_midG {P : Program} {ops : Array Oper} {rest : List Oper} {op : Oper} {a : Act} {w : World} {Q : Exit → Act → World → Prop} (hgd : Region.wanted op (yielded ops a.tmps) = true) (ty : TypeId) (x : Operand) (ho : op.op = .load ty x)
    (b o : Nat) (hx : a.eval x = .pointer (some ⟨b, o, none⟩)) (cs : List Value) (d : TypeDesc) (hc : w.rangeAt b o cs)
    (hu : P.underlying ty = some d) (hd : d.isRow = true) (hi : (P.info? ty).map (·.size) = some cs.length)
    (h : wpList P ops Q rest (a.put op.dst (.agg cs.toArray)) w) : wpList P ops Q (op :: rest) a w :=
  wpList_step fun K hK => by rw [if_pos hgd]; exact wp_load_mid ty x ho b o hx cs d hc hu hd hi (hK _ _ h)

end Go.Proofs.Ytilnlphkkbflaaa

namespace Go.Proofs.Ytilnlphkkbflaaa
open Go.RowKit

theorem wp_copy_row {P : Program} {o : Oper} {a : Act} {w : World} {K : Act → World → Prop} {Q : Exit → Act → World → Prop} (d s : Operand) (dT sT : TypeId)
    (ho : o.op = .call { callee := .builtin .copy, args := #[d, s], argTypes := #[dT, sT] }) (elem : TypeId) (hu : P.underlying dT = some (.slice elem)) (hsz : (P.info? elem).map (·.size) = some 1)
    (g off dLen dCap : Nat) (ad : Addr) (sLen sCap : Nat) (hd : a.eval d = .slice (some ⟨g, off, none⟩) dLen dCap) (hs : a.eval s = .slice (some ad) sLen sCap)
    (cur : List Value) (t : TypeId) (hg : w.heap[g]? = some (.cells cur.toArray t (0, 0))) (cs : List Value) (hn : cs.length = Nat.min sLen dLen)
    (hsrc : ∀ j v, cs[j]? = some v → w.cell? (ad.add j) = some v) (hfit : off + cs.length ≤ cur.length) (h1 : ∀ v ∈ cs, v.oneCell' = true)
    (h : ∀ w', Hid (w'.heap[g]? = some (.cells (splice cur off cs).toArray t (0, 0))) → Chg g (g + 1) w w' → K (a.put o.dst (goInt cs.length)) w') :
    Oper.wp P o a w K Q := by
  have hrun := run_copy_row (P := P) w dT sT o.type elem g off dLen dCap ad sLen sCap cur.toArray t cs hu hsz hg hn hsrc (by simpa using hfit) h1
  unfold Oper.wp
  simp [execOp, ho, resolve, invoke, builtin, hd, hs, hrun, Result.andThen]
  exact h _ (show _ = _ by simpa [splice] using setRow_heap w g _ _ t _ hg) (Chg.setRow _ _ _)

end Go.Proofs.Ytilnlphkkbflaaa

namespace Go.Proofs.Ytilnlphkkbflaaa
open Go.RowKit

/-- The bytes of numbers, two each. -/
def putPs (xs : List Int) : List Int := xs.flatMap fun x => putN x 2
theorem put2_len {x : Int} (h : 0 ≤ x ∧ x < 2048) : (putN x 2).length = 2 := by
  unfold putN
  rw [if_neg (by omega), if_neg (by have : (256 : Int) ^ (2 : Int).toNat = 65536 := rfl; rw [this]; omega), digs_length]; rfl
theorem putPs_len {xs : List Int} (h : ∀ x ∈ xs, 0 ≤ x ∧ x < 2048) : (putPs xs).length = 2 * xs.length := by
  unfold putPs
  induction xs with
  | nil => rfl
  | cons x r ih =>
    rw [List.flatMap_cons, List.length_append, put2_len (h x (by simp)), ih (fun y hy => h y (by simp [hy])), List.length_cons]; omega
theorem putPs_take {xs : List Int} {k : Nat} (h : k < xs.length) : putPs (xs.take (k + 1)) = putPs (xs.take k) ++ putN (xs.getD k 0) 2 := by
  unfold putPs
  rw [List.take_succ_eq_append_getElem h, List.flatMap_append]
  simp [List.getD_eq_getElem?_getD, h]
theorem splice_more {c xs ys : List Value} {o : Nat} (h : o + xs.length + ys.length ≤ c.length) : splice (splice c o xs) (o + xs.length) ys = splice c o (xs ++ ys) := by
  have e0 : (c.take o).length = o := by rw [List.length_take]; omega
  have e1 : (c.take o ++ xs).length = o + xs.length := by rw [List.length_append, e0]
  have A : (c.take o ++ (xs ++ c.drop (o + xs.length))).take (o + xs.length) = c.take o ++ xs := by
    rw [← List.append_assoc, List.take_append_of_le_length (by rw [e1]; exact Nat.le_refl _), List.take_of_length_le (by rw [e1]; exact Nat.le_refl _)]
  have B : (c.take o ++ (xs ++ c.drop (o + xs.length))).drop (o + xs.length + ys.length) = c.drop (o + xs.length + ys.length) := by
    rw [← List.append_assoc, List.drop_append, List.drop_eq_nil_of_le (by rw [e1]; omega), List.nil_append, e1, List.drop_drop]
    congr 1; omega
  unfold splice
  simp only [List.append_assoc] at A B ⊢
  rw [A, B, List.length_append, List.append_assoc, show o + (xs.length + ys.length) = o + xs.length + ys.length by omega]
theorem splice_nil {c : List Value} {o : Nat} : splice c o [] = c := by unfold splice; simp

/-- What lies where bytes that are one's own are seen. -/
theorem OwnB.two {x : World} {base : Nat} {e : TypeId} {r : Value} {xs : List Int} {n : Nat} (o2 : OwnB x base e r xs) (hn : xs.length = n) (hp : 0 < n) (hb : n ≤ 1048576) :
    ∃ g gc, r = .slice (some ⟨g, 0, none⟩) n gc ∧ ∀ j v, (xs.map (Value.int .u8))[j]? = some v → x.cell? ((⟨g, 0, none⟩ : Addr).add j) = some v := by
  have hv := o2.view (hi := x.heap.size) (by omega) (fun g hg => (o2.lt g hg).2)
  rcases o2.2 with ⟨_, h0⟩ | ⟨g, gc, cur, rfl, hg, hh, h1, h2, h3, h4⟩
  · omega
  · refine ⟨g, gc, by rw [hn], fun j v hj => ?_⟩
    rw [Addr.add_mid, Nat.zero_add]
    have hj' : cur.toList[j]? = some v := by
      rw [← h4] at hj
      rw [List.getElem?_take] at hj
      split at hj
      · exact hj
      · cases hj
    simp only [World.cell?, hh]
    simpa using hj'

end Go.Proofs.Ytilnlphkkbflaaa

namespace Go.Proofs.Ytilnlphkkbflaaa
open Go.RowKit

theorem wpList_store_row {P : Program} {ops : Array Oper} {rest : List Oper} {op : Oper} {a : Act} {w : World} {Q : Exit → Act → World → Prop} (hgd : op.guard = none) (T : TypeId) (x y : Operand) (ho : op.op = .store T x y) (hd : op.dst = none) (g : Nat) (hx : a.eval x = .pointer (some ⟨g, 0, none⟩))
    (full L : List Value) (t : TypeId) (hy : a.eval y = .agg full.toArray) (hg : w.heap[g]? = some (.cells L.toArray t (0, 0))) (hl : full.length = L.length) (hi : (P.info? T).map (·.size) = some full.length) (h1 : ∀ v ∈ full, v.oneCell' = true)
    (h : ∀ w', w'.heap[g]? = some (.cells full.toArray t (0, 0)) → Chg g (g + 1) w w' → wpList P ops Q rest a w') : wpList P ops Q (op :: rest) a w :=
  wpList_plain hgd fun _ hK => wp_store_row T x y ho hd g hx full L t hy hg hl hi h1 (fun w' h2 h3 => hK _ _ (h w' h2 h3))

end Go.Proofs.Ytilnlphkkbflaaa
