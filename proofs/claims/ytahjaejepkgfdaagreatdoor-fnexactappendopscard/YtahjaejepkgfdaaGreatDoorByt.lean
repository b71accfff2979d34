/- Several short texts in one: IsWithin, LogPlace, GoodSeq, LogValid, Five, LogV, ArrKit, Byt. -/
import Derived.Test.YtahjaejepkgfdaaGreatDoorMem
import Derived.Test.YtahjaejepkgfdaaGreatDoorRows
import Derived.Deep.MidRow
namespace Go.Proofs.YtahjaejepkgfdaaGreatDoor
open Go.RowKit

set_option maxHeartbeats 400000 in
theorem isWithin_calls (w : World) (v l m : Int) : Calls Tryz.prog 71 #[.int .i64 v, .int .i64 l, .int .i64 m] w fun e w' => e = .returned (.bool (decide (l ≤ v) && decide (v ≤ m))) ∧ w' = w := by
  by_cases h1 : l ≤ v
  · by_cases h2 : v ≤ m
    · rw [decide_eq_true h1, decide_eq_true h2]
      go_enter Tryz.func71, Tryz.ntmps71
      go_wp2
      go_ret
      exact ⟨rfl, rfl⟩
    · rw [decide_eq_true h1, decide_eq_false h2]
      go_enter Tryz.func71, Tryz.ntmps71
      go_wp2
      go_ret
      exact ⟨rfl, rfl⟩
  · rw [decide_eq_false h1]
    go_enter Tryz.func71, Tryz.ntmps71
    go_wp2
    go_ret
    exact ⟨rfl, rfl⟩

end Go.Proofs.YtahjaejepkgfdaaGreatDoor

namespace Go.Proofs.YtahjaejepkgfdaaGreatDoor
open Go.RowKit

def placeI (size p n : Int) : Int := (p - 1 + n) % size + 1

set_option maxHeartbeats 400000 in
theorem l4Place_calls (w : World) (size p n : Int) (h1 : 16 ≤ size) (h2 : size ≤ 512) (h3 : 1 ≤ p) (h4 : p ≤ 512) (h5 : 0 ≤ n) (h6 : n ≤ 512) :
    Calls Tryz.prog 19 #[.int .i64 size, .int .i64 p, .int .i64 n] w fun e w' => e = .returned (.int .i64 (placeI size p n)) ∧ w' = w := by
  have hm := Int.emod_nonneg (p - 1 + n) (b := size) (by omega)
  have hm2 := Int.emod_lt_of_pos (p - 1 + n) (b := size) (by omega)
  go_enter Tryz.func19, Tryz.ntmps19
  go_wp2
  go_ret
  exact ⟨rfl, rfl⟩

set_option maxHeartbeats 400000 in
theorem positionFrom_calls (w : World) (size p n : Int) (h1 : 16 ≤ size) (h2 : size ≤ 512) (h3 : 1 ≤ p) (h4 : p ≤ 512) (h5 : 0 ≤ n) (h6 : n ≤ 512) :
    Calls Tryz.prog 26 #[.int .i64 p, .int .i64 n, .int .i64 size] w fun e w' => e = .returned (.int .i64 (placeI size p n)) ∧ w' = w := by
  have hm := Int.emod_nonneg (p - 1 + n) (b := size) (by omega)
  have hm2 := Int.emod_lt_of_pos (p - 1 + n) (b := size) (by omega)
  go_enter Tryz.func26, Tryz.ntmps26
  go_wp2
  go_ret
  exact ⟨rfl, rfl⟩

end Go.Proofs.YtahjaejepkgfdaaGreatDoor

namespace Go.Proofs.YtahjaejepkgfdaaGreatDoor
open Go.RowKit

def goodSeq (q : Int) : Bool := decide (1 ≤ q) && decide (q ≤ 4294967295)

set_option maxHeartbeats 400000 in
theorem l3GoodSeq_calls (w : World) (q : Int) : Calls Tryz.prog 58 #[.int .i64 q] w fun e w' => e = .returned (.bool (goodSeq q)) ∧ w' = w := by
  by_cases h1 : 1 ≤ q
  · by_cases h2 : q ≤ 4294967295
    · have hg : goodSeq q = true := by unfold goodSeq; rw [decide_eq_true h1, decide_eq_true h2]; rfl
      rw [hg]
      go_enter Tryz.func58, Tryz.ntmps58
      go_wp2
      go_ret
      exact ⟨rfl, rfl⟩
    · have hg : goodSeq q = false := by unfold goodSeq; rw [decide_eq_false h2]; simp
      rw [hg]
      go_enter Tryz.func58, Tryz.ntmps58
      go_wp2
      go_ret
      exact ⟨rfl, rfl⟩
  · have hg : goodSeq q = false := by unfold goodSeq; rw [decide_eq_false h1]; rfl
    rw [hg]
    go_enter Tryz.func58, Tryz.ntmps58
    go_wp2
    go_ret
    exact ⟨rfl, rfl⟩

end Go.Proofs.YtahjaejepkgfdaaGreatDoor

namespace Go.Proofs.YtahjaejepkgfdaaGreatDoor
open Go.RowKit

/-- The bounds of a log. -/
abbrev InLog (sz st sq hd us : Int) : Prop := (16 ≤ sz ∧ sz ≤ 512) ∧ (1 ≤ sq ∧ sq ≤ 4294967295) ∧ (0 ≤ st ∧ st ≤ sz) ∧ (1 ≤ hd ∧ hd ≤ sz) ∧ (0 ≤ us ∧ us ≤ sz)
/-- ValidLog. -/
def validLog (sz st sq hd us : Int) : Bool := decide (InLog sz st sq hd us) && (if st = 0 then decide (us = 0) else decide (hd = placeI sz st us))

theorem validLog_out {sz st sq hd us : Int} (h : ¬ InLog sz st sq hd us) : validLog sz st sq hd us = false := by unfold validLog; rw [decide_eq_false h]; rfl
theorem validLog_zero {sz st sq hd us : Int} (h : InLog sz st sq hd us) (h0 : st = 0) : validLog sz st sq hd us = decide (us = 0) := by unfold validLog; rw [decide_eq_true h, if_pos h0]; rfl
theorem validLog_at {sz st sq hd us : Int} (h : InLog sz st sq hd us) (h0 : ¬ st = 0) : validLog sz st sq hd us = decide (hd = placeI sz st us) := by unfold validLog; rw [decide_eq_true h, if_neg h0]; rfl

set_option maxRecDepth 20000 in
set_option maxHeartbeats 2000000 in
theorem specValidLog_calls (w : World) (sz st sq hd us : Int) :
    Calls Tryz.prog 36 #[.agg #[.int .i64 sz, .int .i64 st, .int .i64 sq, .int .i64 hd, .int .i64 us]] w fun e w' => e = .returned (.bool (validLog sz st sq hd us)) ∧ Chg 0 0 w w' := by
  have HC : Hid (Chg 0 0 w (w.alloc (.cells #[.int .i64 sz, .int .i64 st, .int .i64 sq, .int .i64 hd, .int .i64 us] 31))) := Chg.alloc (Chg.refl 0 0 w) _
  go_enter Tryz.func36, Tryz.ntmps36
  go_wp2_with fail
  refine (l3GoodSeq_calls _ sq).mono ?_
  rintro e w1 ⟨rfl, rfl⟩
  by_cases g1 : goodSeq sq = true
  case neg =>
    have hv : validLog sz st sq hd us = false := validLog_out (fun h => g1 (by unfold goodSeq; rw [decide_eq_true h.2.1.1, decide_eq_true h.2.1.2]; rfl))
    rw [Bool.not_eq_true] at g1
    rw [g1]
    go_wp2
    go_ret
    exact ⟨by rw [hv]; rfl, HC.out⟩
  have gq : 1 ≤ sq ∧ sq ≤ 4294967295 := by
    unfold goodSeq at g1; simpa using g1
  rw [g1]
  by_cases c : InLog sz st sq hd us
  case neg =>
    have hv : validLog sz st sq hd us = false := validLog_out c
    have fin : ∀ {x : Prop}, x ∨ True := fun {x} => Or.inr trivial
    by_cases c1 : sz < 16
    · go_wp2
      go_ret
      exact ⟨by rw [hv]; rfl, HC.out⟩
    by_cases c2 : 512 < sz
    · go_wp2
      go_ret
      exact ⟨by rw [hv]; rfl, HC.out⟩
    by_cases c3 : st < 0
    · go_wp2
      go_ret
      exact ⟨by rw [hv]; rfl, HC.out⟩
    by_cases c4 : sz < st
    · go_wp2
      go_ret
      exact ⟨by rw [hv]; rfl, HC.out⟩
    by_cases c5 : hd < 1
    · go_wp2
      go_ret
      exact ⟨by rw [hv]; rfl, HC.out⟩
    by_cases c6 : sz < hd
    · go_wp2
      go_ret
      exact ⟨by rw [hv]; rfl, HC.out⟩
    by_cases c7 : us < 0
    · go_wp2
      go_ret
      exact ⟨by rw [hv]; rfl, HC.out⟩
    by_cases c8 : sz < us
    · go_wp2
      go_ret
      exact ⟨by rw [hv]; rfl, HC.out⟩
    exact absurd ⟨⟨by omega, by omega⟩, gq, ⟨by omega, by omega⟩, ⟨by omega, by omega⟩, ⟨by omega, by omega⟩⟩ c
  obtain ⟨⟨a1, a2⟩, ⟨a3, a4⟩, ⟨a5, a6⟩, ⟨a7, a8⟩, ⟨a9, a10⟩⟩ := id c
  by_cases c0 : st = 0
  · subst c0
    have hv := validLog_zero c rfl
    have Hv : Hid (validLog sz 0 sq hd us = decide (us = 0)) := hv
    clear hv c
    go_wp2
    go_ret
    exact ⟨by rw [Hv.out]; rfl, HC.out⟩
  have hv := validLog_at c c0
  have Hv : Hid (validLog sz st sq hd us = decide (hd = placeI sz st us)) := hv
  clear hv c
  go_wp2_with fail
  go_quiet (first | (go_at_call 19; exact Calls.quiet_of_same (l4Place_calls _ sz st us a1 a2 (by omega) (by omega) a9 (by omega))))
  go_wp2
  go_ret
  exact ⟨by rw [Hv.out]; rfl, HC.out.drewN _⟩

set_option maxRecDepth 20000 in
set_option maxHeartbeats 2000000 in
theorem implValidLog_calls (w : World) (sz st sq hd us : Int) :
    Calls Tryz.prog 46 #[.agg #[.int .i64 sz, .int .i64 st, .int .i64 sq, .int .i64 hd, .int .i64 us]] w fun e w' => e = .returned (.bool (validLog sz st sq hd us)) ∧ Chg 0 0 w w' := by
  have HC : Hid (Chg 0 0 w (w.alloc (.cells #[.int .i64 sz, .int .i64 st, .int .i64 sq, .int .i64 hd, .int .i64 us] 31))) := Chg.alloc (Chg.refl 0 0 w) _
  go_enter Tryz.func46, Tryz.ntmps46
  go_wp2_with fail
  refine (isWithin_calls _ sz 16 512).mono ?_
  rintro e w1 ⟨rfl, rfl⟩
  by_cases c1 : 16 ≤ sz ∧ sz ≤ 512
  case neg =>
    have hv : validLog sz st sq hd us = false := validLog_out (fun h => c1 h.1)
    have hb : (decide (16 ≤ sz) && decide (sz ≤ 512)) = false := by rw [Bool.eq_false_iff]; simpa using c1
    rw [hb]
    go_wp2
    go_ret
    exact ⟨by rw [hv]; rfl, HC.out⟩
  have hb : (decide (16 ≤ sz) && decide (sz ≤ 512)) = true := by simpa using c1
  rw [hb]
  clear hb
  go_wp2_with fail
  refine (isWithin_calls _ sq 1 4294967295).mono ?_
  rintro e w1 ⟨rfl, rfl⟩
  by_cases c2 : 1 ≤ sq ∧ sq ≤ 4294967295
  case neg =>
    have hv : validLog sz st sq hd us = false := validLog_out (fun h => c2 h.2.1)
    have hb : (decide (1 ≤ sq) && decide (sq ≤ 4294967295)) = false := by rw [Bool.eq_false_iff]; simpa using c2
    rw [hb]
    go_wp2
    go_ret
    exact ⟨by rw [hv]; rfl, HC.out⟩
  have hb : (decide (1 ≤ sq) && decide (sq ≤ 4294967295)) = true := by simpa using c2
  rw [hb]
  clear hb
  go_wp2_with fail
  refine (isWithin_calls _ st 0 sz).mono ?_
  rintro e w1 ⟨rfl, rfl⟩
  by_cases c3 : 0 ≤ st ∧ st ≤ sz
  case neg =>
    have hv : validLog sz st sq hd us = false := validLog_out (fun h => c3 h.2.2.1)
    have hb : (decide (0 ≤ st) && decide (st ≤ sz)) = false := by rw [Bool.eq_false_iff]; simpa using c3
    rw [hb]
    go_wp2
    go_ret
    exact ⟨by rw [hv]; rfl, HC.out⟩
  have hb : (decide (0 ≤ st) && decide (st ≤ sz)) = true := by simpa using c3
  rw [hb]
  clear hb
  go_wp2_with fail
  refine (isWithin_calls _ hd 1 sz).mono ?_
  rintro e w1 ⟨rfl, rfl⟩
  by_cases c4 : 1 ≤ hd ∧ hd ≤ sz
  case neg =>
    have hv : validLog sz st sq hd us = false := validLog_out (fun h => c4 h.2.2.2.1)
    have hb : (decide (1 ≤ hd) && decide (hd ≤ sz)) = false := by rw [Bool.eq_false_iff]; simpa using c4
    rw [hb]
    go_wp2
    go_ret
    exact ⟨by rw [hv]; rfl, HC.out⟩
  have hb : (decide (1 ≤ hd) && decide (hd ≤ sz)) = true := by simpa using c4
  rw [hb]
  clear hb
  go_wp2_with fail
  refine (isWithin_calls _ us 0 sz).mono ?_
  rintro e w1 ⟨rfl, rfl⟩
  by_cases c5 : 0 ≤ us ∧ us ≤ sz
  case neg =>
    have hv : validLog sz st sq hd us = false := validLog_out (fun h => c5 h.2.2.2.2)
    have hb : (decide (0 ≤ us) && decide (us ≤ sz)) = false := by rw [Bool.eq_false_iff]; simpa using c5
    rw [hb]
    go_wp2
    go_ret
    exact ⟨by rw [hv]; rfl, HC.out⟩
  have hb : (decide (0 ≤ us) && decide (us ≤ sz)) = true := by simpa using c5
  rw [hb]
  clear hb
  have c : InLog sz st sq hd us := ⟨c1, c2, c3, c4, c5⟩
  obtain ⟨⟨a1, a2⟩, ⟨a3, a4⟩, ⟨a5, a6⟩, ⟨a7, a8⟩, ⟨a9, a10⟩⟩ := id c
  clear c1 c2 c3 c4 c5
  by_cases c0 : st = 0
  · subst c0
    have hv := validLog_zero c rfl
    have Hv : Hid (validLog sz 0 sq hd us = decide (us = 0)) := hv
    clear hv c
    go_wp2
    go_ret
    exact ⟨by rw [Hv.out]; rfl, HC.out⟩
  have hv := validLog_at c c0
  have Hv : Hid (validLog sz st sq hd us = decide (hd = placeI sz st us)) := hv
  clear hv c
  go_wp2_with fail
  go_quiet (first | (go_at_call 26; exact Calls.quiet_of_same (positionFrom_calls _ sz st us a1 a2 (by omega) (by omega) a9 (by omega))))
  go_wp2
  go_ret
  exact ⟨by rw [Hv.out]; rfl, HC.out.drewN _⟩

set_option maxRecDepth 20000 in
set_option maxHeartbeats 1000000 in
theorem toLog_calls (w : World) (sz st sq hd us : Int) :
    Calls Tryz.prog 6 #[.agg #[.int .i64 sz, .int .i64 st, .int .i64 sq, .int .i64 hd, .int .i64 us]] w fun e w' => e = .returned (.agg #[.int .i64 sz, .int .i64 st, .int .i64 sq, .int .i64 hd, .int .i64 us]) ∧ Chg 0 0 w w' := by
  go_enter Tryz.func6, Tryz.ntmps6
  go_wp2
  exact bodyPost_ret (v := .agg #[.int .i64 sz, .int .i64 st, .int .i64 sq, .int .i64 hd, .int .i64 us]) (by simp [results, Tryz.results6, go_sem]) rfl ⟨rfl, ((Chg.alloc (Chg.refl 0 0 w) _).alloc _).alloc _⟩

end Go.Proofs.YtahjaejepkgfdaaGreatDoor

namespace Go.Proofs.YtahjaejepkgfdaaGreatDoor
open Go.RowKit

theorem five_cells {w : World} {s : Nat} {a b c d e : Value} {t : TypeId} (h : w.heap[s]? = some (.cells #[a, b, c, d, e] t (0, 0))) :
    w.cell? ⟨s, 0, none⟩ = some a ∧ w.cell? ⟨s, 1, none⟩ = some b ∧ w.cell? ⟨s, 2, none⟩ = some c ∧ w.cell? ⟨s, 3, none⟩ = some d ∧ w.cell? ⟨s, 4, none⟩ = some e := by
  simp [World.cell?, h]
theorem five_all {w : World} {s : Nat} {a b c d e : Value} {t : TypeId} (h : w.heap[s]? = some (.cells #[a, b, c, d, e] t (0, 0))) :
    (w.cell? ⟨s, 0, none⟩ = some a ∧ w.cell? ⟨s, 1, none⟩ = some b ∧ w.cell? ⟨s, 2, none⟩ = some c ∧ w.cell? ⟨s, 3, none⟩ = some d ∧ w.cell? ⟨s, 4, none⟩ = some e) ∧
      w.frozen? ⟨s, 0, none⟩ = false ∧ w.frozen? ⟨s, 1, none⟩ = false ∧ w.frozen? ⟨s, 2, none⟩ = false ∧ w.frozen? ⟨s, 3, none⟩ = false ∧ w.frozen? ⟨s, 4, none⟩ = false := by
  simp [World.cell?, World.frozen?, h]

end Go.Proofs.YtahjaejepkgfdaaGreatDoor

namespace Go.Proofs.YtahjaejepkgfdaaGreatDoor
open Go.RowKit

/-- A log as a value. -/
abbrev logV (sz st sq hd us : Int) : Value := .agg #[.int .i64 sz, .int .i64 st, .int .i64 sq, .int .i64 hd, .int .i64 us]
abbrev logO (t : TypeId) (sz st sq hd us : Int) : Obj := .cells #[.int .i64 sz, .int .i64 st, .int .i64 sq, .int .i64 hd, .int .i64 us] t

end Go.Proofs.YtahjaejepkgfdaaGreatDoor

namespace Go.Proofs.YtahjaejepkgfdaaGreatDoor
open Go.RowKit

/-- The block b has these cells. -/
def ArrC (w : World) (b : Nat) (T : TypeId) (cs : List Value) : Prop := w.heap[b]? = some (.cells cs.toArray T (0, 0))
theorem ArrC.lt {w : World} {b : Nat} {T : TypeId} {cs : List Value} (h : ArrC w b T cs) : b < w.heap.size := (Array.getElem?_eq_some_iff.1 h).1
theorem ArrC.cell {w : World} {b : Nat} {T : TypeId} {cs : List Value} (h : ArrC w b T cs) (i : Nat) {v : Value} (hv : cs[i]? = some v) : w.cell? ⟨b, i, none⟩ = some v := by
  have h' : w.heap[b]? = some (.cells cs.toArray T (0, 0)) := h
  simp only [World.cell?, h']
  simpa using hv
theorem ArrC.frozen {w : World} {b : Nat} {T : TypeId} {cs : List Value} (h : ArrC w b T cs) (i : Nat) : w.frozen? ⟨b, i, none⟩ = false := by
  have h' : w.heap[b]? = some (.cells cs.toArray T (0, 0)) := h
  simp [World.frozen?, h']
theorem ArrC.put {w : World} {b : Nat} {T : TypeId} {cs : List Value} (h : ArrC w b T cs) (i : Nat) (v : Value) : ArrC (w.setCell ⟨b, i, none⟩ v) b T (cs.set i v) := by
  have h' : w.heap[b]? = some (.cells cs.toArray T (0, 0)) := h
  show (w.setCell ⟨b, i, none⟩ v).heap[b]? = _
  simp only [World.setCell, Array.getElem?_modify, if_true, h', Option.map_some]
  simp
theorem ArrC.chg {w w' : World} {b l r : Nat} {T : TypeId} {cs : List Value} (h : ArrC w b T cs) (c : Chg l r w w') (d : b < l ∨ r ≤ b) : ArrC w' b T cs := (c.block b h.lt d).trans h
theorem ArrC.range {w : World} {b : Nat} {T : TypeId} {cs : List Value} (h : ArrC w b T cs) : w.rangeAt b 0 cs := by
  intro j v hv
  rw [Nat.zero_add]
  exact h.cell j hv
theorem ArrC.new (w : World) (T : TypeId) (cs : List Value) : ArrC (w.alloc (.cells cs.toArray T)) w.heap.size T cs := heap_new w _

/-- One of an array that is a value. -/
theorem run_idx {P : Program} {t e : TypeId} {n : Nat} {kd : IntKind} {row : List Value} {k : Nat} {v : Value} (h : P.underlying t = some (.array n e)) (he : P.underlying e = some (.int kd)) (hs : (P.info? e).map (·.size) = some 1) (hk : k < n) (hv : row[k]? = some v) (w : World) :
    (Instr.index t (.agg row.toArray) (.int .i64 (k : Int))).run P w = .ok v w := by
  cases hq : P.info? e with
  | none => rw [hq] at hs; cases hs
  | some i =>
    have hs : i.size = 1 := by simpa [hq] using hs
    have hk' : 0 ≤ (k : Int) ∧ (k : Int) < (n : Int) := by omega
    have hkl : k < row.length := (List.getElem?_eq_some_iff.1 hv).1
    have hv' : row[k] = v := (List.getElem?_eq_some_iff.1 hv).2
    simp [Instr.index, run_underlying h, asIntOf, hk', part, isAgg, run_underlying he, sizeOf, typeInfo, hq, hs, hkl, hv', go_sem]
    intro hc
    omega

theorem results_ct {P : Program} {fn : Func} {p1 p3 : Tmp} {t1 : TypeId} {w : World} {tmps : Array Value} {a1 : Addr} {v1 v3 : Value} (h : fn.results = #[.cell p1 t1, .tmp p3]) (h1 : tmps.getD p1 undef = .pointer (some a1)) (h3 : tmps.getD p3 undef = v3)
    (hl : (loadVar t1 a1).run P w = .ok v1 w) : (results fn tmps).run P w = .ok (.tuple #[v1, v3]) w := by
  have h1' : tmps[p1]?.getD undef = .pointer (some a1) := by simpa using h1
  have h3' : tmps[p3]?.getD undef = v3 := by simpa using h3
  simp only [results, h]
  simp [asAddr, h1', h3', hl]

/-- A whole row is read, where it is wanted. -/
theorem wpList_load_midG {P : Program} {ops : Array Oper} {rest : List Oper} {op : Oper} {a : Act} {w : World} {Q : Exit → Act → World → Prop} (hgd : Region.wanted op (yielded ops a.tmps) = true) (ty : TypeId) (x : Operand) (ho : op.op = .load ty x)
    (b o : Nat) (hx : a.eval x = .pointer (some ⟨b, o, none⟩)) (cs : List Value) (d : TypeDesc) (hc : w.rangeAt b o cs)
    (hu : P.underlying ty = some d) (hd : d.isRow = true) (hi : (P.info? ty).map (·.size) = some cs.length)
    (h : wpList P ops Q rest (a.put op.dst (.agg cs.toArray)) w) : wpList P ops Q (op :: rest) a w :=
  wpList_step fun K hK => by rw [if_pos hgd]; exact wp_load_mid ty x ho b o hx cs d hc hu hd hi (hK _ _ h)

end Go.Proofs.YtahjaejepkgfdaaGreatDoor

namespace Go.Proofs.YtahjaejepkgfdaaGreatDoor
open Go.RowKit

def Byt (xs : List Int) : Prop := ∀ x ∈ xs, 0 ≤ x ∧ x < 256

theorem Byt.getD {xs : List Int} (h : Byt xs) (k : Nat) : 0 ≤ xs.getD k 0 ∧ xs.getD k 0 < 256 := by
  rw [List.getD_eq_getElem?_getD]
  by_cases hk : k < xs.length
  · rw [List.getElem?_eq_getElem hk]; exact h _ (List.getElem_mem hk)
  · rw [List.getElem?_eq_none (by omega)]; simp

theorem byt_of_wf {xs : List Int} (h : ∀ x ∈ xs, (Lit.int .u8 x).wf = true) : Byt xs := by
  intro x hx
  have h1 := h x hx
  have h2 : IntKind.u8.min ≤ x ∧ x ≤ IntKind.u8.max := by simpa [Lit.wf] using h1
  have e1 : IntKind.u8.min = 0 := by decide
  have e2 : IntKind.u8.max = 255 := by decide
  omega

theorem Byt.take {xs : List Int} (h : Byt xs) (n : Nat) : Byt (xs.take n) := fun x hx => h x (List.mem_of_mem_take hx)
theorem Byt.drop {xs : List Int} (h : Byt xs) (n : Nat) : Byt (xs.drop n) := fun x hx => h x (List.mem_of_mem_drop hx)

end Go.Proofs.YtahjaejepkgfdaaGreatDoor
