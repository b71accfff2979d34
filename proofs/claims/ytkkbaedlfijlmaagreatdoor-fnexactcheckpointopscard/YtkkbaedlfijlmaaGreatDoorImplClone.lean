/- Several short texts in one: TailSpec, SpecCkpt, ImplClone. -/
import Derived.Test.YtkkbaedlfijlmaaGreatDoorSuperOp
import Derived.Test.YtkkbaedlfijlmaaGreatDoorSpecBeg
import Derived.Test.YtkkbaedlfijlmaaGreatDoorWeak
namespace Go.Proofs.YtkkbaedlfijlmaaGreatDoor
open Go.RowKit

set_option maxRecDepth 20000 in
set_option maxHeartbeats 2000000 in
theorem specTail_calls (w : World) (sz st sq hd us : Int) :
    Calls Tryz.prog 17 #[.agg #[.int .i64 sz, .int .i64 st, .int .i64 sq, .int .i64 hd, .int .i64 us]] w fun e w' => ∃ v, e = .returned v ∧ (∃ cells dvs, OwnOx w' w.heap.size 44 5 v (tailO sz st sq hd us) cells dvs) ∧ Chg 0 0 w w' := by
  have C0 : Chg 0 0 w (w.alloc (.cells #[.int .i64 sz, .int .i64 st, .int .i64 sq, .int .i64 hd, .int .i64 us] 28)) := Chg.alloc (Chg.refl 0 0 w) _
  have B0 := heap_new w (.cells #[.int .i64 sz, .int .i64 st, .int .i64 sq, .int .i64 hd, .int .i64 us] 28)
  have s0 : (w.alloc (.cells #[.int .i64 sz, .int .i64 st, .int .i64 sq, .int .i64 hd, .int .i64 us] 28)).heap.size = w.heap.size + 1 := by simp
  have HC : Hid (Chg 0 0 w (w.alloc (.cells #[.int .i64 sz, .int .i64 st, .int .i64 sq, .int .i64 hd, .int .i64 us] 28))) := C0
  have HB : Hid ((w.alloc (.cells #[.int .i64 sz, .int .i64 st, .int .i64 sq, .int .i64 hd, .int .i64 us] 28)).heap[w.heap.size]? = some (.cells #[.int .i64 sz, .int .i64 st, .int .i64 sq, .int .i64 hd, .int .i64 us] 28 (0, 0))) := B0
  have HE : Hid (∀ w1 : World, w.heap.size ≤ w1.heap.size → OwnOx (w1.alloc (.cells #[] 44)) w.heap.size 44 5 (.slice (some ⟨w1.heap.size, 0, none⟩) 0 0) [] [] (fun _ => .slice none 0 0)) := by
    intro w1 hh
    have := World.ownsRow_lit (base := w.heap.size) (e := 44) (size := 3) w1 #[] 0 hh (by unfold maxLen; omega) rfl
    exact ⟨by simpa using this, fun i h => absurd h (Nat.not_lt_zero i), fun i h => absurd h (Nat.not_lt_zero i), fun i h => absurd h (Nat.not_lt_zero i), fun i h => absurd h (Nat.not_lt_zero i), fun _ j _ _ h => absurd h (Nat.not_lt_zero j)⟩
  clear C0 B0
  go_enter Tryz.func17, Tryz.ntmps17
  go_wp2_with fail
  generalize w.alloc (.cells #[.int .i64 sz, .int .i64 st, .int .i64 sq, .int .i64 hd, .int .i64 us] 28) = w0 at *
  refine (specValidLog_calls _ sz st sq hd us).mono ?_
  rintro e w1 ⟨rfl, h1⟩
  have HC1 : Hid (Chg 0 0 w w1) := HC.out.trans h1
  have HB1 : Hid (w1.heap[w.heap.size]? = some (.cells #[.int .i64 sz, .int .i64 st, .int .i64 sq, .int .i64 hd, .int .i64 us] 28 (0, 0))) := (h1.block _ (by omega) (by omega)).trans HB.out
  obtain ⟨k0, k1, k2, k3, k4⟩ := five_cells HB1.out
  have s1 := h1.size
  have HE1 : Hid (OwnOx (w1.alloc (.cells #[] 44)) w.heap.size 44 5 (.slice (some ⟨w1.heap.size, 0, none⟩) 0 0) [] [] (fun _ => .slice none 0 0)) := HE.out w1 (by omega)
  have HCE : Hid (Chg 0 0 w (w1.alloc (.cells #[] 44))) := HC1.out.alloc _
  clear h1 HE
  by_cases hv : validLog sz st sq hd us = true
  case neg =>
    have Ht : Hid (tailO sz st sq hd us = []) := by show _ = _; unfold tailO; rw [if_neg (fun h => hv h.1)]
    rw [Bool.not_eq_true] at hv
    rw [hv]
    clear hv
    go_wp2
    go_ret
    exact ⟨_, rfl, by rw [Ht.out]; exact ⟨_, _, HE1.out⟩, HCE.out⟩
  by_cases hu : us = 0
  · subst hu
    have Ht : Hid (tailO sz st sq hd 0 = []) := by show _ = _; unfold tailO; rw [if_neg (fun h => h.2 rfl)]
    rw [hv]
    clear hv
    go_wp2
    go_ret
    exact ⟨_, rfl, by rw [Ht.out]; exact ⟨_, _, HE1.out⟩, HCE.out⟩
  have Ht : Hid (tailO sz st sq hd us = twoOps (supL 106 108 111 103 1 sz sq hd)) := by show _ = _; unfold tailO; rw [if_pos ⟨hv, hu⟩]
  have hN := l4Super_ok w1 sz st sq hd us (okS_of_valid hv)
  have hue : (us == 0) = false := by simpa using hu
  rw [hv]
  clear hv hu
  go_wp2_with fail
  refine hN.mono ?_
  rintro e w2 ⟨g, cp, rfl, ho, h2⟩
  have HC2 : Hid (Chg 0 0 w w2) := HC1.out.trans h2
  have s2 := h2.size
  have HX : Hid (∃ cells dvs, OwnOx (w2.alloc (.cells #[.int .i64 1, .int .i64 1, .slice (some ⟨g, 0, none⟩) 64 cp, .int .i64 2, .int .i64 0, .slice none 0 0] 44)) w.heap.size 44 5 (.slice (some ⟨w2.heap.size, 0, none⟩) 2 2) (twoOps (supL 106 108 111 103 1 sz sq hd)) cells dvs) :=
    twoOps_own w2 w.heap.size g cp _ (by omega) (ho.base (fun g hg => by have := (ho.lt g hg).1; have := HC1.out.size; omega))
  have HC3 : Hid (Chg 0 0 w (w2.alloc (.cells #[.int .i64 1, .int .i64 1, .slice (some ⟨g, 0, none⟩) 64 cp, .int .i64 2, .int .i64 0, .slice none 0 0] 44))) := HC2.out.alloc _
  clear hN ho h2
  go_wp2
  go_ret
  exact ⟨_, rfl, by rw [Ht.out]; exact HX.out, HC3.out⟩

end Go.Proofs.YtkkbaedlfijlmaaGreatDoor

namespace Go.Proofs.YtkkbaedlfijlmaaGreatDoor
open Go.RowKit

/-- The flush behind the homes. -/
def flushO (ps : List Wr) : List Opx := if ps.length = 0 then [] else [(2, 0, [])]

/-- CheckpointOps. -/
def ckptO (sz st sq hd us : Int) (ps : List Wr) : List Opx := if validLog sz st sq hd us = true ∧ us ≠ 0 ∧ ps.length ≤ 600 then (opsOf ps ++ flushO ps) ++ twoOps (supL 106 108 111 103 1 sz sq hd) else []

theorem OwnOx.sl {w : World} {base : Nat} {eO eB : TypeId} {v : Value} {os : List Opx} {cells : List Value} {dvs : Nat → Value} (h : OwnOx w base eO eB v os cells dvs) : ∃ a c, v = .slice a os.length c := by
  rcases h.row.2 with ⟨rfl, h0⟩ | ⟨g, cap, _, rfl, _⟩
  · exact ⟨Option.none, 0, by rw [h0]⟩
  · exact ⟨_, _, rfl⟩

theorem OwnOx.dbl {w : World} {base : Nat} {eO eB : TypeId} {v : Value} {os : List Opx} {cells : List Value} {dvs : Nat → Value} (h : OwnOx w base eO eB v os cells dvs) : ∀ i g, i < os.length → (dvs i).ownBlock = some g → base ≤ g ∧ g < w.heap.size :=
  fun i g hi hg => (h.data i hi).lt g hg

set_option maxRecDepth 20000 in
set_option maxHeartbeats 2000000 in
theorem specCkpt_calls (w : World) (sz st sq hd us : Int) {lo hi : Nat} {hv : Value} {ps : List Wr} (hl : cnt ps ≤ 1048576) (h1 : PView w lo hi hv ps) :
    Calls Tryz.prog 5 #[.agg #[.int .i64 sz, .int .i64 st, .int .i64 sq, .int .i64 hd, .int .i64 us], hv] w fun e w' => ∃ v, e = .returned v ∧ (∃ cells dvs, OwnOx w' w.heap.size 44 5 v (ckptO sz st sq hd us ps) cells dvs) ∧ Chg 0 0 w w' := by
  have C0 : Chg 0 0 w (w.alloc (.cells #[.int .i64 sz, .int .i64 st, .int .i64 sq, .int .i64 hd, .int .i64 us] 28)) := Chg.alloc (Chg.refl 0 0 w) _
  have B0 := heap_new w (.cells #[.int .i64 sz, .int .i64 st, .int .i64 sq, .int .i64 hd, .int .i64 us] 28)
  have s0 : (w.alloc (.cells #[.int .i64 sz, .int .i64 st, .int .i64 sq, .int .i64 hd, .int .i64 us] 28)).heap.size = w.heap.size + 1 := by simp
  have HC : Hid (Chg 0 0 w (w.alloc (.cells #[.int .i64 sz, .int .i64 st, .int .i64 sq, .int .i64 hd, .int .i64 us] 28))) := C0
  have HB : Hid ((w.alloc (.cells #[.int .i64 sz, .int .i64 st, .int .i64 sq, .int .i64 hd, .int .i64 us] 28)).heap[w.heap.size]? = some (.cells #[.int .i64 sz, .int .i64 st, .int .i64 sq, .int .i64 hd, .int .i64 us] 28 (0, 0))) := B0
  have V0 : Hid (PView w lo hi hv ps) := h1
  have HN : Hid (∀ w1 : World, w.heap.size ≤ w1.heap.size → OwnOx (w1.alloc (.cells #[] 44)) w.heap.size 44 5 (.slice (some ⟨w1.heap.size, 0, none⟩) 0 0) [] [] (fun _ => .slice none 0 0)) := fun w1 hh => OwnOx.nil w1 _ hh
  obtain ⟨ao, cap, rfl, hle, _, _⟩ := h1
  clear C0 B0
  go_enter Tryz.func5, Tryz.ntmps5
  go_wp2_with fail
  generalize w.alloc (.cells #[.int .i64 sz, .int .i64 st, .int .i64 sq, .int .i64 hd, .int .i64 us] 28) = w0 at *
  refine (specValidLog_calls _ sz st sq hd us).mono ?_
  rintro e w1 ⟨rfl, h1⟩
  have HC1 : Hid (Chg 0 0 w w1) := HC.out.trans h1
  have HB1 : Hid (w1.heap[w.heap.size]? = some (.cells #[.int .i64 sz, .int .i64 st, .int .i64 sq, .int .i64 hd, .int .i64 us] 28 (0, 0))) := (h1.block _ (by omega) (by omega)).trans HB.out
  obtain ⟨k0, k1, k2, k3, k4⟩ := five_cells HB1.out
  have s1 := h1.size
  have HN1 := HN.out w1 (by omega)
  have HE1 : Hid (OwnOx (w1.alloc (.cells #[] 44)) w.heap.size 44 5 (.slice (some ⟨w1.heap.size, 0, none⟩) 0 0) [] [] (fun _ => .slice none 0 0)) := HN1
  have HCE : Hid (Chg 0 0 w (w1.alloc (.cells #[] 44))) := HC1.out.alloc _
  clear h1 HN HN1
  by_cases hv : validLog sz st sq hd us = true
  case neg =>
    have Ht : Hid (ckptO sz st sq hd us ps = []) := by show _ = _; unfold ckptO; rw [if_neg (fun h => hv h.1)]
    rw [Bool.not_eq_true] at hv
    rw [hv]
    clear hv
    go_wp2
    go_ret
    exact ⟨_, rfl, by rw [Ht.out]; exact ⟨_, _, HE1.out⟩, HCE.out⟩
  by_cases hu : us = 0
  · subst hu
    have Ht : Hid (ckptO sz st sq hd 0 ps = []) := by show _ = _; unfold ckptO; rw [if_neg (fun h => h.2.1 rfl)]
    rw [hv]
    clear hv
    go_wp2
    go_ret
    exact ⟨_, rfl, by rw [Ht.out]; exact ⟨_, _, HE1.out⟩, HCE.out⟩
  have hue : (us == 0) = false := by simpa using hu
  by_cases hp : (600 : Int) < (ps.length : Int)
  · have Ht : Hid (ckptO sz st sq hd us ps = []) := by show _ = _; unfold ckptO; rw [if_neg (fun h => by have := h.2.2; omega)]
    rw [hv]
    clear hv hu
    go_wp2
    go_ret
    exact ⟨_, rfl, by rw [Ht.out]; exact ⟨_, _, HE1.out⟩, HCE.out⟩
  have Ht : Hid (ckptO sz st sq hd us ps = (opsOf ps ++ flushO ps) ++ twoOps (supL 106 108 111 103 1 sz sq hd)) := by show _ = _; unfold ckptO; rw [if_pos ⟨hv, hu, by omega⟩]
  have HTl : Hid (tailO sz st sq hd us = twoOps (supL 106 108 111 103 1 sz sq hd)) := by show _ = _; unfold tailO; rw [if_pos ⟨hv, hu⟩]
  have hW := l5Writes_calls w1 hl (V0.out.chg HC1.out (by omega))
  rw [hv]
  clear hv hu
  go_wp2_with fail
  clear k0 k1 k2 k3 k4
  refine hW.mono ?_
  rintro e w2 ⟨v2, rfl, ⟨cells, dvs, o2⟩, h2⟩
  have HC2 : Hid (Chg 0 0 w w2) := HC1.out.trans h2
  have HB2 : Hid (w2.heap[w.heap.size]? = some (.cells #[.int .i64 sz, .int .i64 st, .int .i64 sq, .int .i64 hd, .int .i64 us] 28 (0, 0))) := (h2.block _ (by omega) (by omega)).trans HB1.out
  have s2 := h2.size
  obtain ⟨oa, oc, rfl⟩ := o2.sl
  have HO2 : Hid (OwnOx w2 w.heap.size 44 5 (.slice oa ps.length oc) (opsOf ps) cells dvs) := by have := o2.base (base' := w.heap.size) (by omega); rw [opsOf_length] at this; exact this
  rw [opsOf_length]
  clear hW h2 o2 HC1 HB1 HE1 HCE
  have hbw : w.heap.size < w2.heap.size := by omega
  go_upto_if 26 with fail
  go_cut [6] (fun o wx => ∃ a c cells dvs, o = .slice a (opsOf ps ++ flushO ps).length c ∧ OwnOx wx w.heap.size 44 5 (.slice a (opsOf ps ++ flushO ps).length c) (opsOf ps ++ flushO ps) cells dvs ∧ Chg 0 0 w wx ∧ w2.heap.size ≤ wx.heap.size ∧ wx.heap[w.heap.size]? = some (.cells #[.int .i64 sz, .int .i64 st, .int .i64 sq, .int .i64 hd, .int .i64 us] 28 (0, 0)))
  case first =>
    by_cases h0 : ps.length = 0
    · have Hf : Hid (opsOf ps ++ flushO ps = opsOf ps) := by show _ = _; unfold flushO; rw [if_pos h0, List.append_nil]
      have hz : ¬ ((0 : Int) < (ps.length : Int)) := by omega
      clear h0
      go_wp2
      go_meet
      rw [Hf.out, opsOf_length]
      exact ⟨_, _, _, _, rfl, HO2.out, HC2.out, Nat.le_refl _, HB2.out⟩
    · have Hf : Hid (opsOf ps ++ flushO ps = opsOf ps ++ [(2, 0, [])]) := by show _ = _; unfold flushO; rw [if_neg h0]
      have hz : (0 : Int) < (ps.length : Int) := by omega
      have HX : Hid (OwnOx (w2.alloc (.cells #[.int .i64 2, .int .i64 0, .slice none 0 0] 44)) w.heap.size 44 5 (.slice (some ⟨w2.heap.size, 0, none⟩) 1 1) [(2, 0, [])] [.int .i64 2, .int .i64 0, .slice none 0 0] (fun _ => .slice none 0 0)) := oneOp_own w2 w.heap.size 2 0 (.slice none 0 0) [] (by omega) ⟨rfl, Or.inl ⟨rfl, rfl⟩⟩
      have C6 : Chg 0 0 w2 (w2.alloc (.cells #[.int .i64 2, .int .i64 0, .slice none 0 0] 44)) := Chg.alloc (Chg.refl 0 0 w2) _
      have HO6 : Hid (OwnOx (w2.alloc (.cells #[.int .i64 2, .int .i64 0, .slice none 0 0] 44)) w.heap.size 44 5 (.slice oa ps.length oc) (opsOf ps) cells dvs) := HO2.out.chg C6 (by intro g _; omega) (by intro i g _ _; omega)
      have HC6 : Hid (Chg 0 0 w (w2.alloc (.cells #[.int .i64 2, .int .i64 0, .slice none 0 0] 44))) := HC2.out.trans C6
      have HB6 : Hid ((w2.alloc (.cells #[.int .i64 2, .int .i64 0, .slice none 0 0] 44)).heap[w.heap.size]? = some (.cells #[.int .i64 sz, .int .i64 st, .int .i64 sq, .int .i64 hd, .int .i64 us] 28 (0, 0))) := (C6.block _ hbw (by omega)).trans HB2.out
      have s6 : (w2.alloc (.cells #[.int .i64 2, .int .i64 0, .slice none 0 0] 44)).heap.size = w2.heap.size + 1 := by simp
      clear h0 C6
      go_wp2_with (at_builtin; refine wpList_app_ops rfl _ _ rfl w.heap.size w.heap.size _ _ (opsOf ps) [(2, 0, [])] cells _ dvs _ rfl HO6.out rfl HX.out (Nat.le_refl _) (by omega) Nat.one_pos (by rw [opsOf_length]; show ps.length + 1 ≤ _; omega) (fun i j g _ _ _ e => by cases e) ?_)
      intro v' w8 h8a h8b hc8 hk8
      obtain ⟨g8, cp8, rfl⟩ := h8a.out
      obtain ⟨cells8, dvs8, ho8⟩ := h8b.out
      have hk8 := hk8.out
      clear h8a h8b
      have HR : Hid (OwnOx w8 w.heap.size 44 5 (.slice (some ⟨g8, 0, none⟩) (opsOf ps ++ flushO ps).length cp8) (opsOf ps ++ flushO ps) cells8 dvs8) := by rw [Hf.out, List.length_append]; exact ho8
      have HE : Hid (Value.slice (some ⟨g8, 0, none⟩) ((opsOf ps).length + 1) cp8 = .slice (some ⟨g8, 0, none⟩) (opsOf ps ++ flushO ps).length cp8) := by show _ = _; rw [Hf.out, List.length_append]; rfl
      have HC8 : Hid (Chg 0 0 w w8) := HC6.out.step hc8 (by omega)
      have HB8 : Hid (w8.heap[w.heap.size]? = some (.cells #[.int .i64 sz, .int .i64 st, .int .i64 sq, .int .i64 hd, .int .i64 us] 28 (0, 0))) := hk8 _ _ _ (by decide) HB6.out
      have s8 := hc8.size
      clear ho8 hc8 hk8 HO6 HX HC6 HB6 HO2 HC2 HB2
      go_wp2
      go_meet
      exact ⟨_, _, _, _, HE.out, HR.out, HC8.out, by omega, HB8.out⟩
  case rest =>
    obtain ⟨a3, c3, cells3, dvs3, rfl, ho3, hc3, hs3, hb3⟩ := hcut
    clear HO2 HC2 HB2
    obtain ⟨k0, k1, k2, k3, k4⟩ := five_cells hb3
    have HL : Hid ((opsOf ps ++ flushO ps).length ≤ 601) := by
      show _ ≤ _
      rw [List.length_append, opsOf_length]
      unfold flushO
      split
      · simp; omega
      · simp; omega
    have HT2 : Hid ((twoOps (supL 106 108 111 103 1 sz sq hd)).length = 2) := rfl
    have hT := specTail_calls wc sz st sq hd us
    rw [HTl.out] at hT
    clear HTl
    generalize twoOps (supL 106 108 111 103 1 sz sq hd) = T at *
    generalize opsOf ps ++ flushO ps = A at *
    have HO3 : Hid (OwnOx wc w.heap.size 44 5 (.slice a3 A.length c3) A cells3 dvs3) := ho3
    have HC3 : Hid (Chg 0 0 w wc) := hc3
    clear ho3 hc3 hb3
    go_wp2_with fail
    refine hT.mono ?_
    rintro e w4 ⟨v4, rfl, ⟨cells4, dvs4, o4⟩, h4⟩
    obtain ⟨a4, c4, rfl⟩ := o4.sl
    have HC4 : Hid (Chg 0 0 w w4) := HC3.out.trans h4
    have HO4 : Hid (OwnOx w4 w.heap.size 44 5 (.slice a3 A.length c3) A cells3 dvs3) := HO3.out.chg h4 (by intro g _; omega) (by intro i g _ _; omega)
    have HX4 : Hid (OwnOx w4 wc.heap.size 44 5 (.slice a4 T.length c4) T cells4 dvs4) := o4
    have Hfr : Hid (∀ i j g, i < A.length → j < T.length → (dvs3 i).ownBlock = some g → (dvs4 j).ownBlock ≠ some g) := fun i j g hi hj hg e => by
      have := (HO3.out.dbl i g hi hg).2
      have := (o4.dbl j g hj e).1
      omega
    have s4 := h4.size
    clear hT o4 h4 k0 k1 k2 k3 k4 HC3 HO3
    go_wp2_with (at_builtin; refine wpList_app_ops rfl _ _ rfl w.heap.size wc.heap.size _ _ A T cells3 cells4 dvs3 dvs4 rfl HO4.out rfl HX4.out (by omega) (by omega) (by rw [HT2.out]; omega) (by have := HL.out; have := HT2.out; omega) Hfr.out ?_)
    intro v' w8 h8a h8b hc8 hk8
    obtain ⟨g8, cp8, rfl⟩ := h8a.out
    have HR : Hid (∃ cells dvs, OwnOx w8 w.heap.size 44 5 (.slice (some ⟨g8, 0, none⟩) (A.length + T.length) cp8) (ckptO sz st sq hd us ps) cells dvs) := by rw [Ht.out]; exact h8b.out
    have HC8 : Hid (Chg 0 0 w w8) := HC4.out.step hc8 (by omega)
    clear h8a h8b hc8 hk8 HO4 HX4 Hfr HC4
    go_wp2
    go_ret
    exact ⟨_, rfl, HR.out, HC8.out⟩

end Go.Proofs.YtkkbaedlfijlmaaGreatDoor

namespace Go.Proofs.YtkkbaedlfijlmaaGreatDoor
open Go.RowKit

set_option maxRecDepth 20000 in
set_option maxHeartbeats 1000000 in
theorem clone_calls (w : World) {lo hi : Nat} {a : Value} {xs : List Int} (hl : xs.length ≤ 1048576) (h1 : View w lo hi .u8 a xs) :
    Calls Tryz.prog 20 #[a] w fun e w' => ∃ v, e = .returned v ∧ OwnB w' w.heap.size 5 v xs ∧ Chg 0 0 w w' := by
  obtain ⟨i, hi, hz0, hz1, hz2⟩ := info_parts Tryz.infoU
  obtain ⟨ao, cap, rfl, _, ⟨_, hnil⟩, h1⟩ := h1
  have C0 : Chg 0 0 w (w.alloc (.cells #[] 5)) := Chg.alloc (Chg.refl 0 0 w) _
  have O0 : (w.alloc (.cells #[] 5)).ownsRow w.heap.size 5 1 (.slice (some ⟨w.heap.size, 0, none⟩) 0 0) 0 [] := by
    have := World.ownsRow_lit (base := w.heap.size) (e := 5) (size := 1) w #[] 0 (Nat.le_refl _) (by unfold maxLen; omega) rfl
    simpa using this
  have HO0 : Hid ((w.alloc (.cells #[] 5)).ownsRow w.heap.size 5 1 (.slice (some ⟨w.heap.size, 0, none⟩) 0 0) 0 []) := O0
  have HC0 : Hid (Chg 0 0 w (w.alloc (.cells #[] 5))) := C0
  have bs : Hid (w.heap.size ≤ (w.alloc (.cells #[] 5)).heap.size) := by show _ ≤ _; simp
  cases ao with
  | none =>
    obtain rfl : xs = [] := by
      rcases h1 with h1 | ⟨b, off, e, _⟩
      · exact h1
      · cases e
    obtain rfl : cap = 0 := hnil rfl
    clear h1 hnil C0
    have hn : ∀ W : World, (binOp .eql 38 (.slice none 0 0) (.slice none 0 0)).run Tryz.prog W = .ok (.bool true) W := fun W => by kernel_rfl
    have HON : Hid (OwnB w w.heap.size 5 (.slice none 0 0) []) := ⟨rfl, Or.inl ⟨rfl, rfl⟩⟩
    go_enter Tryz.func20, Tryz.ntmps20
    go_wp2
    go_ret
    exact ⟨_, rfl, HON.out, Chg.refl 0 0 w⟩
  | some ad =>
    have hsrc : ∀ j u, (xs.map (Value.int .u8))[j]? = some u → (w.alloc (.cells #[] 5)).cell? (ad.add j) = some u := by
      intro j u hj
      have hjl : j < xs.length := by have := (List.getElem?_eq_some_iff.1 hj).1; simpa using this
      rcases h1 with h1 | ⟨b, off, e, _, _, hc⟩
      · rw [h1] at hjl; simp at hjl
      · cases e
        rw [Addr.add_mid, C0.cell (hc j hjl) (by omega), ← hj]
        simp [List.getD_eq_getElem?_getD, hjl]
    have Hsrc : Hid (∀ j u, (xs.map (Value.int .u8))[j]? = some u → (w.alloc (.cells #[] 5)).cell? (ad.add j) = some u) := hsrc
    clear h1 hnil hsrc C0
    have hn : ∀ W : World, (binOp .eql 38 (.slice (some ad) xs.length cap) (.slice none 0 0)).run Tryz.prog W = .ok (.bool false) W := fun W => by kernel_rfl
    go_enter Tryz.func20, Tryz.ntmps20
    go_wp2_with (at_builtin; refine wpList_append_own _ rfl (.tmp 5) (.tmp 6) 38 rfl w.heap.size 5 i (.int .u8 0) 1 1 Tryz.underlying38 hi hz0 hz1 hz2 rfl (by decide) _ 0 [] rfl HO0.out ad xs.length cap (xs.map (Value.int .u8)) rfl (by simp) Hsrc.out (ints_oneCell _ _) (by unfold maxLen; omega) (by omega) bs.out ?_)
    intro v' w1 hown hgrow _
    have HO : Hid (OwnB w1 w.heap.size 5 v' xs) := by
      show OwnB _ _ _ _ _
      unfold OwnB
      simpa using hown
    have HC : Hid (Chg 0 0 w w1) := HC0.out.step (Chg.ofGrown (lo := w.heap.size) (hi := w.heap.size + 1) hgrow (fun k hk _ => by simp only [Value.ownBlock, Option.some.injEq] at hk; omega)) (Or.inr (Or.inl (Nat.le_refl _)))
    clear hown hgrow HO0 HC0 Hsrc bs
    go_wp2
    go_ret
    exact ⟨_, rfl, HO.out, HC.out⟩

end Go.Proofs.YtkkbaedlfijlmaaGreatDoor
