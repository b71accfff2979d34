/- Spans of the program: a loop over a function. -/
import Derived.Test.YtbdkdfkhcmckhaaImplSpans0
import Derived.Test.YtbdkdfkhcmckhaaAppFull
import Derived.Test.YtbdkdfkhcmckhaaIsWithin
namespace Go.Proofs.Ytbdkdfkhcmckhaa
open Go.RowKit Go.Shelf
attribute [local go_sem] Oper.semAt_some

def encSp (o : Nat) (x : Nat × Nat) : Array Value := #[.agg #[.int .i64 (((o + x.1) / 64 : Nat) : Int), .int .i64 (((o + x.1) % 64 : Nat) : Int), .int .i64 (x.2 : Int), .int .i64 (x.1 : Int)]]

/-- What a round keeps: the two variables, and each piece that lies alone. -/
structure KeepSp (Bo Bn : Nat) (W W' : World) : Prop where
  vars : ∀ k, k = Bo ∨ k = Bn → W'.heap[k]? = W.heap[k]?
  one : ∀ (k : Nat) (cs : Array Value) (fr : Nat × Nat), W.heap[k]? = some (Obj.cells cs 29 fr) → cs.size = 4 → W'.heap[k]? = W.heap[k]?
theorem KeepSp.trans {Bo Bn : Nat} {A B C : World} (h : KeepSp Bo Bn A B) (k : KeepSp Bo Bn B C) : KeepSp Bo Bn A C :=
  ⟨fun i hi => (k.vars i hi).trans (h.vars i hi), fun i cs fr hh hs => (k.one i cs fr ((h.one i cs fr hh hs).trans hh) hs).trans (h.one i cs fr hh hs)⟩
theorem KeepSp.put {Bo Bn : Nat} {w : World} (hb : Bo < w.heap.size ∧ Bn < w.heap.size) (W : World) (l : Nat) (o o' : Obj) (hl : w.heap.size ≤ l) (h : W.heap[l]? = some o) (hc : o.isCells = false) (_ : o.isWalk = false) : KeepSp Bo Bn W (W.putObj l o') :=
  ⟨fun k hk => World.putObj_heap_other (by omega), fun k cs fr hh _ => World.putObj_heap_other (by intro e; subst e; rw [h] at hh; cases hh; cases hc)⟩
theorem KeepSp.none {Bo Bn : Nat} {W W' : World} (hb : Bo < W.heap.size ∧ Bn < W.heap.size) (h : W.grownBy W' none) : KeepSp Bo Bn W W' :=
  ⟨fun k hk => h.block k (by omega) (by simp), fun k cs fr hh _ => h.block k (Array.getElem?_eq_some_iff.1 hh).1 (by simp)⟩

set_option maxRecDepth 100000 in
set_option maxHeartbeats 2000000 in
theorem spans_stops (m : Nat) (_ : 1 ≤ m) (Bo Bn : Nat) (o n : Nat) (ho : o ≤ 2560) (hn : n ≤ 2560 - o) (w : World)
    (h1 : w.cell? ⟨Bo, 0, none⟩ = some (.int .i64 (o : Int))) (h2 : w.cell? ⟨Bn, 0, none⟩ = some (.int .i64 (n : Int))) :
    SeqStopsK Fence.wide m Try.prog 13 #[.pointer (some ⟨Bo, 0, none⟩), .pointer (some ⟨Bn, 0, none⟩)] (encSp o) (KeepSp Bo Bn)
      (fun xs => xs = spL o n (n + 1) 0) (fun pre => pre <+: spL o n (n + 1) 0) (spL o n (n + 1) 0).length w := fun l J Jx W hW hJ hJx hY h0 => by
  have a1 : W.cell? ⟨Bo, 0, none⟩ = some (.int .i64 (o : Int)) := (hW.cell (p := ⟨Bo, 0, none⟩) (lt_of_cell h1)).trans h1
  have a2 : W.cell? ⟨Bn, 0, none⟩ = some (.int .i64 (n : Int)) := (hW.cell (p := ⟨Bn, 0, none⟩) (lt_of_cell h2)).trans h2
  have hN1 := isWithin_calls W (o : Int) 0 2560
  have hN2 := isWithin_calls W (n : Int) 0 (2560 - (o : Int))
  rw [decide_eq_true (show (0 : Int) ≤ (o : Int) by omega), decide_eq_true (show (o : Int) ≤ 2560 by omega)] at hN1
  rw [decide_eq_true (show (0 : Int) ≤ (n : Int) by omega), decide_eq_true (show (n : Int) ≤ 2560 - (o : Int) by omega)] at hN2
  have e1 : IntKind.i64.wrap (2560 - (o : Int)) = 2560 - (o : Int) := by rw [IntKind.wrap_i64]; omega
  obtain ⟨R, HR⟩ : ∃ R, Hid (spL o n (n + 1) 0 = R) := ⟨_, rfl⟩
  rw [HR.out] at hY ⊢
  clear h1 h2 hW
  refine callsIn_of_wp Try.func13 rfl trivial ?_ rfl
  simp only [Try.ntmps13, List.size_toArray, List.length_cons, List.length_nil, Nat.reduceAdd, Nat.reduceSub, Array.replicate_succ, Array.replicate_zero, List.push_toArray, List.append_toArray, List.nil_append, List.cons_append]
  gi_wp2_with (first | (refine ⟨trivial, ?_⟩; gi_at_call 12; refine (callsIn_wide.2 hN1).mono ?_; clear hN1; rintro e w' ⟨rfl, rfl⟩) | (refine ⟨trivial, ?_⟩; gi_at_call 12; refine (callsIn_wide.2 hN2).mono ?_; clear hN2; rintro e w' ⟨rfl, rfl⟩))
  gi_loopw [4] (fun x wr => ∃ (pre : List (Nat × Nat)) (d k : Nat), x = .int .i64 d ∧ d ≤ n ∧ R = pre ++ spL o n k d ∧ n - d < k ∧ wr.cell? ⟨Bo, 0, none⟩ = some (.int .i64 (o : Int)) ∧ wr.cell? ⟨Bn, 0, none⟩ = some (.int .i64 (n : Int)) ∧ J pre wr)
    (fun x _ => n - (intOf x).toNat)
  case atStart => exact ⟨[], 0, n + 1, rfl, Nat.zero_le _, HR.out.symm, by omega, a1, a2, h0⟩
  case round =>
    clear a1 a2 h0 HR
    obtain ⟨pre, d, k, rfl, hd, hRp, hk, a1, a2, hJp⟩ := hrel
    obtain ⟨k, rfl⟩ : ∃ j, k = j + 1 := ⟨k - 1, by omega⟩
    by_cases hdn : d < n
    · rw [spL_cons k hdn] at hRp
      have hc1 := cntS_pos (o := o) hdn
      have hc2 := cntS_le (o := o) (n := n) (d := d)
      obtain ⟨c, hc⟩ : ∃ c, cntS o n d = c := ⟨_, rfl⟩
      obtain ⟨q, Hq⟩ : ∃ q : Nat, Hid ((o + d) / 64 = q) := ⟨_, rfl⟩
      obtain ⟨r, Hr⟩ : ∃ r : Nat, Hid ((o + d) % 64 = r) := ⟨_, rfl⟩
      have hq : ((o : Int) + (d : Int)) / 64 = (q : Int) := by have := Hq.out; omega
      have hr : ((o : Int) + (d : Int)) % 64 = (r : Int) := by have := Hr.out; omega
      have hrb : r < 64 := by have := Hr.out; omega
      have hm : (64 - (r : Int) = (c : Int) ∧ (c : Int) ≤ (n : Int) - (d : Int)) ∨ ((n : Int) - (d : Int) = (c : Int) ∧ (c : Int) < 64 - (r : Int)) := by have := Hr.out; rw [← hc]; unfold cntS; omega
      have hmi : (d : Int) < (n : Int) := by omega
      rw [hc] at hRp hc1 hc2
      have b1 : (wr.alloc (.cells #[.int .i64 (q : Int), .int .i64 (r : Int), .int .i64 0, .int .i64 (d : Int)] 29)).cell? ⟨Bo, 0, none⟩ = some (.int .i64 (o : Int)) := (Chg.alloc (Chg.refl 0 0 wr) _).cell a1 (by omega)
      have b2 : (wr.alloc (.cells #[.int .i64 (q : Int), .int .i64 (r : Int), .int .i64 0, .int .i64 (d : Int)] 29)).cell? ⟨Bn, 0, none⟩ = some (.int .i64 (n : Int)) := (Chg.alloc (Chg.refl 0 0 wr) _).cell a2 (by omega)
      have hch : Chg 0 0 wr (wr.alloc (.cells #[.int .i64 (q : Int), .int .i64 (r : Int), .int .i64 (c : Int), .int .i64 (d : Int)] 29)) := Chg.alloc (Chg.refl 0 0 wr) _
      have hnb := heap_new wr (.cells #[.int .i64 (q : Int), .int .i64 (r : Int), .int .i64 (c : Int), .int .i64 (d : Int)] 29)
      have hA := hJ pre wr _ none hJp hch.grown0 (by simp)
      obtain ⟨fn, tmps, assign, body, hy, hR⟩ := hY pre (d, c) _ hA (by rw [hRp]; simp)
      have he : encSp o (d, c) = #[.agg #[.int .i64 (q : Int), .int .i64 (r : Int), .int .i64 (c : Int), .int .i64 (d : Int)]] := by unfold encSp; rw [Hq.out, Hr.out]
      rw [he] at hy
      have HRp : Hid (R = pre ++ (d, c) :: spL o n k (d + c)) := hRp
      clear hRp hY he hc Hq Hr
      have c1 := hch.cell a1 (by omega)
      have c2 := hch.cell a2 (by omega)
      rcases hm with ⟨hm, hm2⟩ | ⟨hm, hm2⟩
      · gi_wp2
        refine hR.mono ?_
        rintro e W3 (⟨rfl, hJ3, hk3⟩ | ⟨rfl, hJx3⟩)
        · have d1 : W3.cell? ⟨Bo, 0, none⟩ = some (.int .i64 (o : Int)) := (World.cell?_of_block (hk3.vars Bo (Or.inl rfl))).trans c1
          have d2 : W3.cell? ⟨Bn, 0, none⟩ = some (.int .i64 (n : Int)) := (World.cell?_of_block (hk3.vars Bn (Or.inr rfl))).trans c2
          have d3 : W3.cell? ⟨wr.heap.size, 2, none⟩ = some (.int .i64 (c : Int)) := cell_of_block ((hk3.one _ _ _ hnb rfl).trans hnb) rfl
          gi_wp2
          go_roundw
          case rel => exact ⟨pre ++ [(d, c)], d + c, k, by go_num, by omega, by rw [HRp.out]; simp, by omega, d1, d2, hJ3⟩
          case measure => simp [intOf]; omega
        · gi_wp2
          refine bodyPost_ret (results_none rfl _ _ _) rfl ?_
          exact ⟨⟨_, rfl⟩, .inr ⟨pre ++ [(d, c)], ⟨spL o n k (d + c), by rw [HRp.out]; simp⟩, hJx3⟩⟩
      · gi_wp2
        refine hR.mono ?_
        rintro e W3 (⟨rfl, hJ3, hk3⟩ | ⟨rfl, hJx3⟩)
        · have d1 : W3.cell? ⟨Bo, 0, none⟩ = some (.int .i64 (o : Int)) := (World.cell?_of_block (hk3.vars Bo (Or.inl rfl))).trans c1
          have d2 : W3.cell? ⟨Bn, 0, none⟩ = some (.int .i64 (n : Int)) := (World.cell?_of_block (hk3.vars Bn (Or.inr rfl))).trans c2
          have d3 : W3.cell? ⟨wr.heap.size, 2, none⟩ = some (.int .i64 (c : Int)) := cell_of_block ((hk3.one _ _ _ hnb rfl).trans hnb) rfl
          gi_wp2
          go_roundw
          case rel => exact ⟨pre ++ [(d, c)], d + c, k, by go_num, by omega, by rw [HRp.out]; simp, by omega, d1, d2, hJ3⟩
          case measure => simp [intOf]; omega
        · gi_wp2
          refine bodyPost_ret (results_none rfl _ _ _) rfl ?_
          exact ⟨⟨_, rfl⟩, .inr ⟨pre ++ [(d, c)], ⟨spL o n k (d + c), by rw [HRp.out]; simp⟩, hJx3⟩⟩
    · rw [spL_nil k hdn, List.append_nil] at hRp
      have HRp : Hid (R = pre) := hRp
      have hmi : ¬ (d : Int) < (n : Int) := by omega
      clear hRp hY
      gi_wp2
      refine bodyPost_end (results_none rfl _ _ _) rfl ?_
      rw [HRp.out]
      exact ⟨⟨_, rfl⟩, .inl hJp⟩

set_option maxRecDepth 100000 in
set_option maxHeartbeats 1000000 in
theorem spans_none (m : Nat) (_ : 1 ≤ m) (Bo Bn : Nat) (o n : Int) (hx : ¬ InFile o n) (w : World)
    (h1 : w.cell? ⟨Bo, 0, none⟩ = some (.int .i64 o)) (h2 : w.cell? ⟨Bn, 0, none⟩ = some (.int .i64 n)) :
    SeqStopsK Fence.wide m Try.prog 13 #[.pointer (some ⟨Bo, 0, none⟩), .pointer (some ⟨Bn, 0, none⟩)] (encSp 0) (KeepSp Bo Bn)
      (fun xs => xs = []) (fun pre => pre <+: []) 0 w := fun l J Jx W hW hJ hJx hY h0 => by
  have a1 : W.cell? ⟨Bo, 0, none⟩ = some (.int .i64 o) := (hW.cell (p := ⟨Bo, 0, none⟩) (lt_of_cell h1)).trans h1
  have a2 : W.cell? ⟨Bn, 0, none⟩ = some (.int .i64 n) := (hW.cell (p := ⟨Bn, 0, none⟩) (lt_of_cell h2)).trans h2
  have hN1 := isWithin_calls W o 0 2560
  have hN2 := isWithin_calls W n 0 (2560 - o)
  have hx' : ¬ (0 ≤ o ∧ 0 ≤ n ∧ o ≤ 2560 ∧ n ≤ 2560 - o) := hx
  clear h1 h2 hW hY hx
  by_cases ho : 0 ≤ o ∧ o ≤ 2560
  · have e1 : IntKind.i64.wrap (2560 - o) = 2560 - o := by rw [IntKind.wrap_i64]; omega
    have e2 : (decide (0 ≤ n) && decide (n ≤ 2560 - o)) = false := by simp only [Bool.and_eq_false_iff, decide_eq_false_iff_not]; omega
    rw [decide_eq_true ho.1, decide_eq_true ho.2] at hN1
    rw [e2] at hN2
    clear hx' e2
    refine callsIn_of_wp Try.func13 rfl trivial ?_ rfl
    simp only [Try.ntmps13, List.size_toArray, List.length_cons, List.length_nil, Nat.reduceAdd, Nat.reduceSub, Array.replicate_succ, Array.replicate_zero, List.push_toArray, List.append_toArray, List.nil_append, List.cons_append]
    gi_wp2_with (first | (refine ⟨trivial, ?_⟩; gi_at_call 12; refine (callsIn_wide.2 hN1).mono ?_; clear hN1; rintro e w' ⟨rfl, rfl⟩) | (refine ⟨trivial, ?_⟩; gi_at_call 12; refine (callsIn_wide.2 hN2).mono ?_; clear hN2; rintro e w' ⟨rfl, rfl⟩))
    refine bodyPost_ret (results_none rfl _ _ _) rfl ?_
    first | exact ⟨⟨_, rfl⟩, .inl ⟨[], rfl, h0⟩⟩ | exact ⟨⟨_, rfl⟩, .inl h0⟩
  · have e2 : (decide (0 ≤ o) && decide (o ≤ 2560)) = false := by simp only [Bool.and_eq_false_iff, decide_eq_false_iff_not]; omega
    rw [e2] at hN1
    clear hx' e2 hN2
    refine callsIn_of_wp Try.func13 rfl trivial ?_ rfl
    simp only [Try.ntmps13, List.size_toArray, List.length_cons, List.length_nil, Nat.reduceAdd, Nat.reduceSub, Array.replicate_succ, Array.replicate_zero, List.push_toArray, List.append_toArray, List.nil_append, List.cons_append]
    gi_wp2_with (refine ⟨trivial, ?_⟩; gi_at_call 12; refine (callsIn_wide.2 hN1).mono ?_; clear hN1; rintro e w' ⟨rfl, rfl⟩)
    refine ⟨trivial, ?_⟩
    gi_wp2
    refine bodyPost_ret (results_none rfl _ _ _) rfl ?_
    first | exact ⟨⟨_, rfl⟩, .inl ⟨[], rfl, h0⟩⟩ | exact ⟨⟨_, rfl⟩, .inl h0⟩

/-- The two variables that the pieces hold on to. -/
abbrev twoV (w : World) (o n : Int) : World := (w.alloc (.cells #[.int .i64 o] 2)).alloc (.cells #[.int .i64 n] 2)
set_option maxHeartbeats 1000000 in
theorem spansOf_calls (w : World) (o n : Int) :
    Calls Try.prog 11 #[.int .i64 o, .int .i64 n] w fun e w' =>
      e = .returned (.func (.func 13) #[] #[.pointer (some ⟨w.heap.size, 0, none⟩), .pointer (some ⟨w.heap.size + 1, 0, none⟩)]) ∧ w' = twoV w o n := by
  go_enter Try.func11, Try.ntmps11
  go_wp2
  go_ret
  exact ⟨rfl, rfl⟩
theorem twoV_facts (w : World) (o n : Int) : (twoV w o n).heap.size = w.heap.size + 2 ∧ (twoV w o n).cell? ⟨w.heap.size, 0, none⟩ = some (.int .i64 o) ∧ (twoV w o n).cell? ⟨w.heap.size + 1, 0, none⟩ = some (.int .i64 n) ∧ Below w.heap.size w (twoV w o n) := by
  refine ⟨by simp, ?_, ?_, (Chg.alloc (Chg.alloc (Chg.refl 0 0 w) _) _).below (Or.inl (Nat.le_refl _))⟩
  · exact (Chg.alloc (Chg.refl 0 0 _) _).cell (cell_of_block (heap_new w _) rfl) (by omega)
  · have := heap_new (w.alloc (.cells #[.int .i64 o] 2)) (.cells #[.int .i64 n] 2)
    rw [show (w.alloc (.cells #[.int .i64 o] 2)).heap.size = w.heap.size + 1 by simp] at this
    exact cell_of_block this rfl

set_option maxRecDepth 100000 in
set_option maxHeartbeats 4000000 in
theorem implSpans_over (w : World) (o n : Int) (p : Nat) (R : List (Nat × Nat)) (hlen : R.length ≤ 2560)
    (hS0 : ∀ w1 : World, w1.cell? ⟨w.heap.size + 1, 0, none⟩ = some (.int .i64 o) → w1.cell? ⟨w.heap.size + 1 + 1, 0, none⟩ = some (.int .i64 n) →
      SeqStopsK Fence.wide 4 Try.prog 13 #[.pointer (some ⟨w.heap.size + 1, 0, none⟩), .pointer (some ⟨w.heap.size + 1 + 1, 0, none⟩)] (encSp p) (KeepSp (w.heap.size + 1) (w.heap.size + 1 + 1)) (fun xs => xs = R) (fun pre => pre <+: R) R.length w1) :
    Calls Try.prog 5 #[.int .i64 o, .int .i64 n] w fun e w' => ∃ v K, e = .returned v ∧ OwnF 4 w' w.heap.size 29 v K (flatS p R) ∧ K ≤ 2560 ∧ Chg 0 0 w w' := by
  obtain ⟨ti, hti, hz0, hz1, hz2⟩ := info_parts Try.infoSp
  refine (callsIn_wide (n := 5)).1 ?_
  refine (CallsIn.mono (R := fun e w' => ∃ v K, e = .returned v ∧ OwnF 4 w' w.heap.size 29 v K (flatS p R) ∧ K ≤ 2560 ∧ Below w.heap.size w w') ?_ fun e w' h => by obtain ⟨v, K, h1, h2, h3, h4⟩ := h; exact ⟨v, K, h1, h2, h3, Chg.ofBelow h4 0 0⟩)
  refine callsIn_of_wp_marks Try.func5 rfl trivial ?_ rfl
  simp only [Try.ntmps5, List.size_toArray, List.length_cons, List.length_nil, Nat.reduceAdd, Nat.reduceSub, Array.replicate_succ, Array.replicate_zero, List.push_toArray, List.append_toArray, List.nil_append, List.cons_append]
  have hR := spansOf_calls (w.alloc (.cells #[.slice none 0 0] 25)) o n
  obtain ⟨t0, t1, t2, t4⟩ := twoV_facts (w.alloc (.cells #[.slice none 0 0] 25)) o n
  have hsz : (w.alloc (.cells #[.slice none 0 0] 25)).heap.size = w.heap.size + 1 := by simp
  have hbx : Boxed (twoV (w.alloc (.cells #[.slice none 0 0] 25)) o n) w.heap.size 25 (.slice none 0 0) := (t4.block w.heap.size (by omega)).trans (heap_new w _)
  have hB0 : Below w.heap.size w (twoV (w.alloc (.cells #[.slice none 0 0] 25)) o n) := ((Below.refl _ w).alloc (Nat.le_refl _) _).trans (t4.mono (by omega))
  rw [hsz] at hR t0 t1 t2
  generalize twoV (w.alloc (.cells #[.slice none 0 0] 25)) o n = wL at *
  clear t4
  gi_wp2_with (refine ⟨trivial, ?_⟩; gi_at_call 11; refine (callsIn_wide.2 hR).mono ?_; rintro e w1 ⟨rfl, rfl⟩)
  clear hR
  have hS := hS0 w1 t1 t2
  refine wpIn_rangeFunc_ownH rfl (by omega) (gf := 13) (lb := #[.pointer (some ⟨w.heap.size + 1, 0, none⟩), .pointer (some ⟨w.heap.size + 1 + 1, 0, none⟩)]) rfl trivial (enters_of Try.func13 (by kernel_rfl) rfl)
    hS KeepSp.trans (KeepSp.put (by omega)) (Below.refl _ _) (fun _ => rfl)
    (fun pre W => ((∃ v, Boxed W w.heap.size 25 v ∧ OwnF 4 W (w.heap.size + 3) 29 v pre.length (flatS p pre) ∧ (pre = [] → v = .slice none 0 0)) ∧ w.heap.size + 3 ≤ W.heap.size) ∧ Below w.heap.size w W)
    (fun c pre W => False)
    ?hI ?hIx ⟨⟨⟨_, hbx, ⟨rfl, Or.inl ⟨rfl, rfl⟩⟩, fun _ => rfl⟩, by omega⟩, hB0⟩
    (fun x a' W => ∃ Bx, w.heap.size + 3 ≤ Bx ∧ W.heap[Bx]? = some (.cells #[.int .i64 (((p + x.1) / 64 : Nat) : Int), .int .i64 (((p + x.1) % 64 : Nat) : Int), .int .i64 (x.2 : Int), .int .i64 (x.1 : Int)] 29 (0, 0)) ∧
      a' = { tmps := #[.int .i64 o, .int .i64 n, undef, undef, .slice none 0 0, .pointer (some ⟨w.heap.size, 0, none⟩), .pointer (some ⟨Bx, 0, none⟩), .int .i64 o, .int .i64 n,
        .func (.func 13) #[] #[.pointer (some ⟨w.heap.size + 1, 0, none⟩), .pointer (some ⟨w.heap.size + 1 + 1, 0, none⟩)], .agg #[.int .i64 (((p + x.1) / 64 : Nat) : Int), .int .i64 (((p + x.1) % 64 : Nat) : Int), .int .i64 (x.2 : Int), .int .i64 (x.1 : Int)], undef, undef, undef, undef, undef], defers := [] })
    ?hAx ?assign ?body ?done ?stop
  case hI => exact OwnFrom.and (Own.from (fun s A B row hs hg hr => by
      obtain ⟨⟨v, h1, h2, h2n⟩, h3⟩ := hs
      refine ⟨⟨v, cells_keep h1 hg hr, ⟨h2.1, ?_⟩, h2n⟩, Nat.le_trans h3 hg.size⟩
      rcases h2.2 with h2 | ⟨g, cap, cur, hv, hg', hh, r⟩
      · exact Or.inl h2
      · exact Or.inr ⟨g, cap, cur, hv, hg', cells_keep hh hg hr, r⟩) _) (ownFrom_below (Nat.le_refl _) (by omega))
  case hIx => exact fun c s A B row hs hg hr => hs
  case hAx => exact fun x a' => Own.from (fun s A B row hs hg hr => by obtain ⟨Bx, h1, h2, h3⟩ := hs; exact ⟨Bx, h1, cells_keep h2 hg hr, h3⟩) _
  case assign =>
    rintro l pre x W K ⟨⟨⟨v, hb, ho, hn0⟩, hsW⟩, hB⟩ hK
    simp only [encSp]
    gi_wp2
    exact hK _ _ ((KeepsOthers.alloc _ _).from _) (KeepSp.none (by omega) (Chg.alloc (Chg.refl 0 0 W) _).grown0) ⟨⟨⟨v, Boxed.alloc hb _, ho.chg (Chg.alloc (Chg.refl 0 0 W) _) (by intro g _; omega), hn0⟩, by simp; omega⟩, hB.alloc (by omega) _⟩ ⟨W.heap.size, hsW, heap_new _ _, rfl⟩
  case body =>
    rintro l pre x a' W hl ⟨r, hr⟩ ⟨⟨⟨v, hb, ho, hn0⟩, hsW⟩, hB⟩ ⟨Bx, hBx, hx, rfl⟩ hpl
    obtain ⟨x0, Hx0⟩ : ∃ x0 : Int, Hid ((((p + x.1) / 64 : Nat) : Int) = x0) := ⟨_, rfl⟩
    obtain ⟨x1, Hx1⟩ : ∃ x1 : Int, Hid ((((p + x.1) % 64 : Nat) : Int) = x1) := ⟨_, rfl⟩
    rw [Hx0.out, Hx1.out] at hx ⊢
    have c0 : W.cell? ⟨Bx, 0, none⟩ = some (.int .i64 x0) := by simp only [World.cell?, hx]; rfl
    have c1 : W.cell? ⟨Bx, 1, none⟩ = some (.int .i64 x1) := by simp only [World.cell?, hx]; rfl
    have c3 : W.cell? ⟨Bx, 2, none⟩ = some (.int .i64 (x.2 : Int)) := by simp only [World.cell?, hx]; rfl
    have c4 : W.cell? ⟨Bx, 3, none⟩ = some (.int .i64 (x.1 : Int)) := by simp only [World.cell?, hx]; rfl
    have c2 := Boxed.cell hb
    have hx0 : OwnF 4 (W.alloc (.cells #[.int .i64 x0, .int .i64 x1, .int .i64 (x.2 : Int), .int .i64 (x.1 : Int)] 29)) (w.heap.size + 3) 29 v pre.length (flatS p pre) := ho.chg (Chg.alloc (Chg.refl 0 0 W) _) (by intro g _; omega)
    have hnew : ∀ j u, [Value.int .i64 x0, .int .i64 x1, .int .i64 (x.2 : Int), .int .i64 (x.1 : Int)][j]? = some u → (W.alloc (.cells #[.int .i64 x0, .int .i64 x1, .int .i64 (x.2 : Int), .int .i64 (x.1 : Int)] 29)).cell? ((⟨W.heap.size, 0, none⟩ : Addr).add j) = some u := by
      intro j u hj
      have hn := heap_new W (.cells #[.int .i64 x0, .int .i64 x1, .int .i64 (x.2 : Int), .int .i64 (x.1 : Int)] 29)
      rw [Go.WideShapes.add_plain, Nat.zero_add]
      simp only [World.cell?, hn]
      simpa using hj
    have hbA := Boxed.alloc hb (.cells #[.int .i64 x0, .int .i64 x1, .int .i64 (x.2 : Int), .int .i64 (x.1 : Int)] 29)
    have hpb : pre.length ≤ 2560 := by omega
    have hszA : (W.alloc (.cells #[.int .i64 x0, .int .i64 x1, .int .i64 (x.2 : Int), .int .i64 (x.1 : Int)] 29)).heap.size = W.heap.size + 1 := by simp
    have hKA : KeepSp (w.heap.size + 1) (w.heap.size + 1 + 1) W (W.alloc (.cells #[.int .i64 x0, .int .i64 x1, .int .i64 (x.2 : Int), .int .i64 (x.1 : Int)] 29)) := KeepSp.none (by omega) (Chg.alloc (Chg.refl 0 0 W) _).grown0
    have hBA := hB.alloc (by omega) (.cells #[.int .i64 x0, .int .i64 x1, .int .i64 (x.2 : Int), .int .i64 (x.1 : Int)] 29)
    have hOA := KeepsOthers.alloc W (.cells #[.int .i64 x0, .int .i64 x1, .int .i64 (x.2 : Int), .int .i64 (x.1 : Int)] 29)
    gi_wp2_with (gi_at_builtin; refine wpListIn_app_turned _ rfl (.tmp 11) (.tmp 13) 25 rfl (w.heap.size + 3) 29 ti (.agg #[.int .i64 0, .int .i64 0, .int .i64 0, .int .i64 0]) 4 32 Try.underlying25 hti hz0 hz1 hz2 rfl (by decide) v pre.length _ rfl hx0 ⟨W.heap.size, 0, none⟩ 1 1 [.int .i64 x0, .int .i64 x1, .int .i64 (x.2 : Int), .int .i64 (x.1 : Int)] rfl rfl hnew (by simp [Value.oneCell']) (by unfold maxLen; omega) (by omega) (by omega) (by omega) ?_; intro v' w2 hown hgrow hturn; obtain ⟨g', cap', rfl⟩ := ownsRow_succ hown; have hgne : ∀ k, v.ownBlock = some k → w.heap.size + 3 ≤ k := fun k hk => (ho.lt k hk).1; have hb2 : Boxed w2 w.heap.size 25 v := hbA.kept hgrow (fun e => by have := hgne _ e.symm; omega); have d2 := Boxed.cell hb2; have d3 := Boxed.frozen hb2)
    have hg4 : w.heap.size + 3 ≤ g' := by
      rcases hown.2 with ⟨h, _⟩ | ⟨g, cap, cur, hv, hg, _⟩
      · cases h
      · cases hv; exact hg
    have hs2 := hgrow.size
    have hK2 : KeepSp (w.heap.size + 1) (w.heap.size + 1 + 1) (W.alloc (.cells #[.int .i64 x0, .int .i64 x1, .int .i64 (x.2 : Int), .int .i64 (x.1 : Int)] 29)) w2 := by
      rcases hturn with ht | ⟨g, cap, cur, fr, hv, hh, hcs, hcap, ht⟩
      · exact KeepSp.none (by omega) ht
      · have hg3 := hgne g (by rw [hv]; rfl)
        refine ⟨fun k hk => ht.block k (by omega) (fun e => by cases e; omega), fun k cs fr' hk hs => ht.block k (Array.getElem?_eq_some_iff.1 hk).1 (fun e => ?_)⟩
        cases e
        rw [hh] at hk
        cases hk
        rw [hcs] at hs
        have hp0 : pre.length = 0 := by omega
        have hv0 := hn0 (List.eq_nil_of_length_eq_zero hp0)
        rw [hv0] at hv
        cases hv
    have hK3 : KeepSp (w.heap.size + 1) (w.heap.size + 1 + 1) w2 (w2.setCell ⟨w.heap.size, 0, none⟩ (.slice (some ⟨g', 0, none⟩) (pre.length + 1) cap')) :=
      ⟨fun k hk => Below.heap_setCell _ _ _ _ (by simp only; omega), fun k cs fr' hk hs => Below.heap_setCell _ _ _ _ (fun e => by simp only at e; subst e; rw [hb2] at hk; cases hk)⟩
    refine ⟨((hOA.trans (KeepsOthers.of_grownBy hgrow ?_)).trans (KeepsOthers.setCell _ _ _)).from _, (hKA.trans hK2).trans hK3, ⟨⟨_, Boxed.set _ hb2, ?_, fun h => absurd h (by simp)⟩, by simp only [World.setCell, Array.size_modify]; omega⟩, ?_⟩
    · intro j o hj ho'
      rcases hx0.2 with ⟨h, _⟩ | ⟨g, cap, cur, hv, hg, hh, _⟩
      · rw [h] at hj; cases hj
      · rw [hv] at hj; cases hj
        rw [hh] at ho'; cases ho'; rfl
    · have hF : OwnF 4 w2 (w.heap.size + 3) 29 (.slice (some ⟨g', 0, none⟩) (pre.length + 1) cap') (pre ++ [x]).length (flatS p (pre ++ [x])) := by
        unfold OwnF
        rw [flatS_snoc, List.map_append, List.length_append, Hx0.out, Hx1.out]
        exact hown
      exact hF.chg (Chg.setCell (Chg.refl w.heap.size (w.heap.size + 1) w2) (p := ⟨w.heap.size, 0, none⟩) (Or.inl ⟨Nat.le_refl _, Nat.lt_succ_self _⟩) _) (fun g hg => by simp [Value.ownBlock] at hg; omega)
    · exact (hBA.trans ((Below.refl _ _).grown hgrow (by omega) (fun k e => by have := hgne k e; omega))).setCell (p := ⟨w.heap.size, 0, none⟩) (Nat.le_refl _) _
  case done =>
    rintro D ys' W hD rfl ⟨⟨⟨v, hb, ho, hn0⟩, hsW⟩, hB⟩ hK
    have c2 := Boxed.cell hb
    gi_wp2
    refine ⟨by simp, .inl ⟨_, _, rfl, run_takeDeferred hK, ?_⟩⟩
    exact ⟨_, results_tmp rfl _ _ _, v, _, rfl, OwnF.base (ownsRow_putObj ho _ hK rfl) (fun g hg => by have := (ho.lt g hg).1; omega), hlen, hB.trans (belowK_b (w := w) (Nat.le_refl _) W D _ _ (by omega) hK rfl rfl)⟩
  case stop =>
    rintro D c pre W _ _ h _
    exact h.elim

theorem implSpans_calls (w : World) (o n : Int) :
    Calls Try.prog 5 #[.int .i64 o, .int .i64 n] w fun e w' => ∃ v K, e = .returned v ∧ OwnF 4 w' w.heap.size 29 v K (spansD o n) ∧ K ≤ 2560 ∧ Chg 0 0 w w' := by
  by_cases h : InFile o n
  · obtain ⟨h1, h2, h3, h4⟩ := id h
    obtain ⟨p, rfl⟩ : ∃ p : Nat, o = p := ⟨o.toNat, by omega⟩
    obtain ⟨q, rfl⟩ : ∃ q : Nat, n = q := ⟨n.toNat, by omega⟩
    have e : spansD p q = flatS p (spL p q (q + 1) 0) := by unfold spansD; rw [if_pos h]; simp only [Int.toNat_natCast]; exact spans_all p q
    rw [e]
    exact implSpans_over w p q p (spL p q (q + 1) 0) (by have := spL_len p q (q + 1) 0; omega) (fun w1 k1 k2 => spans_stops 4 (by omega) _ _ p q (by omega) (by omega) w1 k1 k2)
  · have e : spansD o n = flatS 0 [] := by unfold spansD; rw [if_neg h]; rfl
    rw [e]
    exact implSpans_over w o n 0 [] (by simp) (fun w1 k1 k2 => spans_none 4 (by omega) _ _ o n h w1 k1 k2)

end Go.Proofs.Ytbdkdfkhcmckhaa
