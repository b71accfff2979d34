/- Several short texts in one: TakeB, Weak. -/
import Derived.Test.YteaeikmgkmpkiaaGreatDoorTakeA
import Derived.Great.BuildSlice
import Derived.OrdersHeld
import Derived.Deep.RegionHeld3
import Derived.StillTail
namespace Go.Proofs.YteaeikmgkmpkiaaGreatDoor
open Go.RowKit Go.Lib

theorem Tryz.infoN : (Tryz.prog.info? 2).map (fun i => (i.zero, i.size, i.bytes)) = some (some (.int .i64 0), 1, 8) := by kernel_rfl

/-- append of one number to numbers of one's own. -/
theorem wpList_app_int {ops : Array Oper} {rest : List Oper} {o : Oper} {a : Act} {w : World} {Q : Exit → Act → World → Prop} (hgd : o.guard = none) (s x : Operand)
    (ho : o.op = .call { callee := .builtin .append, args := #[s, x], argTypes := #[25, 25] })
    (base : Nat) (sv : Value) (xs : List Int) (hs : a.eval s = sv) (hO : OwnN w base sv xs) (hbase : base ≤ w.heap.size) (d : Nat) (n : Int) (hx : a.eval x = .slice (some ⟨d, 0, none⟩) 1 1) (hd : w.cell? ⟨d, 0, none⟩ = some (.int .i64 n)) (hl : xs.length ≤ 1048576)
    {b i0 : Nat} {cs : Array Value} {T : TypeId} (hb : w.heap[b]? = some (.cells cs T (0, 0))) (hne : sv.ownBlock ≠ some b) (hci : cs[i0]? = some sv)
    (h : ∀ g cp w', OwnN w' base (.slice (some ⟨g, 0, none⟩) (xs.length + 1) cp) (xs ++ [n]) → Chg base w.heap.size w w' → w'.heap[b]? = some (.cells cs T (0, 0)) → w'.cell? ⟨b, i0, none⟩ = some sv → w'.frozen? ⟨b, i0, none⟩ = false → (∀ k, k < w.heap.size → (∀ cs fr, w.heap[k]? ≠ some (.cells cs 2 fr)) → w'.heap[k]? = w.heap[k]?) → wpList Tryz.prog ops Q rest (a.put o.dst (.slice (some ⟨g, 0, none⟩) (xs.length + 1) cp)) w') : wpList Tryz.prog ops Q (o :: rest) a w := by
  obtain ⟨i, hi, hz0, hz1, hz2⟩ := info_parts Tryz.infoN
  have hrow : w.ownsRow base 2 1 sv xs.length (xs.map (Value.int .i64)) := hO
  have HNW : ∀ j u, [Value.int .i64 n][j]? = some u → w.cell? ((⟨d, 0, none⟩ : Addr).add j) = some u := by
    intro j u hj
    match j, hj with
    | 0, hj => simp at hj; subst hj; simpa [Addr.add] using hd
  refine wpList_append_own _ hgd s x 25 ho base 2 i (.int .i64 0) 1 8 Tryz.underlying25 hi hz0 hz1 hz2 rfl (by decide) sv xs.length (xs.map (Value.int .i64)) hs hrow ⟨d, 0, none⟩ 1 1 [.int .i64 n] hx rfl HNW (fun u hu => by simp at hu; subst hu; rfl) (by unfold maxLen; omega) (by omega) hbase ?_
  intro v' w2 hown hgrow _
  obtain ⟨g, cp, rfl⟩ : ∃ g cp, v' = .slice (some ⟨g, 0, none⟩) (xs.length + 1) cp := by
    rcases hown.2 with ⟨_, h0⟩ | ⟨g, cap, cur, hv, _⟩
    · omega
    · exact ⟨g, cap, hv⟩
  have hlt : b < w.heap.size := (Array.getElem?_eq_some_iff.1 hb).1
  have hb2 : w2.heap[b]? = some (.cells cs T (0, 0)) := by
    rw [hgrow.block b hlt (fun e => hne e.symm)]
    exact hb
  refine h g cp w2 ?_ (Chg.ofGrown hgrow (fun k hk _ => World.ownsRow.lt hrow k hk)) hb2 (by rw [Lib.cell_of_heap hb2]; exact hci) (Lib.frozen_of_heap hb2 i0) (fun k hk hno => hgrow.block k hk (fun e => by
    rcases hrow.2 with ⟨rfl, _⟩ | ⟨g', cap', cur', rfl, _, hh, _⟩
    · simp [Value.ownBlock] at e
    · obtain rfl : k = g' := by simpa [Value.ownBlock] using e
      exact hno _ _ hh))
  unfold OwnN
  rw [List.length_append, List.map_append]
  exact hown

set_option maxRecDepth 20000 in
set_option maxHeartbeats 1000000 in
theorem takeNumber_ok : TakeOk 45 (fun s x => (numF x).map fun n => { s with nums := s.nums ++ [n] }) := by
  intro W b s x hx hnl _ hS hR hP hL
  have hb := hL.lt
  have hN := numberOf_calls W x hx hS hR hP
  have HE : Hid (∀ s', ((numF x).map fun n => { s with nums := s.nums ++ [n] }) = some s' → s' = { s with nums := s.nums ++ [(numF x).getD 0] }) := fun s' e => by
    cases hn : numF x with
    | none => rw [hn] at e; cases e
    | some n => rw [hn] at e; injection e with e; rw [← e]; rfl
  have e2 : ((numF x).map fun n => { s with nums := s.nums ++ [n] }).isSome = (numF x).isSome := by cases numF x <;> rfl
  rw [e2]
  generalize (numF x).getD 0 = n at *
  generalize (numF x).isSome = g at *
  go_enter Tryz.func45, Tryz.ntmps45
  go_wp2_with fail
  refine hN.mono ?_
  rintro e w2 ⟨rfl, c2⟩
  obtain ⟨nv, h1, ho⟩ := hL.keep c2
  have hs2 := c2.size
  have y : w2.cell? ⟨b, 8, none⟩ = some nv := by rw [Lib.cell_of_heap h1]; rfl
  have HC2 : Hid (Chg 0 0 W w2) := c2
  have cA : Chg 0 0 w2 (w2.alloc (.cells #[.int .i64 n] 2)) := Chg.alloc (Chg.refl 0 0 w2) _
  have hd : (w2.alloc (.cells #[.int .i64 n] 2)).cell? ⟨w2.heap.size, 0, none⟩ = some (.int .i64 n) := by rw [Lib.cell_of_heap (heap_new w2 _)]; rfl
  have HOA : Hid (OwnN (w2.alloc (.cells #[.int .i64 n] 2)) (b + 1) nv s.nums) := ho.chg cA (by omega)
  have HBA : Hid ((w2.alloc (.cells #[.int .i64 n] 2)).heap[b]? = some (.cells (cLine s nv) 27 (0, 0))) := (cA.block b (by omega) (by omega)).trans h1
  have HCA : Hid (Chg 0 0 W (w2.alloc (.cells #[.int .i64 n] 2))) := c2.trans cA
  have sA : w2.heap.size + 1 = (w2.alloc (.cells #[.int .i64 n] 2)).heap.size := by simp
  have hne : nv.ownBlock ≠ some b := fun e => by have := (World.ownsRow.lt ho b e).1; omega
  clear cA c2 hN hL ho h1
  go_wp2_with (refine wpList_app_int rfl (.tmp 16) (.tmp 18) rfl (b + 1) nv s.nums rfl HOA.out (by omega) w2.heap.size n rfl hd hnl HBA.out hne (i0 := 8) rfl ?_; intro g8 cp8 w8 o8 c8 hb8 y8 f8 q8)
  have HL : Hid (LineAt (w8.setCell ⟨b, 8, none⟩ (.slice (some ⟨g8, 0, none⟩) (s.nums.length + 1) cp8)) b { s with nums := s.nums ++ [n] }) := by
    have c1 : Chg b (b + 1) w8 (w8.setCell ⟨b, 8, none⟩ (.slice (some ⟨g8, 0, none⟩) (s.nums.length + 1) cp8)) := (Chg.refl _ _ w8).setCell (p := ⟨b, 8, none⟩) (Or.inl ⟨Nat.le_refl _, Nat.lt_succ_self _⟩) _
    refine ⟨.slice (some ⟨g8, 0, none⟩) (s.nums.length + 1) cp8, ?_, OwnN.chg o8 c1 (Or.inl (Nat.le_refl _))⟩
    rw [setCell_eq_setRow w8 b 8 _ 27 (0, 0) _ hb8, setRow_heap w8 b _ _ 27 (0, 0) hb8]
    rfl
  have hs8 := c8.size
  have HC : Hid (Chg b W.heap.size W (w8.setCell ⟨b, 8, none⟩ (.slice (some ⟨g8, 0, none⟩) (s.nums.length + 1) cp8))) := by
    have k1 : Chg b (w2.alloc (.cells #[.int .i64 n] 2)).heap.size (w2.alloc (.cells #[.int .i64 n] 2)) w8 := c8.widen (Or.inl (by omega)) (Or.inl (Nat.le_refl _))
    have k2 := chg_into HCA.out k1
    exact k2.setCell (p := ⟨b, 8, none⟩) (Or.inl ⟨Nat.le_refl _, hb⟩) _
  have HO : Hid (Oth b W (w8.setCell ⟨b, 8, none⟩ (.slice (some ⟨g8, 0, none⟩) (s.nums.length + 1) cp8))) := fun k hk hne hno => by
    have c1 : Chg b (b + 1) w8 (w8.setCell ⟨b, 8, none⟩ (.slice (some ⟨g8, 0, none⟩) (s.nums.length + 1) cp8)) := (Chg.refl _ _ w8).setCell (p := ⟨b, 8, none⟩) (Or.inl ⟨Nat.le_refl _, Nat.lt_succ_self _⟩) _
    have hA := HCA.out.block k hk (by omega)
    have hsA := HCA.out.size
    rw [c1.block k (by omega) (by omega), q8 k (by omega) (fun cs fr e => hno cs fr (hA.symm.trans e)), hA]
  clear o8 c8 hb8 q8
  go_wp2
  go_ret
  exact ⟨rfl, fun s' e => by rw [HE.out s' e]; exact HL.out, HC.out, HO.out⟩

/-- The first of the numbers. -/
theorem LineAt.first {W : World} {b : Nat} {s : Lst} (h : LineAt W b s) (hn : 0 < s.nums.length) : ∃ g cp, W.cell? ⟨b, 8, none⟩ = some (.slice (some ⟨g, 0, none⟩) s.nums.length cp) ∧ W.cell? ⟨g, 0, none⟩ = some (.int .i64 (s.nums.getD 0 0)) := by
  obtain ⟨nv, h1, h2⟩ := h
  have h3 := h2
  rcases h2.2 with ⟨_, h0⟩ | ⟨g, cp, cur, rfl, _⟩
  · omega
  · refine ⟨g, cp, by rw [Lib.cell_of_heap h1]; rfl, ?_⟩
    have := World.ownsRow.cellAt h3 0 (by omega)
    rw [this, List.getElem?_map, List.getElem?_eq_getElem hn]
    simp [List.getD_eq_getElem?_getD, hn]

noncomputable def countF (s : Lst) (x : ByteArray) : Option Lst := match numF x with
  | none => none
  | some n => if 1 ≤ (s.nums ++ [n]).getD 0 0 then some { s with nums := s.nums ++ [n] } else none

set_option maxHeartbeats 1000000 in
theorem takeCount_ok : TakeOk 39 countF := by
  intro W b s x hx hnl hdz hS hR hP hL
  have hN := takeNumber_ok W b s x hx hnl hdz hS hR hP hL
  dsimp only at hN
  cases hn : numF x with
  | none =>
    rw [hn] at hN
    have HF : Hid (countF s x = none) := by show _ = _; unfold countF; rw [hn]
    rw [HF.out]
    go_enter Tryz.func39, Tryz.ntmps39
    go_wp2_with fail
    refine hN.mono ?_
    rintro e w2 ⟨rfl, _, c2, o2⟩
    have HC : Hid (Chg b W.heap.size W w2) := c2
    have HO : Hid (Oth b W w2) := o2
    clear c2 hN
    go_wp2
    go_ret
    exact ⟨rfl, fun s' e => by (cases e), HC.out, HO.out⟩
  | some n =>
    rw [hn] at hN
    by_cases hf : 1 ≤ (s.nums ++ [n]).getD 0 0
    · have HF : Hid (countF s x = some { s with nums := s.nums ++ [n] }) := by show _ = _; unfold countF; rw [hn]; exact if_pos hf
      rw [HF.out]
      go_enter Tryz.func39, Tryz.ntmps39
      go_wp2_with fail
      refine hN.mono ?_
      rintro e w2 ⟨rfl, hl2, c2, o2⟩
      have HO : Hid (Oth b W w2) := o2
      have hL2 := hl2 _ rfl
      obtain ⟨g, cp, y0, y1⟩ := hL2.first (by simp)
      have HL : Hid (LineAt w2 b { s with nums := s.nums ++ [n] }) := hL2
      have HC : Hid (Chg b W.heap.size W w2) := c2
      have hlen : (0 : Int) < ((s.nums ++ [n]).length : Int) := by simp
      have y0' : w2.cell? ⟨b, 8, none⟩ = some (.slice (some ⟨g, 0, none⟩) (s.nums ++ [n]).length cp) := y0
      have y1' : w2.cell? ⟨g, 0, none⟩ = some (.int .i64 ((s.nums ++ [n]).getD 0 0)) := y1
      clear c2 hN hl2 hL2 y0 y1 HF
      generalize (s.nums ++ [n]).getD 0 0 = fst at *
      generalize (s.nums ++ [n]).length = len at *
      go_wp2
      go_ret
      exact ⟨rfl, fun s' e => by injection e with e; rw [← e]; exact HL.out, HC.out, HO.out⟩
    · have HF : Hid (countF s x = none) := by show _ = _; unfold countF; rw [hn]; exact if_neg hf
      rw [HF.out]
      go_enter Tryz.func39, Tryz.ntmps39
      go_wp2_with fail
      refine hN.mono ?_
      rintro e w2 ⟨rfl, hl2, c2, o2⟩
      have HO : Hid (Oth b W w2) := o2
      have hL2 := hl2 _ rfl
      obtain ⟨g, cp, y0, y1⟩ := hL2.first (by simp)
      have HL : Hid (LineAt w2 b { s with nums := s.nums ++ [n] }) := hL2
      have HC : Hid (Chg b W.heap.size W w2) := c2
      have hlen : (0 : Int) < ((s.nums ++ [n]).length : Int) := by simp
      have y0' : w2.cell? ⟨b, 8, none⟩ = some (.slice (some ⟨g, 0, none⟩) (s.nums ++ [n]).length cp) := y0
      have y1' : w2.cell? ⟨g, 0, none⟩ = some (.int .i64 ((s.nums ++ [n]).getD 0 0)) := y1
      clear c2 hN hl2 hL2 y0 y1 HF
      generalize (s.nums ++ [n]).getD 0 0 = fst at *
      generalize (s.nums ++ [n]).length = len at *
      go_wp2
      go_ret
      exact ⟨by first | rfl | (show Ending.returned (Value.bool (decide (1 ≤ fst))) = _; rw [decide_eq_false (by omega)]; rfl), fun s' e => by (cases e), HC.out, HO.out⟩

end Go.Proofs.YteaeikmgkmpkiaaGreatDoor

namespace Go.Proofs.YteaeikmgkmpkiaaGreatDoor
section
variable {P : Program} {md : Region.Mode} {ops : Array Oper} {Q : Exit → Act → World → Prop} {S : World → Prop} {z : Nat}

/-- Whatever may come up comes up; behind it S holds, unless it is number z. -/
def wpAnyW (P : Program) (md : Region.Mode) (ops : Array Oper) (Q : Exit → Act → World → Prop) (S : World → Prop) (z : Nat) : Nat → Array Bool → Act → World → Prop
  | 0, listed, a, w => Region.ready md ops listed = [] ∧ Q .normal a w
  | fuel + 1, listed, a, w => (Region.ready md ops listed = [] → Q .normal a w) ∧
    ∀ i ∈ Region.ready md ops listed, wpOp P ops Q i (fun a' w' => (i ≠ z → S w') ∧ wpAnyW P md ops Q S z fuel (listed.setIfInBounds i true) a' w') a w

theorem wpAny_of_weak : ∀ (fuel : Nat) (listed : Array Bool) (a : Act) (w : World), wpAnyW P md ops Q S z fuel listed a w → wpAny P md ops Q fuel listed a w
  | 0, _, _, _, h => h
  | fuel + 1, _, _, _, h => ⟨h.1, fun i hi => wpOp_mono (fun a' w' h' => wpAny_of_weak fuel _ a' w' h'.2) (h.2 i hi)⟩

theorem weak_first {i : Nat} {oi : Oper} {v : Value} (hi : ops[i]? = some oi) (hsel : Region.noSelect ops = true) (hz : Region.waitsFor md ops z i = true)
    (hQ : ∀ c a w, Q (.panic c) (a.put oi.dst v) w → Q (.panic c) a w) : ∀ (fuel : Nat) (listed : Array Bool) (a : Act) (w : World),
      (∀ j oj, ops[j]? = some oj → j ≠ i → listed.getD j true = false → (∀ e ∈ oj.after, Region.binds md e = true → e.on ≠ i) → oi.apart ops oj = true) →
      i ∈ Region.ready md ops listed → YieldsIf P ops S oi v a → S w →
      wpAnyW P md ops Q S z fuel (listed.setIfInBounds i true) (a.put oi.dst v) w → wpAnyW P md ops Q S z (fuel + 1) listed a w
  | 0, listed, a, w, _, hr, hy, hS, H => by
    refine ⟨fun h => absurd hr (by rw [h]; simp), fun j hj => ?_⟩
    rcases Nat.decEq j i with hji | hji
    · exact absurd (ready_mono hj hji) (by rw [H.1]; simp)
    · subst hji; exact hy.wpOp hi hS ⟨fun _ => hS, H⟩
  | fuel + 1, listed, a, w, hfree, hr, hy, hS, H => by
    refine ⟨fun h => absurd hr (by rw [h]; simp), fun j hj => ?_⟩
    rcases Nat.decEq j i with hji | hji
    · obtain ⟨hjun, oj, hoj, hall⟩ := mem_ready.1 hj
      have hi0 := (mem_ready.1 hr).1
      have hnot : ∀ e ∈ oj.after, Region.binds md e = true → e.on ≠ i := by
        intro e he hb heq
        have h1 := hall e he hb
        rw [heq] at h1
        simp only [Array.getD_eq_getD_getElem?] at h1 hi0
        cases hx : listed[i]? with
        | none => rw [hx] at h1; simp at h1
        | some b => rw [hx] at h1 hi0; simp at h1 hi0; rw [h1] at hi0; cases hi0
      have h2 := wpOp_putIf hoj (hfree j oj hoj hji hjun hnot) (fun cs b => Region.noSelect_spec hsel i oi cs b hi) (fun cs b => Region.noSelect_spec hsel j oj cs b hoj) hQ hy (H.2 j (ready_mono hj hji))
      have hri := ready_mono hr (Ne.symm hji)
      refine wpOp_mono (fun a' w' h3 => ?_) h2
      obtain ⟨hy', hS', H'⟩ := h3
      rw [Array.setIfInBounds_comm _ _ (Ne.symm hji)] at H'
      have hSw : S w' := hS' (by
        intro e
        obtain ⟨oz, h1, e', h2, h3, h4⟩ := Region.waitsFor_spec hz
        rw [← e, hoj] at h1
        cases h1
        exact hnot e' h2 h3 h4)
      refine ⟨fun _ => hSw, weak_first hi hsel hz hQ fuel (listed.setIfInBounds j true) a' w' ?_ hri hy' hSw H'⟩
      intro k ok hk hki hun hno
      refine hfree k ok hk hki ?_ hno
      by_cases hjk : j = k
      · subst hjk; exact hjun
      · rw [getD_set_ne true hjk] at hun; exact hun
    · subst hji; exact hy.wpOp hi hS ⟨fun _ => hS, H⟩

/-- Take number i first. -/
theorem weak_take (i : Nat) {oi : Oper} (v : Value) {fuel : Nat} {listed : Array Bool} {a : Act} {w : World} (hi : ops[i]? = some oi)
    (hs : Region.noSelect ops = true) (hz : Region.waitsFor md ops z i = true) (hf : Region.free md ops listed i = true) (hr : (Region.ready md ops listed).contains i = true)
    (hQ : ∀ c a w, Q (.panic c) (a.put oi.dst v) w → Q (.panic c) a w) (hy : YieldsIf P ops S oi v a) (hS : S w)
    (h : wpAnyW P md ops Q S z fuel (listed.setIfInBounds i true) (a.put oi.dst v) w) : wpAnyW P md ops Q S z (fuel + 1) listed a w :=
  weak_first hi hs hz hQ fuel listed a w (Region.free_spec hi hf) (by simpa using hr) hy hS h

/-- One alone may come up. -/
theorem weak_one (i : Nat) {o : Oper} {fuel : Nat} {listed : Array Bool} {a : Act} {w : World} (hi : ops[i]? = some o) (hw : o.guard = none) (hr : Region.ready md ops listed = [i])
    (h : o.wp P a w (fun a' w' => (i ≠ z → S w') ∧ wpAnyW P md ops Q S z fuel (listed.setIfInBounds i true) a' w') Q) : wpAnyW P md ops Q S z (fuel + 1) listed a w := by
  refine ⟨fun h0 => (by rw [hr] at h0; cases h0), fun j hj => ?_⟩
  rw [hr] at hj
  obtain rfl := List.mem_singleton.1 hj
  unfold wpOp
  simp only [hi]
  rw [if_pos (by simp [Region.wanted, hw])]
  exact .inl h

theorem weak_done {listed : Array Bool} {a : Act} {w : World} (hr : Region.ready md ops listed = []) (h : Q .normal a w) : wpAnyW P md ops Q S z 0 listed a w := ⟨hr, h⟩

theorem weak_region (z : Nat) (S : World → Prop) {id : Nat} {a : Act} {w : World} (hm : P.follows .mixedOrders = true)
    (h : wpAnyW P .any ops (NoPanic Q) S z ops.size (Array.replicate ops.size false) a w.drew) : (Code.region id ops true).wp P Q a w :=
  wp_region_noPanic (wp_region_any hm (wpAny_of_weak _ _ _ _ h))
end

/-- An operation that gives a value. -/
theorem wp_given {P : Program} {o : Oper} {a : Act} {w w' : World} {K : Act → World → Prop} {Q : Exit → Act → World → Prop} {v : Value} (hrun : (execOp a.eval o).run P w = .ok (.value v) w') (h : K (a.put o.dst v) w') : o.wp P a w K Q := by
  unfold Oper.wp
  rw [hrun]
  exact h

theorem wp_enter {P : Program} {o : Oper} {a : Act} {w : World} {K : Act → World → Prop} {Q : Exit → Act → World → Prop} (f : FuncId) (args : Array Value) (hrun : (execOp a.eval o).run P w = .ok (.enter f args) w)
    {R : Ending → World → Prop} (hc : Calls P f args w R) (h : ∀ e w', R e w' → ∃ v, e = .returned v ∧ K (a.put o.dst v) w') : o.wp P a w K Q := by
  unfold Oper.wp
  rw [hrun, Oper.upon_enter]
  refine hc.mono fun e w' hR => ?_
  obtain ⟨v, rfl, hK⟩ := h e w' hR
  exact hK

end Go.Proofs.YteaeikmgkmpkiaaGreatDoor
