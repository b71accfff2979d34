/- Several short texts in one: TakeA, TakeB. -/
import Derived.Test.YteaeikmgkmpkiaaGreatDoorNumImpl
import Derived.Great.BuildSlice
namespace Go.Proofs.YteaeikmgkmpkiaaGreatDoor
open Go.RowKit Go.Lib

/-- A line under way: its kind, its call, its numbers. -/
structure Lst where
  kind : Int
  ck : Int
  path : ByteArray
  to' : ByteArray
  han : Int
  off : Int
  siz : Int
  data : ByteArray
  nums : List Int
abbrev cLine (s : Lst) (nv : Value) : Array Value := #[.int .i64 s.kind, .int .i64 s.ck, .string s.path, .string s.to', .int .i64 s.han, .int .i64 s.off, .int .i64 s.siz, .string s.data, nv]
def OwnN (w : World) (base : Nat) (v : Value) (xs : List Int) : Prop := w.ownsRow base 2 1 v xs.length (xs.map (Value.int .i64))
def LineAt (W : World) (b : Nat) (s : Lst) : Prop := ∃ nv, W.heap[b]? = some (.cells (cLine s nv) 27 (0, 0)) ∧ OwnN W (b + 1) nv s.nums
theorem LineAt.lt {W : World} {b : Nat} {s : Lst} (h : LineAt W b s) : b < W.heap.size := by
  obtain ⟨nv, h1, _⟩ := h
  exact (Array.getElem?_eq_some_iff.1 h1).1

theorem OwnN.chg {w w' : World} {base l r : Nat} {v : Value} {xs : List Int} (h : OwnN w base v xs) (c : Chg l r w w') (d : r ≤ base ∨ r ≤ l) : OwnN w' base v xs := by
  have hlt := World.ownsRow.lt h
  obtain ⟨h1, h2⟩ := h
  refine ⟨h1, ?_⟩
  rcases h2 with h2 | ⟨g, cap, cur, hv, hg, hh, rest⟩
  · exact Or.inl h2
  · refine Or.inr ⟨g, cap, cur, hv, hg, ?_, rest⟩
    rw [c.block g (Array.getElem?_eq_some_iff.1 hh).1 (by omega)]; exact hh
theorem LineAt.keep {W W' : World} {b : Nat} {s : Lst} (h : LineAt W b s) (c : Chg 0 0 W W') : LineAt W' b s := by
  have hlt := h.lt
  obtain ⟨nv, h1, h2⟩ := h
  exact ⟨nv, (c.block b hlt (by omega)).trans h1, h2.chg c (by omega)⟩

/-- One cell of the line is put. -/
theorem LineAt.put {W : World} {b : Nat} {s s' : Lst} (h : LineAt W b s) (i : Nat) (v : Value) (hs : ∀ nv, (cLine s nv).setIfInBounds i v = cLine s' nv) (hn : s'.nums = s.nums) :
    (∃ u, W.cell? ⟨b, i, none⟩ = u) ∧ W.frozen? ⟨b, i, none⟩ = false ∧ LineAt (W.setCell ⟨b, i, none⟩ v) b s' ∧ Chg b W.heap.size W (W.setCell ⟨b, i, none⟩ v) := by
  have hlt := h.lt
  obtain ⟨nv, h1, h2⟩ := h
  have c1 : Chg b (b + 1) W (W.setCell ⟨b, i, none⟩ v) := (Chg.refl _ _ W).setCell (p := ⟨b, i, none⟩) (Or.inl ⟨Nat.le_refl _, Nat.lt_succ_self _⟩) _
  refine ⟨⟨_, rfl⟩, Lib.frozen_of_heap h1 i, ⟨nv, ?_, ?_⟩, c1.widen (Or.inl (Nat.le_refl _)) (Or.inl (by omega))⟩
  · rw [setCell_eq_setRow W b i _ 27 (0, 0) v h1, setRow_heap W b _ _ 27 (0, 0) h1, hs nv]
  · rw [hn]
    exact h2.chg c1 (Or.inl (Nat.le_refl _))

theorem chg_into {base : Nat} {a b c : World} (h : Chg 0 0 a b) (k : Chg base b.heap.size b c) : Chg base a.heap.size a c :=
  ⟨k.os.trans h.os, k.tape.trans h.tape, k.output.trans h.output, Nat.le_trans h.size k.size, fun j hj ho => (k.block j (Nat.lt_of_lt_of_le hj h.size) (by have := h.size; omega)).trans (h.block j hj (by omega))⟩

/-- Nothing but the line and rows of numbers is changed. -/
def Oth (b : Nat) (W w' : World) : Prop := ∀ k, k < W.heap.size → k ≠ b → (∀ cs fr, W.heap[k]? ≠ some (.cells cs 2 fr)) → w'.heap[k]? = W.heap[k]?
theorem oth_of {b : Nat} {W w' : World} (c : Chg 0 0 W w') : Oth b W w' := fun k hk _ _ => c.block k hk (by omega)
theorem oth_put {b : Nat} {W w2 : World} (c : Chg 0 0 W w2) (i : Nat) (v : Value) : Oth b W (w2.setCell ⟨b, i, none⟩ v) := fun k hk hne _ => by
  have c1 : Chg b (b + 1) w2 (w2.setCell ⟨b, i, none⟩ v) := (Chg.refl _ _ w2).setCell (p := ⟨b, i, none⟩) (Or.inl ⟨Nat.le_refl _, Nat.lt_succ_self _⟩) _
  rw [c1.block k (Nat.lt_of_lt_of_le hk c.size) (by omega), c.block k hk (by omega)]

/-- What a taker does with a field: none where it refuses it. -/
def TakeOk (f : Nat) (t : Lst → ByteArray → Option Lst) : Prop :=
  ∀ (W : World) (b : Nat) (s : Lst) (x : ByteArray), x.size ≤ 1048576 → s.nums.length ≤ 1048576 → s.data.size ≤ 1048576 → SynE W → RanE W → Pow W → LineAt W b s →
    Calls Tryz.prog f #[.pointer (some ⟨b, 0, none⟩), .string x] W fun e w' => e = .returned (.bool (t s x).isSome) ∧ (∀ s', t s x = some s' → LineAt w' b s') ∧ Chg b W.heap.size W w' ∧ Oth b W w'

set_option maxHeartbeats 1000000 in
theorem takePath_ok : TakeOk 31 (fun s x => some { s with path := x }) := by
  intro W b s x _ _ _ _ _ _ hL
  obtain ⟨_, fz, hL2, c2⟩ := hL.put 2 (.string x) (s' := { s with path := x }) (fun nv => rfl) rfl
  obtain ⟨nv, h1, _⟩ := hL
  have y : W.cell? ⟨b, 2, none⟩ = some (.string s.path) := by rw [Lib.cell_of_heap h1]; rfl
  have HL : Hid (LineAt (W.setCell ⟨b, 2, none⟩ (.string x)) b { s with path := x }) := hL2
  have HC : Hid (Chg b W.heap.size W (W.setCell ⟨b, 2, none⟩ (.string x))) := c2
  have HO : Hid (Oth b W (W.setCell ⟨b, 2, none⟩ (.string x))) := oth_put (Chg.refl 0 0 W) 2 _
  clear hL2 c2 h1
  go_enter Tryz.func31, Tryz.ntmps31
  go_wp2
  go_ret
  exact ⟨rfl, fun s' e => by injection e with e; rw [← e]; exact HL.out, HC.out, HO.out⟩

set_option maxHeartbeats 1000000 in
theorem takeTo_ok : TakeOk 32 (fun s x => some { s with to' := x }) := by
  intro W b s x _ _ _ _ _ _ hL
  obtain ⟨_, fz, hL2, c2⟩ := hL.put 3 (.string x) (s' := { s with to' := x }) (fun nv => rfl) rfl
  obtain ⟨nv, h1, _⟩ := hL
  have y : W.cell? ⟨b, 3, none⟩ = some (.string s.to') := by rw [Lib.cell_of_heap h1]; rfl
  have HL : Hid (LineAt (W.setCell ⟨b, 3, none⟩ (.string x)) b { s with to' := x }) := hL2
  have HC : Hid (Chg b W.heap.size W (W.setCell ⟨b, 3, none⟩ (.string x))) := c2
  have HO : Hid (Oth b W (W.setCell ⟨b, 3, none⟩ (.string x))) := oth_put (Chg.refl 0 0 W) 3 _
  clear hL2 c2 h1
  go_enter Tryz.func32, Tryz.ntmps32
  go_wp2
  go_ret
  exact ⟨rfl, fun s' e => by injection e with e; rw [← e]; exact HL.out, HC.out, HO.out⟩

set_option maxHeartbeats 1000000 in
theorem takeHandle_ok : TakeOk 38 (fun s x => (numF x).map fun n => { s with han := n }) := by
  intro W b s x hx _ _ hS hR hP hL
  have hN := numberOf_calls W x hx hS hR hP
  have HE : Hid (∀ s', ((numF x).map fun n => { s with han := n }) = some s' → s' = { s with han := (numF x).getD 0 }) := fun s' e => by
    cases hn : numF x with
    | none => rw [hn] at e; cases e
    | some n => rw [hn] at e; injection e with e; rw [← e]; rfl
  have e2 : ((numF x).map fun n => { s with han := n }).isSome = (numF x).isSome := by cases numF x <;> rfl
  rw [e2]
  generalize (numF x).getD 0 = n at *
  generalize (numF x).isSome = g at *
  go_enter Tryz.func38, Tryz.ntmps38
  go_wp2_with fail
  refine hN.mono ?_
  rintro e w2 ⟨rfl, c2⟩
  obtain ⟨_, fz, hL3, c3⟩ := (hL.keep c2).put 4 (.int .i64 n) (s' := { s with han := n }) (fun nv => rfl) rfl
  obtain ⟨nv, h1, _⟩ := hL.keep c2
  have y : w2.cell? ⟨b, 4, none⟩ = some (.int .i64 s.han) := by rw [Lib.cell_of_heap h1]; rfl
  have HL : Hid (LineAt (w2.setCell ⟨b, 4, none⟩ (.int .i64 n)) b { s with han := n }) := hL3
  have HC : Hid (Chg b W.heap.size W (w2.setCell ⟨b, 4, none⟩ (.int .i64 n))) := chg_into c2 c3
  have HO : Hid (Oth b W (w2.setCell ⟨b, 4, none⟩ (.int .i64 n))) := oth_put c2 4 _
  clear hL3 c3 h1 c2 hN hL
  go_wp2
  go_ret
  exact ⟨rfl, fun s' e => by rw [HE.out s' e]; exact HL.out, HC.out, HO.out⟩

set_option maxHeartbeats 1000000 in
theorem takeOffset_ok : TakeOk 34 (fun s x => (numF x).map fun n => { s with off := n }) := by
  intro W b s x hx _ _ hS hR hP hL
  have hN := numberOf_calls W x hx hS hR hP
  have HE : Hid (∀ s', ((numF x).map fun n => { s with off := n }) = some s' → s' = { s with off := (numF x).getD 0 }) := fun s' e => by
    cases hn : numF x with
    | none => rw [hn] at e; cases e
    | some n => rw [hn] at e; injection e with e; rw [← e]; rfl
  have e2 : ((numF x).map fun n => { s with off := n }).isSome = (numF x).isSome := by cases numF x <;> rfl
  rw [e2]
  generalize (numF x).getD 0 = n at *
  generalize (numF x).isSome = g at *
  go_enter Tryz.func34, Tryz.ntmps34
  go_wp2_with fail
  refine hN.mono ?_
  rintro e w2 ⟨rfl, c2⟩
  obtain ⟨_, fz, hL3, c3⟩ := (hL.keep c2).put 5 (.int .i64 n) (s' := { s with off := n }) (fun nv => rfl) rfl
  obtain ⟨nv, h1, _⟩ := hL.keep c2
  have y : w2.cell? ⟨b, 5, none⟩ = some (.int .i64 s.off) := by rw [Lib.cell_of_heap h1]; rfl
  have HL : Hid (LineAt (w2.setCell ⟨b, 5, none⟩ (.int .i64 n)) b { s with off := n }) := hL3
  have HC : Hid (Chg b W.heap.size W (w2.setCell ⟨b, 5, none⟩ (.int .i64 n))) := chg_into c2 c3
  have HO : Hid (Oth b W (w2.setCell ⟨b, 5, none⟩ (.int .i64 n))) := oth_put c2 5 _
  clear hL3 c3 h1 c2 hN hL
  go_wp2
  go_ret
  exact ⟨rfl, fun s' e => by rw [HE.out s' e]; exact HL.out, HC.out, HO.out⟩

set_option maxHeartbeats 1000000 in
theorem takeSize_ok : TakeOk 37 (fun s x => (numF x).map fun n => { s with siz := n }) := by
  intro W b s x hx _ _ hS hR hP hL
  have hN := numberOf_calls W x hx hS hR hP
  have HE : Hid (∀ s', ((numF x).map fun n => { s with siz := n }) = some s' → s' = { s with siz := (numF x).getD 0 }) := fun s' e => by
    cases hn : numF x with
    | none => rw [hn] at e; cases e
    | some n => rw [hn] at e; injection e with e; rw [← e]; rfl
  have e2 : ((numF x).map fun n => { s with siz := n }).isSome = (numF x).isSome := by cases numF x <;> rfl
  rw [e2]
  generalize (numF x).getD 0 = n at *
  generalize (numF x).isSome = g at *
  go_enter Tryz.func37, Tryz.ntmps37
  go_wp2_with fail
  refine hN.mono ?_
  rintro e w2 ⟨rfl, c2⟩
  obtain ⟨_, fz, hL3, c3⟩ := (hL.keep c2).put 6 (.int .i64 n) (s' := { s with siz := n }) (fun nv => rfl) rfl
  obtain ⟨nv, h1, _⟩ := hL.keep c2
  have y : w2.cell? ⟨b, 6, none⟩ = some (.int .i64 s.siz) := by rw [Lib.cell_of_heap h1]; rfl
  have HL : Hid (LineAt (w2.setCell ⟨b, 6, none⟩ (.int .i64 n)) b { s with siz := n }) := hL3
  have HC : Hid (Chg b W.heap.size W (w2.setCell ⟨b, 6, none⟩ (.int .i64 n))) := chg_into c2 c3
  have HO : Hid (Oth b W (w2.setCell ⟨b, 6, none⟩ (.int .i64 n))) := oth_put c2 6 _
  clear hL3 c3 h1 c2 hN hL
  go_wp2
  go_ret
  exact ⟨rfl, fun s' e => by rw [HE.out s' e]; exact HL.out, HC.out, HO.out⟩

end Go.Proofs.YteaeikmgkmpkiaaGreatDoor

namespace Go.Proofs.YteaeikmgkmpkiaaGreatDoor
open Go.RowKit Go.Lib

theorem Tryz.infoN : (Tryz.prog.info? 2).map (fun i => (i.zero, i.size, i.bytes)) = some (some (.int .i64 0), 1, 8) := by kernel_rfl

/-- append of one number to numbers of one's own. -/
theorem wpList_app_int {ops : Array Oper} {rest : List Oper} {o : Oper} {a : Act} {w : World} {Q : Exit → Act → World → Prop} (hgd : o.guard = none) (s x : Operand)
    (ho : o.op = .call { callee := .builtin .append, args := #[s, x], argTypes := #[25, 25] })
    (base : Nat) (sv : Value) (xs : List Int) (hs : a.eval s = sv) (hO : OwnN w base sv xs) (hbase : base ≤ w.heap.size) (d : Nat) (n : Int) (hx : a.eval x = .slice (some ⟨d, 0, none⟩) 1 1) (hd : w.cell? ⟨d, 0, none⟩ = some (.int .i64 n)) (hl : xs.length ≤ 1048576)
    {b i0 : Nat} {cs : Array Value} {T : TypeId} (hb : w.heap[b]? = some (.cells cs T (0, 0))) (hne : sv.ownBlock ≠ some b) (hci : cs[i0]? = some sv)
    (h : ∀ g cp w', OwnN w' base (.slice (some ⟨g, 0, none⟩) (xs.length + 1) cp) (xs ++ [n]) → Chg base w.heap.size w w' → w'.heap[b]? = some (.cells cs T (0, 0)) → w'.cell? ⟨b, i0, none⟩ = some sv → w'.frozen? ⟨b, i0, none⟩ = false → (∀ k, k < w.heap.size → (∀ cs fr, w.heap[k]? ≠ some (.cells cs 2 fr)) → w'.heap[k]? = w.heap[k]?) → wpList Tryz.prog ops Q rest (a.put o.dst (.slice (some ⟨g, 0, none⟩) (xs.length + 1) cp)) w') : wpList Tryz.prog ops Q (o :: rest) a w := by
  obtain ⟨i, hi, hz0, hz1, hz2⟩ := info_parts Tryz.infoN
  have hrow : w.ownsRow base 2 1 sv xs.length (xs.map (Value.int .i64)) := hO
  have HNW : ∀ j u, [Value.int .i64 n][j]? = some u → w.cell? ((⟨d, 0, none⟩ : Addr).add j) = some u := by
    intro j u hj
    match j, hj with
    | 0, hj => simp at hj; subst hj; simpa [Addr.add] using hd
  refine wpList_append_own _ hgd s x 25 ho base 2 i (.int .i64 0) 1 8 Tryz.underlying25 hi hz0 hz1 hz2 rfl (by decide) sv xs.length (xs.map (Value.int .i64)) hs hrow ⟨d, 0, none⟩ 1 1 [.int .i64 n] hx rfl HNW (fun u hu => by simp at hu; subst hu; rfl) (by unfold maxLen; omega) (by omega) hbase ?_
  intro v' w2 hown hgrow _
  obtain ⟨g, cp, rfl⟩ : ∃ g cp, v' = .slice (some ⟨g, 0, none⟩) (xs.length + 1) cp := by
    rcases hown.2 with ⟨_, h0⟩ | ⟨g, cap, cur, hv, _⟩
    · omega
    · exact ⟨g, cap, hv⟩
  have hlt : b < w.heap.size := (Array.getElem?_eq_some_iff.1 hb).1
  have hb2 : w2.heap[b]? = some (.cells cs T (0, 0)) := by
    rw [hgrow.block b hlt (fun e => hne e.symm)]
    exact hb
  refine h g cp w2 ?_ (Chg.ofGrown hgrow (fun k hk _ => World.ownsRow.lt hrow k hk)) hb2 (by rw [Lib.cell_of_heap hb2]; exact hci) (Lib.frozen_of_heap hb2 i0) (fun k hk hno => hgrow.block k hk (fun e => by
    rcases hrow.2 with ⟨rfl, _⟩ | ⟨g', cap', cur', rfl, _, hh, _⟩
    · simp [Value.ownBlock] at e
    · obtain rfl : k = g' := by simpa [Value.ownBlock] using e
      exact hno _ _ hh))
  unfold OwnN
  rw [List.length_append, List.map_append]
  exact hown

set_option maxRecDepth 20000 in
set_option maxHeartbeats 1000000 in
theorem takeNumber_ok : TakeOk 45 (fun s x => (numF x).map fun n => { s with nums := s.nums ++ [n] }) := by
  intro W b s x hx hnl _ hS hR hP hL
  have hb := hL.lt
  have hN := numberOf_calls W x hx hS hR hP
  have HE : Hid (∀ s', ((numF x).map fun n => { s with nums := s.nums ++ [n] }) = some s' → s' = { s with nums := s.nums ++ [(numF x).getD 0] }) := fun s' e => by
    cases hn : numF x with
    | none => rw [hn] at e; cases e
    | some n => rw [hn] at e; injection e with e; rw [← e]; rfl
  have e2 : ((numF x).map fun n => { s with nums := s.nums ++ [n] }).isSome = (numF x).isSome := by cases numF x <;> rfl
  rw [e2]
  generalize (numF x).getD 0 = n at *
  generalize (numF x).isSome = g at *
  go_enter Tryz.func45, Tryz.ntmps45
  go_wp2_with fail
  refine hN.mono ?_
  rintro e w2 ⟨rfl, c2⟩
  obtain ⟨nv, h1, ho⟩ := hL.keep c2
  have hs2 := c2.size
  have y : w2.cell? ⟨b, 8, none⟩ = some nv := by rw [Lib.cell_of_heap h1]; rfl
  have HC2 : Hid (Chg 0 0 W w2) := c2
  have cA : Chg 0 0 w2 (w2.alloc (.cells #[.int .i64 n] 2)) := Chg.alloc (Chg.refl 0 0 w2) _
  have hd : (w2.alloc (.cells #[.int .i64 n] 2)).cell? ⟨w2.heap.size, 0, none⟩ = some (.int .i64 n) := by rw [Lib.cell_of_heap (heap_new w2 _)]; rfl
  have HOA : Hid (OwnN (w2.alloc (.cells #[.int .i64 n] 2)) (b + 1) nv s.nums) := ho.chg cA (by omega)
  have HBA : Hid ((w2.alloc (.cells #[.int .i64 n] 2)).heap[b]? = some (.cells (cLine s nv) 27 (0, 0))) := (cA.block b (by omega) (by omega)).trans h1
  have HCA : Hid (Chg 0 0 W (w2.alloc (.cells #[.int .i64 n] 2))) := c2.trans cA
  have sA : w2.heap.size + 1 = (w2.alloc (.cells #[.int .i64 n] 2)).heap.size := by simp
  have hne : nv.ownBlock ≠ some b := fun e => by have := (World.ownsRow.lt ho b e).1; omega
  clear cA c2 hN hL ho h1
  go_wp2_with (refine wpList_app_int rfl (.tmp 16) (.tmp 18) rfl (b + 1) nv s.nums rfl HOA.out (by omega) w2.heap.size n rfl hd hnl HBA.out hne (i0 := 8) rfl ?_; intro g8 cp8 w8 o8 c8 hb8 y8 f8 q8)
  have HL : Hid (LineAt (w8.setCell ⟨b, 8, none⟩ (.slice (some ⟨g8, 0, none⟩) (s.nums.length + 1) cp8)) b { s with nums := s.nums ++ [n] }) := by
    have c1 : Chg b (b + 1) w8 (w8.setCell ⟨b, 8, none⟩ (.slice (some ⟨g8, 0, none⟩) (s.nums.length + 1) cp8)) := (Chg.refl _ _ w8).setCell (p := ⟨b, 8, none⟩) (Or.inl ⟨Nat.le_refl _, Nat.lt_succ_self _⟩) _
    refine ⟨.slice (some ⟨g8, 0, none⟩) (s.nums.length + 1) cp8, ?_, OwnN.chg o8 c1 (Or.inl (Nat.le_refl _))⟩
    rw [setCell_eq_setRow w8 b 8 _ 27 (0, 0) _ hb8, setRow_heap w8 b _ _ 27 (0, 0) hb8]
    rfl
  have hs8 := c8.size
  have HC : Hid (Chg b W.heap.size W (w8.setCell ⟨b, 8, none⟩ (.slice (some ⟨g8, 0, none⟩) (s.nums.length + 1) cp8))) := by
    have k1 : Chg b (w2.alloc (.cells #[.int .i64 n] 2)).heap.size (w2.alloc (.cells #[.int .i64 n] 2)) w8 := c8.widen (Or.inl (by omega)) (Or.inl (Nat.le_refl _))
    have k2 := chg_into HCA.out k1
    exact k2.setCell (p := ⟨b, 8, none⟩) (Or.inl ⟨Nat.le_refl _, hb⟩) _
  have HO : Hid (Oth b W (w8.setCell ⟨b, 8, none⟩ (.slice (some ⟨g8, 0, none⟩) (s.nums.length + 1) cp8))) := fun k hk hne hno => by
    have c1 : Chg b (b + 1) w8 (w8.setCell ⟨b, 8, none⟩ (.slice (some ⟨g8, 0, none⟩) (s.nums.length + 1) cp8)) := (Chg.refl _ _ w8).setCell (p := ⟨b, 8, none⟩) (Or.inl ⟨Nat.le_refl _, Nat.lt_succ_self _⟩) _
    have hA := HCA.out.block k hk (by omega)
    have hsA := HCA.out.size
    rw [c1.block k (by omega) (by omega), q8 k (by omega) (fun cs fr e => hno cs fr (hA.symm.trans e)), hA]
  clear o8 c8 hb8 q8
  go_wp2
  go_ret
  exact ⟨rfl, fun s' e => by rw [HE.out s' e]; exact HL.out, HC.out, HO.out⟩

/-- The first of the numbers. -/
theorem LineAt.first {W : World} {b : Nat} {s : Lst} (h : LineAt W b s) (hn : 0 < s.nums.length) : ∃ g cp, W.cell? ⟨b, 8, none⟩ = some (.slice (some ⟨g, 0, none⟩) s.nums.length cp) ∧ W.cell? ⟨g, 0, none⟩ = some (.int .i64 (s.nums.getD 0 0)) := by
  obtain ⟨nv, h1, h2⟩ := h
  have h3 := h2
  rcases h2.2 with ⟨_, h0⟩ | ⟨g, cp, cur, rfl, _⟩
  · omega
  · refine ⟨g, cp, by rw [Lib.cell_of_heap h1]; rfl, ?_⟩
    have := World.ownsRow.cellAt h3 0 (by omega)
    rw [this, List.getElem?_map, List.getElem?_eq_getElem hn]
    simp [List.getD_eq_getElem?_getD, hn]

def countF (s : Lst) (x : ByteArray) : Option Lst := match numF x with
  | none => none
  | some n => if 1 ≤ (s.nums ++ [n]).getD 0 0 then some { s with nums := s.nums ++ [n] } else none

set_option maxHeartbeats 1000000 in
theorem takeCount_ok : TakeOk 39 countF := by
  intro W b s x hx hnl hdz hS hR hP hL
  have hN := takeNumber_ok W b s x hx hnl hdz hS hR hP hL
  dsimp only at hN
  cases hn : numF x with
  | none =>
    rw [hn] at hN
    have HF : Hid (countF s x = none) := by show _ = _; unfold countF; rw [hn]
    rw [HF.out]
    go_enter Tryz.func39, Tryz.ntmps39
    go_wp2_with fail
    refine hN.mono ?_
    rintro e w2 ⟨rfl, _, c2, o2⟩
    have HC : Hid (Chg b W.heap.size W w2) := c2
    have HO : Hid (Oth b W w2) := o2
    clear c2 hN
    go_wp2
    go_ret
    exact ⟨rfl, fun s' e => by (cases e), HC.out, HO.out⟩
  | some n =>
    rw [hn] at hN
    by_cases hf : 1 ≤ (s.nums ++ [n]).getD 0 0
    · have HF : Hid (countF s x = some { s with nums := s.nums ++ [n] }) := by show _ = _; unfold countF; rw [hn]; exact if_pos hf
      rw [HF.out]
      go_enter Tryz.func39, Tryz.ntmps39
      go_wp2_with fail
      refine hN.mono ?_
      rintro e w2 ⟨rfl, hl2, c2, o2⟩
      have HO : Hid (Oth b W w2) := o2
      have hL2 := hl2 _ rfl
      obtain ⟨g, cp, y0, y1⟩ := hL2.first (by simp)
      have HL : Hid (LineAt w2 b { s with nums := s.nums ++ [n] }) := hL2
      have HC : Hid (Chg b W.heap.size W w2) := c2
      have hlen : (0 : Int) < ((s.nums ++ [n]).length : Int) := by simp
      have y0' : w2.cell? ⟨b, 8, none⟩ = some (.slice (some ⟨g, 0, none⟩) (s.nums ++ [n]).length cp) := y0
      have y1' : w2.cell? ⟨g, 0, none⟩ = some (.int .i64 ((s.nums ++ [n]).getD 0 0)) := y1
      clear c2 hN hl2 hL2 y0 y1 HF
      generalize (s.nums ++ [n]).getD 0 0 = fst at *
      generalize (s.nums ++ [n]).length = len at *
      go_wp2
      go_ret
      exact ⟨rfl, fun s' e => by injection e with e; rw [← e]; exact HL.out, HC.out, HO.out⟩
    · have HF : Hid (countF s x = none) := by show _ = _; unfold countF; rw [hn]; exact if_neg hf
      rw [HF.out]
      go_enter Tryz.func39, Tryz.ntmps39
      go_wp2_with fail
      refine hN.mono ?_
      rintro e w2 ⟨rfl, hl2, c2, o2⟩
      have HO : Hid (Oth b W w2) := o2
      have hL2 := hl2 _ rfl
      obtain ⟨g, cp, y0, y1⟩ := hL2.first (by simp)
      have HL : Hid (LineAt w2 b { s with nums := s.nums ++ [n] }) := hL2
      have HC : Hid (Chg b W.heap.size W w2) := c2
      have hlen : (0 : Int) < ((s.nums ++ [n]).length : Int) := by simp
      have y0' : w2.cell? ⟨b, 8, none⟩ = some (.slice (some ⟨g, 0, none⟩) (s.nums ++ [n]).length cp) := y0
      have y1' : w2.cell? ⟨g, 0, none⟩ = some (.int .i64 ((s.nums ++ [n]).getD 0 0)) := y1
      clear c2 hN hl2 hL2 y0 y1 HF
      generalize (s.nums ++ [n]).getD 0 0 = fst at *
      generalize (s.nums ++ [n]).length = len at *
      go_wp2
      go_ret
      exact ⟨by first | rfl | (show Ending.returned (Value.bool (decide (1 ≤ fst))) = _; rw [decide_eq_false (by omega)]; rfl), fun s' e => by (cases e), HC.out, HO.out⟩

end Go.Proofs.YteaeikmgkmpkiaaGreatDoor
