/- Several short texts in one: TakeA, CallRow, DrawFill. -/
import Derived.Test.YtacfkgfemmgpkaaGreatDoorNumImpl
import Derived.Test.YtacfkgfemmgpkaaGreatDoorDecL
import Derived.Test.YtacfkgfemmgpkaaGreatDoorBytSeen
import Derived.Test.YtacfkgfemmgpkaaGreatDoorNameSpec
import Derived.Deep.DeepCutAuto
namespace Go.Proofs.YtacfkgfemmgpkaaGreatDoor
open Go.RowKit Go.Lib

/-- A line under way: its kind, its call, its numbers. -/
structure Lst where
  kind : Int
  ck : Int
  path : ByteArray
  to' : ByteArray
  han : Int
  off : Int
  siz : Int
  data : ByteArray
  nums : List Int
abbrev cLine (s : Lst) (nv : Value) : Array Value := #[.int .i64 s.kind, .int .i64 s.ck, .string s.path, .string s.to', .int .i64 s.han, .int .i64 s.off, .int .i64 s.siz, .string s.data, nv]
def OwnN (w : World) (base : Nat) (v : Value) (xs : List Int) : Prop := w.ownsRow base 2 1 v xs.length (xs.map (Value.int .i64))
def LineAt (W : World) (b : Nat) (s : Lst) : Prop := ∃ nv, W.heap[b]? = some (.cells (cLine s nv) 35 (0, 0)) ∧ OwnN W (b + 1) nv s.nums
theorem LineAt.lt {W : World} {b : Nat} {s : Lst} (h : LineAt W b s) : b < W.heap.size := by
  obtain ⟨nv, h1, _⟩ := h
  exact (Array.getElem?_eq_some_iff.1 h1).1

theorem OwnN.chg {w w' : World} {base l r : Nat} {v : Value} {xs : List Int} (h : OwnN w base v xs) (c : Chg l r w w') (d : r ≤ base ∨ r ≤ l) : OwnN w' base v xs := by
  have hlt := World.ownsRow.lt h
  obtain ⟨h1, h2⟩ := h
  refine ⟨h1, ?_⟩
  rcases h2 with h2 | ⟨g, cap, cur, hv, hg, hh, rest⟩
  · exact Or.inl h2
  · refine Or.inr ⟨g, cap, cur, hv, hg, ?_, rest⟩
    rw [c.block g (Array.getElem?_eq_some_iff.1 hh).1 (by omega)]; exact hh
theorem LineAt.keep {W W' : World} {b : Nat} {s : Lst} (h : LineAt W b s) (c : Chg 0 0 W W') : LineAt W' b s := by
  have hlt := h.lt
  obtain ⟨nv, h1, h2⟩ := h
  exact ⟨nv, (c.block b hlt (by omega)).trans h1, h2.chg c (by omega)⟩

/-- One cell of the line is put. -/
theorem LineAt.put {W : World} {b : Nat} {s s' : Lst} (h : LineAt W b s) (i : Nat) (v : Value) (hs : ∀ nv, (cLine s nv).setIfInBounds i v = cLine s' nv) (hn : s'.nums = s.nums) :
    (∃ u, W.cell? ⟨b, i, none⟩ = u) ∧ W.frozen? ⟨b, i, none⟩ = false ∧ LineAt (W.setCell ⟨b, i, none⟩ v) b s' ∧ Chg b W.heap.size W (W.setCell ⟨b, i, none⟩ v) := by
  have hlt := h.lt
  obtain ⟨nv, h1, h2⟩ := h
  have c1 : Chg b (b + 1) W (W.setCell ⟨b, i, none⟩ v) := (Chg.refl _ _ W).setCell (p := ⟨b, i, none⟩) (Or.inl ⟨Nat.le_refl _, Nat.lt_succ_self _⟩) _
  refine ⟨⟨_, rfl⟩, Lib.frozen_of_heap h1 i, ⟨nv, ?_, ?_⟩, c1.widen (Or.inl (Nat.le_refl _)) (Or.inl (by omega))⟩
  · rw [setCell_eq_setRow W b i _ 35 (0, 0) v h1, setRow_heap W b _ _ 35 (0, 0) h1, hs nv]
  · rw [hn]
    exact h2.chg c1 (Or.inl (Nat.le_refl _))

theorem chg_into {base : Nat} {a b c : World} (h : Chg 0 0 a b) (k : Chg base b.heap.size b c) : Chg base a.heap.size a c :=
  ⟨k.os.trans h.os, k.tape.trans h.tape, k.output.trans h.output, Nat.le_trans h.size k.size, fun j hj ho => (k.block j (Nat.lt_of_lt_of_le hj h.size) (by have := h.size; omega)).trans (h.block j hj (by omega))⟩

/-- Nothing but the line and rows of numbers is changed. -/
def Oth (b : Nat) (W w' : World) : Prop := ∀ k, k < W.heap.size → k ≠ b → (∀ cs fr, W.heap[k]? ≠ some (.cells cs 2 fr)) → w'.heap[k]? = W.heap[k]?
theorem oth_of {b : Nat} {W w' : World} (c : Chg 0 0 W w') : Oth b W w' := fun k hk _ _ => c.block k hk (by omega)
theorem oth_put {b : Nat} {W w2 : World} (c : Chg 0 0 W w2) (i : Nat) (v : Value) : Oth b W (w2.setCell ⟨b, i, none⟩ v) := fun k hk hne _ => by
  have c1 : Chg b (b + 1) w2 (w2.setCell ⟨b, i, none⟩ v) := (Chg.refl _ _ w2).setCell (p := ⟨b, i, none⟩) (Or.inl ⟨Nat.le_refl _, Nat.lt_succ_self _⟩) _
  rw [c1.block k (Nat.lt_of_lt_of_le hk c.size) (by omega), c.block k hk (by omega)]

/-- What a taker does with a field: none where it refuses it. -/
def TakeOk (f : Nat) (t : Lst → ByteArray → Option Lst) : Prop :=
  ∀ (W : World) (b : Nat) (s : Lst) (x : ByteArray), x.size ≤ 1048576 → s.nums.length ≤ 1048576 → s.data.size ≤ 1048576 → SynE W → RanE W → Pow W → LineAt W b s →
    Calls Tryz.prog f #[.pointer (some ⟨b, 0, none⟩), .string x] W fun e w' => e = .returned (.bool (t s x).isSome) ∧ (∀ s', t s x = some s' → LineAt w' b s') ∧ Chg b W.heap.size W w' ∧ Oth b W w'

set_option maxHeartbeats 1000000 in
theorem takePath_ok : TakeOk 32 (fun s x => some { s with path := x }) := by
  intro W b s x _ _ _ _ _ _ hL
  obtain ⟨_, fz, hL2, c2⟩ := hL.put 2 (.string x) (s' := { s with path := x }) (fun nv => rfl) rfl
  obtain ⟨nv, h1, _⟩ := hL
  have y : W.cell? ⟨b, 2, none⟩ = some (.string s.path) := by rw [Lib.cell_of_heap h1]; rfl
  have HL : Hid (LineAt (W.setCell ⟨b, 2, none⟩ (.string x)) b { s with path := x }) := hL2
  have HC : Hid (Chg b W.heap.size W (W.setCell ⟨b, 2, none⟩ (.string x))) := c2
  have HO : Hid (Oth b W (W.setCell ⟨b, 2, none⟩ (.string x))) := oth_put (Chg.refl 0 0 W) 2 _
  clear hL2 c2 h1
  go_enter Tryz.func32, Tryz.ntmps32
  go_wp2
  go_ret
  exact ⟨rfl, fun s' e => by injection e with e; rw [← e]; exact HL.out, HC.out, HO.out⟩

set_option maxHeartbeats 1000000 in
theorem takeTo_ok : TakeOk 33 (fun s x => some { s with to' := x }) := by
  intro W b s x _ _ _ _ _ _ hL
  obtain ⟨_, fz, hL2, c2⟩ := hL.put 3 (.string x) (s' := { s with to' := x }) (fun nv => rfl) rfl
  obtain ⟨nv, h1, _⟩ := hL
  have y : W.cell? ⟨b, 3, none⟩ = some (.string s.to') := by rw [Lib.cell_of_heap h1]; rfl
  have HL : Hid (LineAt (W.setCell ⟨b, 3, none⟩ (.string x)) b { s with to' := x }) := hL2
  have HC : Hid (Chg b W.heap.size W (W.setCell ⟨b, 3, none⟩ (.string x))) := c2
  have HO : Hid (Oth b W (W.setCell ⟨b, 3, none⟩ (.string x))) := oth_put (Chg.refl 0 0 W) 3 _
  clear hL2 c2 h1
  go_enter Tryz.func33, Tryz.ntmps33
  go_wp2
  go_ret
  exact ⟨rfl, fun s' e => by injection e with e; rw [← e]; exact HL.out, HC.out, HO.out⟩

set_option maxHeartbeats 1000000 in
theorem takeHandle_ok : TakeOk 39 (fun s x => (numF x).map fun n => { s with han := n }) := by
  intro W b s x hx _ _ hS hR hP hL
  have hN := numberOf_calls W x hx hS hR hP
  have HE : Hid (∀ s', ((numF x).map fun n => { s with han := n }) = some s' → s' = { s with han := (numF x).getD 0 }) := fun s' e => by
    cases hn : numF x with
    | none => rw [hn] at e; cases e
    | some n => rw [hn] at e; injection e with e; rw [← e]; rfl
  have e2 : ((numF x).map fun n => { s with han := n }).isSome = (numF x).isSome := by cases numF x <;> rfl
  rw [e2]
  generalize (numF x).getD 0 = n at *
  generalize (numF x).isSome = g at *
  go_enter Tryz.func39, Tryz.ntmps39
  go_wp2_with fail
  refine hN.mono ?_
  rintro e w2 ⟨rfl, c2⟩
  obtain ⟨_, fz, hL3, c3⟩ := (hL.keep c2).put 4 (.int .i64 n) (s' := { s with han := n }) (fun nv => rfl) rfl
  obtain ⟨nv, h1, _⟩ := hL.keep c2
  have y : w2.cell? ⟨b, 4, none⟩ = some (.int .i64 s.han) := by rw [Lib.cell_of_heap h1]; rfl
  have HL : Hid (LineAt (w2.setCell ⟨b, 4, none⟩ (.int .i64 n)) b { s with han := n }) := hL3
  have HC : Hid (Chg b W.heap.size W (w2.setCell ⟨b, 4, none⟩ (.int .i64 n))) := chg_into c2 c3
  have HO : Hid (Oth b W (w2.setCell ⟨b, 4, none⟩ (.int .i64 n))) := oth_put c2 4 _
  clear hL3 c3 h1 c2 hN hL
  go_wp2
  go_ret
  exact ⟨rfl, fun s' e => by rw [HE.out s' e]; exact HL.out, HC.out, HO.out⟩

set_option maxHeartbeats 1000000 in
theorem takeOffset_ok : TakeOk 35 (fun s x => (numF x).map fun n => { s with off := n }) := by
  intro W b s x hx _ _ hS hR hP hL
  have hN := numberOf_calls W x hx hS hR hP
  have HE : Hid (∀ s', ((numF x).map fun n => { s with off := n }) = some s' → s' = { s with off := (numF x).getD 0 }) := fun s' e => by
    cases hn : numF x with
    | none => rw [hn] at e; cases e
    | some n => rw [hn] at e; injection e with e; rw [← e]; rfl
  have e2 : ((numF x).map fun n => { s with off := n }).isSome = (numF x).isSome := by cases numF x <;> rfl
  rw [e2]
  generalize (numF x).getD 0 = n at *
  generalize (numF x).isSome = g at *
  go_enter Tryz.func35, Tryz.ntmps35
  go_wp2_with fail
  refine hN.mono ?_
  rintro e w2 ⟨rfl, c2⟩
  obtain ⟨_, fz, hL3, c3⟩ := (hL.keep c2).put 5 (.int .i64 n) (s' := { s with off := n }) (fun nv => rfl) rfl
  obtain ⟨nv, h1, _⟩ := hL.keep c2
  have y : w2.cell? ⟨b, 5, none⟩ = some (.int .i64 s.off) := by rw [Lib.cell_of_heap h1]; rfl
  have HL : Hid (LineAt (w2.setCell ⟨b, 5, none⟩ (.int .i64 n)) b { s with off := n }) := hL3
  have HC : Hid (Chg b W.heap.size W (w2.setCell ⟨b, 5, none⟩ (.int .i64 n))) := chg_into c2 c3
  have HO : Hid (Oth b W (w2.setCell ⟨b, 5, none⟩ (.int .i64 n))) := oth_put c2 5 _
  clear hL3 c3 h1 c2 hN hL
  go_wp2
  go_ret
  exact ⟨rfl, fun s' e => by rw [HE.out s' e]; exact HL.out, HC.out, HO.out⟩

set_option maxHeartbeats 1000000 in
theorem takeSize_ok : TakeOk 38 (fun s x => (numF x).map fun n => { s with siz := n }) := by
  intro W b s x hx _ _ hS hR hP hL
  have hN := numberOf_calls W x hx hS hR hP
  have HE : Hid (∀ s', ((numF x).map fun n => { s with siz := n }) = some s' → s' = { s with siz := (numF x).getD 0 }) := fun s' e => by
    cases hn : numF x with
    | none => rw [hn] at e; cases e
    | some n => rw [hn] at e; injection e with e; rw [← e]; rfl
  have e2 : ((numF x).map fun n => { s with siz := n }).isSome = (numF x).isSome := by cases numF x <;> rfl
  rw [e2]
  generalize (numF x).getD 0 = n at *
  generalize (numF x).isSome = g at *
  go_enter Tryz.func38, Tryz.ntmps38
  go_wp2_with fail
  refine hN.mono ?_
  rintro e w2 ⟨rfl, c2⟩
  obtain ⟨_, fz, hL3, c3⟩ := (hL.keep c2).put 6 (.int .i64 n) (s' := { s with siz := n }) (fun nv => rfl) rfl
  obtain ⟨nv, h1, _⟩ := hL.keep c2
  have y : w2.cell? ⟨b, 6, none⟩ = some (.int .i64 s.siz) := by rw [Lib.cell_of_heap h1]; rfl
  have HL : Hid (LineAt (w2.setCell ⟨b, 6, none⟩ (.int .i64 n)) b { s with siz := n }) := hL3
  have HC : Hid (Chg b W.heap.size W (w2.setCell ⟨b, 6, none⟩ (.int .i64 n))) := chg_into c2 c3
  have HO : Hid (Oth b W (w2.setCell ⟨b, 6, none⟩ (.int .i64 n))) := oth_put c2 6 _
  clear hL3 c3 h1 c2 hN hL
  go_wp2
  go_ret
  exact ⟨rfl, fun s' e => by rw [HE.out s' e]; exact HL.out, HC.out, HO.out⟩

end Go.Proofs.YtacfkgfemmgpkaaGreatDoor

namespace Go.Proofs.YtacfkgfemmgpkaaGreatDoor
open Go.RowKit

theorem wpList_app_1b {ops : Array Oper} {rest : List Oper} {o : Oper} {a : Act} {W : World} {Q : Exit → Act → World → Prop} {x : Int} (hgd : o.guard = none) (s y : Operand)
    (ho : o.op = .call { callee := .builtin .append, args := #[s, y], argTypes := #[22, 22] }) (base : Nat) (v : Value) (xs : List Int) (hs : a.eval s = v) (hO : OwnB W base 5 v xs) (hb : base ≤ W.heap.size)
    (hy : a.eval y = .slice (some ⟨W.heap.size, 0, none⟩) 1 1) (hl : xs.length ≤ 1000000)
    (h : ∀ g cp w' r, OwnB w' base 5 (.slice (some ⟨g, 0, none⟩) (xs.length + 1) cp) (xs ++ [x]) → Chg base r (W.alloc (.cells #[.int .u8 x] 5)) w' → wpList Tryz.prog ops Q rest (a.put o.dst (.slice (some ⟨g, 0, none⟩) (xs.length + 1) cp)) w') :
    wpList Tryz.prog ops Q (o :: rest) a (W.alloc (.cells #[.int .u8 x] 5)) := by
  have cA : Chg 0 0 W (W.alloc (.cells #[.int .u8 x] 5)) := Chg.alloc (Chg.refl 0 0 W) _
  have VX : View (W.alloc (.cells #[.int .u8 x] 5)) W.heap.size (W.heap.size + 1) .u8 (.slice (some ⟨W.heap.size, 0, none⟩) 1 1) [x] := by
    have h := row_view (w := W.alloc (.cells #[.int .u8 x] 5)) (b := W.heap.size) (xs := [x]) (t := 5) (heap_new W _) 0 1 1 (by simp) (by simp) (Nat.le_refl _)
    exact h
  refine wpList_app_seen hgd s y ho base v xs hs (hO.chg cA (fun g' _ => by omega)) (by simp; omega) _ _ _ [x] hy VX (by simp) (by simp; omega) ?_
  intro v' w5 ho5 hc5
  obtain ⟨g', cap', rfl⟩ := OwnB.some_of ho5 (by simp)
  rw [List.length_append] at ho5 ⊢
  exact h g' cap' w5 _ ho5 hc5

/-- The cells of a call. -/
abbrev cK (s : Lst) : List Value := [.int .i64 s.ck, .string s.path, .string s.to', .int .i64 s.han, .int .i64 s.off, .int .i64 s.siz, .string s.data]
def cellsC (cs : List Lst) : List Value := cs.flatMap cK
def OwnC (w : World) (base : Nat) (v : Value) (cs : List Lst) : Prop := w.ownsRow base 29 7 v cs.length (cellsC cs)
theorem cellsC_app (a b : List Lst) : cellsC (a ++ b) = cellsC a ++ cellsC b := by unfold cellsC; rw [List.flatMap_append]
theorem cellsC_len (qs : List Lst) : (cellsC qs).length = qs.length * 7 := by
  induction qs with
  | nil => rfl
  | cons q r ih =>
    show (cK q ++ cellsC r).length = _
    rw [List.length_append, ih, List.length_cons]
    simp
    omega
theorem OwnC.lt {w : World} {base : Nat} {v : Value} {cs : List Lst} (h : OwnC w base v cs) : ∀ g, v.ownBlock = some g → base ≤ g ∧ g < w.heap.size := World.ownsRow.lt h
theorem OwnC.chg {w w' : World} {base l r : Nat} {v : Value} {cs : List Lst} (h : OwnC w base v cs) (c : Chg l r w w') (d : r ≤ base ∨ r ≤ l) : OwnC w' base v cs := by
  obtain ⟨h1, h2⟩ := h
  refine ⟨h1, ?_⟩
  rcases h2 with h2 | ⟨g, cap, cur, hv, hg, hh, rr⟩
  · exact Or.inl h2
  · exact Or.inr ⟨g, cap, cur, hv, hg, (c.block g (Array.getElem?_eq_some_iff.1 hh).1 (by omega)).trans hh, rr⟩
theorem OwnC.low {w : World} {base base' : Nat} {v : Value} {cs : List Lst} (h : OwnC w base v cs) (hb : base' ≤ base) : OwnC w base' v cs := by
  obtain ⟨h1, h2⟩ := h
  refine ⟨h1, ?_⟩
  rcases h2 with h2 | ⟨g, cap, cur, hv, hg, rr⟩
  · exact Or.inl h2
  · exact Or.inr ⟨g, cap, cur, hv, by omega, rr⟩
theorem OwnC.nil (w : World) : OwnC (w.alloc (.cells #[] 29)) w.heap.size (.slice (some ⟨w.heap.size, 0, none⟩) 0 0) [] := by
  have := World.ownsRow_lit (base := w.heap.size) (e := 29) (size := 7) w #[] 0 (Nat.le_refl _) (by unfold maxLen; omega) (by simp)
  simpa [OwnC, cellsC] using this
theorem Tryz.infoC : (Tryz.prog.info? 29).map (fun i => (i.zero, i.size, i.bytes)) = some (some (.agg #[.int .i64 0, .string ⟨#[]⟩, .string ⟨#[]⟩, .int .i64 0, .int .i64 0, .int .i64 0, .string ⟨#[]⟩]), 7, 80) := by kernel_rfl

/-- append of calls that a literal lays. -/
theorem wpList_app_cs {ops : Array Oper} {rest : List Oper} {o : Oper} {a : Act} {w : World} {Q : Exit → Act → World → Prop} (hgd : o.guard = none) (s x : Operand)
    (ho : o.op = .call { callee := .builtin .append, args := #[s, x], argTypes := #[25, 25] }) (base : Nat) (v : Value) (cs : List Lst) (hs : a.eval s = v) (hown : OwnC w base v cs) (hbase : base ≤ w.heap.size)
    (b c : Nat) (qs : List Lst) (hx : a.eval x = .slice (some ⟨b, 0, none⟩) qs.length c) (hc : ∀ j u, (cellsC qs)[j]? = some u → w.cell? ⟨b, j, none⟩ = some u) (hq : 0 < qs.length) (hk : cs.length + qs.length ≤ 100000)
    (h : ∀ g cp w' r, OwnC w' base (.slice (some ⟨g, 0, none⟩) (cs ++ qs).length cp) (cs ++ qs) → Chg base r w w' → wpList Tryz.prog ops Q rest (a.put o.dst (.slice (some ⟨g, 0, none⟩) (cs ++ qs).length cp)) w') : wpList Tryz.prog ops Q (o :: rest) a w := by
  obtain ⟨i, hi, hz0, hz1, hz2⟩ := info_parts Tryz.infoC
  refine wpList_append_own w hgd s x 25 ho base 29 i _ 7 80 Tryz.underlying25 hi hz0 hz1 hz2 rfl (by omega) v cs.length _ hs hown ⟨b, 0, none⟩ qs.length c (cellsC qs) hx ?_ ?_ ?_ (by unfold maxLen; omega) (by omega) hbase ?_
  · exact cellsC_len qs
  · intro j u hj
    rw [Go.WideShapes.add_plain, Nat.zero_add]
    exact hc j u hj
  · intro u hu
    unfold cellsC at hu
    rw [List.mem_flatMap] at hu
    obtain ⟨q, _, hq⟩ := hu
    simp at hq
    rcases hq with rfl | rfl | rfl | rfl | rfl | rfl | rfl <;> rfl
  · intro v' w' h1 h2 _
    obtain ⟨g', cap', e'⟩ : ∃ g cp, v' = .slice (some ⟨g, 0, none⟩) (cs ++ qs).length cp := by
      rcases h1.2 with ⟨_, h0⟩ | ⟨g', cap', cur, e', _⟩
      · omega
      · exact ⟨g', cap', by rw [e', List.length_append]⟩
    subst e'
    exact h g' cap' w' _ (by unfold OwnC; rw [List.length_append, cellsC_app]; rw [List.length_append] at h1; exact h1) (Chg.ofGrown h2 (fun g hg hlt => ⟨(World.ownsRow.lt hown g hg).1, hlt⟩))

/-- append of 1 call(s). -/
theorem wpList_app_c1 {ops : Array Oper} {rest : List Oper} {o : Oper} {a : Act} {W : World} {Q : Exit → Act → World → Prop} {k0 h0 o0 z0 : Int} {p0 t0 d0 : ByteArray} (hgd : o.guard = none) (s x : Operand)
    (ho : o.op = .call { callee := .builtin .append, args := #[s, x], argTypes := #[25, 25] }) (base : Nat) (v : Value) (cs : List Lst) (hs : a.eval s = v) (hown : OwnC W base v cs) (hbase : base ≤ W.heap.size)
    (hx : a.eval x = .slice (some ⟨W.heap.size, 0, none⟩) 1 1) (hk : cs.length ≤ 90000)
    (h : ∀ g cp w' r, OwnC w' base (.slice (some ⟨g, 0, none⟩) (cs.length + 1) cp) (cs ++ [⟨0, k0, p0, t0, h0, o0, z0, d0, []⟩]) → Chg base r (W.alloc (.cells #[.int .i64 k0, .string p0, .string t0, .int .i64 h0, .int .i64 o0, .int .i64 z0, .string d0] 29)) w' → wpList Tryz.prog ops Q rest (a.put o.dst (.slice (some ⟨g, 0, none⟩) (cs.length + 1) cp)) w') :
    wpList Tryz.prog ops Q (o :: rest) a (W.alloc (.cells #[.int .i64 k0, .string p0, .string t0, .int .i64 h0, .int .i64 o0, .int .i64 z0, .string d0] 29)) := by
  refine wpList_app_cs hgd s x ho base v cs hs (hown.chg (Chg.alloc (Chg.refl 0 0 W) _) (by omega)) (by simp; omega) W.heap.size 1 [⟨0, k0, p0, t0, h0, o0, z0, d0, []⟩] hx ?_ (by simp) (by simp; omega) ?_
  · intro j u hj
    rw [Lib.cell_of_heap (heap_new W _)]
    simpa [cellsC] using hj
  · intro g cp w' r h1 h2
    rw [List.length_append] at h1 ⊢
    exact h g cp w' r h1 h2

/-- append of 2 call(s). -/
theorem wpList_app_c2 {ops : Array Oper} {rest : List Oper} {o : Oper} {a : Act} {W : World} {Q : Exit → Act → World → Prop} {k0 h0 o0 z0 : Int} {p0 t0 d0 : ByteArray} {k1 h1 o1 z1 : Int} {p1 t1 d1 : ByteArray} (hgd : o.guard = none) (s x : Operand)
    (ho : o.op = .call { callee := .builtin .append, args := #[s, x], argTypes := #[25, 25] }) (base : Nat) (v : Value) (cs : List Lst) (hs : a.eval s = v) (hown : OwnC W base v cs) (hbase : base ≤ W.heap.size)
    (hx : a.eval x = .slice (some ⟨W.heap.size, 0, none⟩) 2 2) (hk : cs.length ≤ 90000)
    (h : ∀ g cp w' r, OwnC w' base (.slice (some ⟨g, 0, none⟩) (cs.length + 2) cp) (cs ++ [⟨0, k0, p0, t0, h0, o0, z0, d0, []⟩, ⟨0, k1, p1, t1, h1, o1, z1, d1, []⟩]) → Chg base r (W.alloc (.cells #[.int .i64 k0, .string p0, .string t0, .int .i64 h0, .int .i64 o0, .int .i64 z0, .string d0, .int .i64 k1, .string p1, .string t1, .int .i64 h1, .int .i64 o1, .int .i64 z1, .string d1] 29)) w' → wpList Tryz.prog ops Q rest (a.put o.dst (.slice (some ⟨g, 0, none⟩) (cs.length + 2) cp)) w') :
    wpList Tryz.prog ops Q (o :: rest) a (W.alloc (.cells #[.int .i64 k0, .string p0, .string t0, .int .i64 h0, .int .i64 o0, .int .i64 z0, .string d0, .int .i64 k1, .string p1, .string t1, .int .i64 h1, .int .i64 o1, .int .i64 z1, .string d1] 29)) := by
  refine wpList_app_cs hgd s x ho base v cs hs (hown.chg (Chg.alloc (Chg.refl 0 0 W) _) (by omega)) (by simp; omega) W.heap.size 2 [⟨0, k0, p0, t0, h0, o0, z0, d0, []⟩, ⟨0, k1, p1, t1, h1, o1, z1, d1, []⟩] hx ?_ (by simp) (by simp; omega) ?_
  · intro j u hj
    rw [Lib.cell_of_heap (heap_new W _)]
    simpa [cellsC] using hj
  · intro g cp w' r h1 h2
    rw [List.length_append] at h1 ⊢
    exact h g cp w' r h1 h2

/-- append of 3 call(s). -/
theorem wpList_app_c3 {ops : Array Oper} {rest : List Oper} {o : Oper} {a : Act} {W : World} {Q : Exit → Act → World → Prop} {k0 h0 o0 z0 : Int} {p0 t0 d0 : ByteArray} {k1 h1 o1 z1 : Int} {p1 t1 d1 : ByteArray} {k2 h2 o2 z2 : Int} {p2 t2 d2 : ByteArray} (hgd : o.guard = none) (s x : Operand)
    (ho : o.op = .call { callee := .builtin .append, args := #[s, x], argTypes := #[25, 25] }) (base : Nat) (v : Value) (cs : List Lst) (hs : a.eval s = v) (hown : OwnC W base v cs) (hbase : base ≤ W.heap.size)
    (hx : a.eval x = .slice (some ⟨W.heap.size, 0, none⟩) 3 3) (hk : cs.length ≤ 90000)
    (h : ∀ g cp w' r, OwnC w' base (.slice (some ⟨g, 0, none⟩) (cs.length + 3) cp) (cs ++ [⟨0, k0, p0, t0, h0, o0, z0, d0, []⟩, ⟨0, k1, p1, t1, h1, o1, z1, d1, []⟩, ⟨0, k2, p2, t2, h2, o2, z2, d2, []⟩]) → Chg base r (W.alloc (.cells #[.int .i64 k0, .string p0, .string t0, .int .i64 h0, .int .i64 o0, .int .i64 z0, .string d0, .int .i64 k1, .string p1, .string t1, .int .i64 h1, .int .i64 o1, .int .i64 z1, .string d1, .int .i64 k2, .string p2, .string t2, .int .i64 h2, .int .i64 o2, .int .i64 z2, .string d2] 29)) w' → wpList Tryz.prog ops Q rest (a.put o.dst (.slice (some ⟨g, 0, none⟩) (cs.length + 3) cp)) w') :
    wpList Tryz.prog ops Q (o :: rest) a (W.alloc (.cells #[.int .i64 k0, .string p0, .string t0, .int .i64 h0, .int .i64 o0, .int .i64 z0, .string d0, .int .i64 k1, .string p1, .string t1, .int .i64 h1, .int .i64 o1, .int .i64 z1, .string d1, .int .i64 k2, .string p2, .string t2, .int .i64 h2, .int .i64 o2, .int .i64 z2, .string d2] 29)) := by
  refine wpList_app_cs hgd s x ho base v cs hs (hown.chg (Chg.alloc (Chg.refl 0 0 W) _) (by omega)) (by simp; omega) W.heap.size 3 [⟨0, k0, p0, t0, h0, o0, z0, d0, []⟩, ⟨0, k1, p1, t1, h1, o1, z1, d1, []⟩, ⟨0, k2, p2, t2, h2, o2, z2, d2, []⟩] hx ?_ (by simp) (by simp; omega) ?_
  · intro j u hj
    rw [Lib.cell_of_heap (heap_new W _)]
    simpa [cellsC] using hj
  · intro g cp w' r h1 h2
    rw [List.length_append] at h1 ⊢
    exact h g cp w' r h1 h2

end Go.Proofs.YtacfkgfemmgpkaaGreatDoor

namespace Go.Proofs.YtacfkgfemmgpkaaGreatDoor
open Go.RowKit

theorem Tryz.infoU5 : (Tryz.prog.info? 5).map (fun i => (i.zero, i.size, i.bytes)) = some (some (.int .u8 0), 1, 1) := by kernel_rfl

/-- Four bytes that are written down. -/
theorem own4 (w : World) (a b c d : Int) : OwnB (w.alloc (.cells #[.int .u8 a, .int .u8 b, .int .u8 c, .int .u8 d] 5)) w.heap.size 5 (.slice (some ⟨w.heap.size, 0, none⟩) 4 4) [a, b, c, d] := by
  have := World.ownsRow_lit (base := w.heap.size) (e := 5) (size := 1) w #[.int .u8 a, .int .u8 b, .int .u8 c, .int .u8 d] 4 (Nat.le_refl _) (by unfold maxLen; omega) rfl
  simpa [OwnB] using this

/-- A byte is put in its place. -/
theorem OwnB.store {w : World} {base g n cap : Nat} {e : TypeId} {xs : List Int} (h : OwnB w base e (.slice (some ⟨g, 0, none⟩) n cap) xs) (hn : xs.length = n) (i : Nat) (hi : i < n) (x : Int) :
    (∃ u, w.cell? ⟨g, i, none⟩ = some u) ∧ w.frozen? ⟨g, i, none⟩ = false ∧ OwnB (w.setCell ⟨g, i, none⟩ (.int .u8 x)) base e (.slice (some ⟨g, 0, none⟩) n cap) (xs.set i x) := by
  subst hn
  unfold OwnB at h
  refine ⟨?_, World.ownsRow.frozenAt h i, ?_⟩
  · rw [World.ownsRow.cellAt h i (by omega)]
    exact ⟨_, List.getElem?_eq_getElem (by simpa using hi)⟩
  · have := (World.ownsRow.stored h i (.int .u8 x)).1
    unfold OwnB
    rw [List.length_set, List.map_set]
    exact this

theorem Byt.set {xs : List Int} (h : Byt xs) (i : Nat) {x : Int} (hx : 0 ≤ x ∧ x < 256) : Byt (xs.set i x) := by
  intro y hy
  rcases List.mem_or_eq_of_mem_set hy with h' | rfl
  · exact h y h'
  · exact hx

theorem Byt.replicate (k : Nat) {x : Int} (hx : 0 ≤ x ∧ x < 256) : Byt (List.replicate k x) := by
  intro y hy
  obtain ⟨_, rfl⟩ := List.mem_replicate.1 hy
  exact hx

end Go.Proofs.YtacfkgfemmgpkaaGreatDoor
