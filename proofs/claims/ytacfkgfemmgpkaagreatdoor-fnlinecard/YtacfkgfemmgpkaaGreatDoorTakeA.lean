/- What takes a field of a line: those that put a text or a number. -/
import Derived.Test.YtacfkgfemmgpkaaGreatDoorNumImpl
namespace Go.Proofs.YtacfkgfemmgpkaaGreatDoor
open Go.RowKit Go.Lib

/-- A line under way: its kind, its call, its numbers. -/
structure Lst where
  kind : Int
  ck : Int
  path : ByteArray
  to' : ByteArray
  han : Int
  off : Int
  siz : Int
  data : ByteArray
  nums : List Int
abbrev cLine (s : Lst) (nv : Value) : Array Value := #[.int .i64 s.kind, .int .i64 s.ck, .string s.path, .string s.to', .int .i64 s.han, .int .i64 s.off, .int .i64 s.siz, .string s.data, nv]
def OwnN (w : World) (base : Nat) (v : Value) (xs : List Int) : Prop := w.ownsRow base 2 1 v xs.length (xs.map (Value.int .i64))
def LineAt (W : World) (b : Nat) (s : Lst) : Prop := ∃ nv, W.heap[b]? = some (.cells (cLine s nv) 35 (0, 0)) ∧ OwnN W (b + 1) nv s.nums
theorem LineAt.lt {W : World} {b : Nat} {s : Lst} (h : LineAt W b s) : b < W.heap.size := by
  obtain ⟨nv, h1, _⟩ := h
  exact (Array.getElem?_eq_some_iff.1 h1).1

theorem OwnN.chg {w w' : World} {base l r : Nat} {v : Value} {xs : List Int} (h : OwnN w base v xs) (c : Chg l r w w') (d : r ≤ base ∨ r ≤ l) : OwnN w' base v xs := by
  have hlt := World.ownsRow.lt h
  obtain ⟨h1, h2⟩ := h
  refine ⟨h1, ?_⟩
  rcases h2 with h2 | ⟨g, cap, cur, hv, hg, hh, rest⟩
  · exact Or.inl h2
  · refine Or.inr ⟨g, cap, cur, hv, hg, ?_, rest⟩
    rw [c.block g (Array.getElem?_eq_some_iff.1 hh).1 (by omega)]; exact hh
theorem LineAt.keep {W W' : World} {b : Nat} {s : Lst} (h : LineAt W b s) (c : Chg 0 0 W W') : LineAt W' b s := by
  have hlt := h.lt
  obtain ⟨nv, h1, h2⟩ := h
  exact ⟨nv, (c.block b hlt (by omega)).trans h1, h2.chg c (by omega)⟩

/-- One cell of the line is put. -/
theorem LineAt.put {W : World} {b : Nat} {s s' : Lst} (h : LineAt W b s) (i : Nat) (v : Value) (hs : ∀ nv, (cLine s nv).setIfInBounds i v = cLine s' nv) (hn : s'.nums = s.nums) :
    (∃ u, W.cell? ⟨b, i, none⟩ = u) ∧ W.frozen? ⟨b, i, none⟩ = false ∧ LineAt (W.setCell ⟨b, i, none⟩ v) b s' ∧ Chg b W.heap.size W (W.setCell ⟨b, i, none⟩ v) := by
  have hlt := h.lt
  obtain ⟨nv, h1, h2⟩ := h
  have c1 : Chg b (b + 1) W (W.setCell ⟨b, i, none⟩ v) := (Chg.refl _ _ W).setCell (p := ⟨b, i, none⟩) (Or.inl ⟨Nat.le_refl _, Nat.lt_succ_self _⟩) _
  refine ⟨⟨_, rfl⟩, Lib.frozen_of_heap h1 i, ⟨nv, ?_, ?_⟩, c1.widen (Or.inl (Nat.le_refl _)) (Or.inl (by omega))⟩
  · rw [setCell_eq_setRow W b i _ 35 (0, 0) v h1, setRow_heap W b _ _ 35 (0, 0) h1, hs nv]
  · rw [hn]
    exact h2.chg c1 (Or.inl (Nat.le_refl _))

theorem chg_into {base : Nat} {a b c : World} (h : Chg 0 0 a b) (k : Chg base b.heap.size b c) : Chg base a.heap.size a c :=
  ⟨k.os.trans h.os, k.tape.trans h.tape, k.output.trans h.output, Nat.le_trans h.size k.size, fun j hj ho => (k.block j (Nat.lt_of_lt_of_le hj h.size) (by have := h.size; omega)).trans (h.block j hj (by omega))⟩

/-- Nothing but the line and rows of numbers is changed. -/
def Oth (b : Nat) (W w' : World) : Prop := ∀ k, k < W.heap.size → k ≠ b → (∀ cs fr, W.heap[k]? ≠ some (.cells cs 2 fr)) → w'.heap[k]? = W.heap[k]?
theorem oth_of {b : Nat} {W w' : World} (c : Chg 0 0 W w') : Oth b W w' := fun k hk _ _ => c.block k hk (by omega)
theorem oth_put {b : Nat} {W w2 : World} (c : Chg 0 0 W w2) (i : Nat) (v : Value) : Oth b W (w2.setCell ⟨b, i, none⟩ v) := fun k hk hne _ => by
  have c1 : Chg b (b + 1) w2 (w2.setCell ⟨b, i, none⟩ v) := (Chg.refl _ _ w2).setCell (p := ⟨b, i, none⟩) (Or.inl ⟨Nat.le_refl _, Nat.lt_succ_self _⟩) _
  rw [c1.block k (Nat.lt_of_lt_of_le hk c.size) (by omega), c.block k hk (by omega)]

/-- What a taker does with a field: none where it refuses it. -/
def TakeOk (f : Nat) (t : Lst → ByteArray → Option Lst) : Prop :=
  ∀ (W : World) (b : Nat) (s : Lst) (x : ByteArray), x.size ≤ 1048576 → s.nums.length ≤ 1048576 → s.data.size ≤ 1048576 → SynE W → RanE W → Pow W → LineAt W b s →
    Calls Tryz.prog f #[.pointer (some ⟨b, 0, none⟩), .string x] W fun e w' => e = .returned (.bool (t s x).isSome) ∧ (∀ s', t s x = some s' → LineAt w' b s') ∧ Chg b W.heap.size W w' ∧ Oth b W w'

set_option maxHeartbeats 1000000 in
theorem takePath_ok : TakeOk 32 (fun s x => some { s with path := x }) := by
  intro W b s x _ _ _ _ _ _ hL
  obtain ⟨_, fz, hL2, c2⟩ := hL.put 2 (.string x) (s' := { s with path := x }) (fun nv => rfl) rfl
  obtain ⟨nv, h1, _⟩ := hL
  have y : W.cell? ⟨b, 2, none⟩ = some (.string s.path) := by rw [Lib.cell_of_heap h1]; rfl
  have HL : Hid (LineAt (W.setCell ⟨b, 2, none⟩ (.string x)) b { s with path := x }) := hL2
  have HC : Hid (Chg b W.heap.size W (W.setCell ⟨b, 2, none⟩ (.string x))) := c2
  have HO : Hid (Oth b W (W.setCell ⟨b, 2, none⟩ (.string x))) := oth_put (Chg.refl 0 0 W) 2 _
  clear hL2 c2 h1
  go_enter Tryz.func32, Tryz.ntmps32
  go_wp2
  go_ret
  exact ⟨rfl, fun s' e => by injection e with e; rw [← e]; exact HL.out, HC.out, HO.out⟩

set_option maxHeartbeats 1000000 in
theorem takeTo_ok : TakeOk 33 (fun s x => some { s with to' := x }) := by
  intro W b s x _ _ _ _ _ _ hL
  obtain ⟨_, fz, hL2, c2⟩ := hL.put 3 (.string x) (s' := { s with to' := x }) (fun nv => rfl) rfl
  obtain ⟨nv, h1, _⟩ := hL
  have y : W.cell? ⟨b, 3, none⟩ = some (.string s.to') := by rw [Lib.cell_of_heap h1]; rfl
  have HL : Hid (LineAt (W.setCell ⟨b, 3, none⟩ (.string x)) b { s with to' := x }) := hL2
  have HC : Hid (Chg b W.heap.size W (W.setCell ⟨b, 3, none⟩ (.string x))) := c2
  have HO : Hid (Oth b W (W.setCell ⟨b, 3, none⟩ (.string x))) := oth_put (Chg.refl 0 0 W) 3 _
  clear hL2 c2 h1
  go_enter Tryz.func33, Tryz.ntmps33
  go_wp2
  go_ret
  exact ⟨rfl, fun s' e => by injection e with e; rw [← e]; exact HL.out, HC.out, HO.out⟩

set_option maxHeartbeats 1000000 in
theorem takeHandle_ok : TakeOk 39 (fun s x => (numF x).map fun n => { s with han := n }) := by
  intro W b s x hx _ _ hS hR hP hL
  have hN := numberOf_calls W x hx hS hR hP
  have HE : Hid (∀ s', ((numF x).map fun n => { s with han := n }) = some s' → s' = { s with han := (numF x).getD 0 }) := fun s' e => by
    cases hn : numF x with
    | none => rw [hn] at e; cases e
    | some n => rw [hn] at e; injection e with e; rw [← e]; rfl
  have e2 : ((numF x).map fun n => { s with han := n }).isSome = (numF x).isSome := by cases numF x <;> rfl
  rw [e2]
  generalize (numF x).getD 0 = n at *
  generalize (numF x).isSome = g at *
  go_enter Tryz.func39, Tryz.ntmps39
  go_wp2_with fail
  refine hN.mono ?_
  rintro e w2 ⟨rfl, c2⟩
  obtain ⟨_, fz, hL3, c3⟩ := (hL.keep c2).put 4 (.int .i64 n) (s' := { s with han := n }) (fun nv => rfl) rfl
  obtain ⟨nv, h1, _⟩ := hL.keep c2
  have y : w2.cell? ⟨b, 4, none⟩ = some (.int .i64 s.han) := by rw [Lib.cell_of_heap h1]; rfl
  have HL : Hid (LineAt (w2.setCell ⟨b, 4, none⟩ (.int .i64 n)) b { s with han := n }) := hL3
  have HC : Hid (Chg b W.heap.size W (w2.setCell ⟨b, 4, none⟩ (.int .i64 n))) := chg_into c2 c3
  have HO : Hid (Oth b W (w2.setCell ⟨b, 4, none⟩ (.int .i64 n))) := oth_put c2 4 _
  clear hL3 c3 h1 c2 hN hL
  go_wp2
  go_ret
  exact ⟨rfl, fun s' e => by rw [HE.out s' e]; exact HL.out, HC.out, HO.out⟩

set_option maxHeartbeats 1000000 in
theorem takeOffset_ok : TakeOk 35 (fun s x => (numF x).map fun n => { s with off := n }) := by
  intro W b s x hx _ _ hS hR hP hL
  have hN := numberOf_calls W x hx hS hR hP
  have HE : Hid (∀ s', ((numF x).map fun n => { s with off := n }) = some s' → s' = { s with off := (numF x).getD 0 }) := fun s' e => by
    cases hn : numF x with
    | none => rw [hn] at e; cases e
    | some n => rw [hn] at e; injection e with e; rw [← e]; rfl
  have e2 : ((numF x).map fun n => { s with off := n }).isSome = (numF x).isSome := by cases numF x <;> rfl
  rw [e2]
  generalize (numF x).getD 0 = n at *
  generalize (numF x).isSome = g at *
  go_enter Tryz.func35, Tryz.ntmps35
  go_wp2_with fail
  refine hN.mono ?_
  rintro e w2 ⟨rfl, c2⟩
  obtain ⟨_, fz, hL3, c3⟩ := (hL.keep c2).put 5 (.int .i64 n) (s' := { s with off := n }) (fun nv => rfl) rfl
  obtain ⟨nv, h1, _⟩ := hL.keep c2
  have y : w2.cell? ⟨b, 5, none⟩ = some (.int .i64 s.off) := by rw [Lib.cell_of_heap h1]; rfl
  have HL : Hid (LineAt (w2.setCell ⟨b, 5, none⟩ (.int .i64 n)) b { s with off := n }) := hL3
  have HC : Hid (Chg b W.heap.size W (w2.setCell ⟨b, 5, none⟩ (.int .i64 n))) := chg_into c2 c3
  have HO : Hid (Oth b W (w2.setCell ⟨b, 5, none⟩ (.int .i64 n))) := oth_put c2 5 _
  clear hL3 c3 h1 c2 hN hL
  go_wp2
  go_ret
  exact ⟨rfl, fun s' e => by rw [HE.out s' e]; exact HL.out, HC.out, HO.out⟩

set_option maxHeartbeats 1000000 in
theorem takeSize_ok : TakeOk 38 (fun s x => (numF x).map fun n => { s with siz := n }) := by
  intro W b s x hx _ _ hS hR hP hL
  have hN := numberOf_calls W x hx hS hR hP
  have HE : Hid (∀ s', ((numF x).map fun n => { s with siz := n }) = some s' → s' = { s with siz := (numF x).getD 0 }) := fun s' e => by
    cases hn : numF x with
    | none => rw [hn] at e; cases e
    | some n => rw [hn] at e; injection e with e; rw [← e]; rfl
  have e2 : ((numF x).map fun n => { s with siz := n }).isSome = (numF x).isSome := by cases numF x <;> rfl
  rw [e2]
  generalize (numF x).getD 0 = n at *
  generalize (numF x).isSome = g at *
  go_enter Tryz.func38, Tryz.ntmps38
  go_wp2_with fail
  refine hN.mono ?_
  rintro e w2 ⟨rfl, c2⟩
  obtain ⟨_, fz, hL3, c3⟩ := (hL.keep c2).put 6 (.int .i64 n) (s' := { s with siz := n }) (fun nv => rfl) rfl
  obtain ⟨nv, h1, _⟩ := hL.keep c2
  have y : w2.cell? ⟨b, 6, none⟩ = some (.int .i64 s.siz) := by rw [Lib.cell_of_heap h1]; rfl
  have HL : Hid (LineAt (w2.setCell ⟨b, 6, none⟩ (.int .i64 n)) b { s with siz := n }) := hL3
  have HC : Hid (Chg b W.heap.size W (w2.setCell ⟨b, 6, none⟩ (.int .i64 n))) := chg_into c2 c3
  have HO : Hid (Oth b W (w2.setCell ⟨b, 6, none⟩ (.int .i64 n))) := oth_put c2 6 _
  clear hL3 c3 h1 c2 hN hL
  go_wp2
  go_ret
  exact ⟨rfl, fun s' e => by rw [HE.out s' e]; exact HL.out, HC.out, HO.out⟩

end Go.Proofs.YtacfkgfemmgpkaaGreatDoor
