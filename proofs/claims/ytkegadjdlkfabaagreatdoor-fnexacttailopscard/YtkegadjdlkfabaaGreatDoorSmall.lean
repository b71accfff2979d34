/- Several short texts in one: GetI, Weak, Head, Held, OpenBlk, Small. -/
import Derived.Test.YtkegadjdlkfabaaGreatDoorRows
import Derived.Test.YtkegadjdlkfabaaGreatDoorSpecHead
import Derived.Laws.BitsAllLaws
import Derived.OrdersHeld
import Derived.Deep.RegionHeld3
import Derived.StillTail
import Derived.Test.YtkegadjdlkfabaaGreatDoorAs
import Derived.Test.YtkegadjdlkfabaaGreatDoorCells2
import Derived.Deep.RegionWith
import Derived.Deep.DeepCutAuto
import Derived.Test.YtkegadjdlkfabaaGreatDoorMem
namespace Go.Proofs.YtkegadjdlkfabaaGreatDoor
open Go.RowKit

/-- The number of which these are the bytes. -/
def num (xs : List Int) : Int := xs.foldl (fun v x => v * 256 + x) 0

theorem num_take_succ (xs : List Int) (k : Nat) (h : k < xs.length) : num (xs.take (k + 1)) = num (xs.take k) * 256 + xs.getD k 0 := by
  unfold num
  rw [List.take_succ_eq_append_getElem h, List.foldl_append]
  simp [List.getD_eq_getElem?_getD, h]

/-- A number of k bytes, the first of which is at most m, lies below (m + 1) * 256 ^ (k - 1). -/
theorem num_bound {xs : List Int} (h : Byt xs) (m : Nat) (hm : xs.getD 0 0 ≤ m) : ∀ k, k < xs.length → 0 ≤ num (xs.take (k + 1)) ∧ num (xs.take (k + 1)) < (m + 1) * 256 ^ k := by
  intro k
  induction k with
  | zero =>
    intro hk
    rw [num_take_succ xs 0 hk]
    have := h.getD 0
    simp only [List.take_zero, num, List.foldl_nil, Int.pow_zero]; omega
  | succ k ih =>
    intro hk
    have h1 := ih (by omega)
    rw [num_take_succ xs (k + 1) hk]
    have := h.getD (k + 1)
    have e : ((m : Int) + 1) * 256 ^ (k + 1) = ((m + 1) * 256 ^ k) * 256 := by rw [Int.pow_succ, Int.mul_assoc]
    rw [e]
    omega

theorem pw_le {k n : Nat} (h : k ≤ n) : (256 : Int) ^ k ≤ 256 ^ n := by
  induction n with
  | zero => rw [Nat.le_zero.1 h]; exact Int.le_refl _
  | succ n ih =>
    rcases Nat.lt_or_ge k (n + 1) with h' | h'
    · have h1 := ih (by omega)
      have h2 : (0 : Int) ≤ 256 ^ n := Int.le_of_lt (Int.pow_pos (by decide))
      rw [Int.pow_succ]; omega
    · rw [Nat.le_antisymm h h']; exact Int.le_refl _

theorem num_lt {xs : List Int} (h : Byt xs) (hl : xs.length ≤ 8) (h8 : xs.length = 8 → xs.getD 0 0 ≤ 127) (k : Nat) (hk : k ≤ xs.length) : 0 ≤ num (xs.take k) ∧ num (xs.take k) < 9223372036854775808 ∧ (k < xs.length → num (xs.take k) < 36028797018963968) := by
  cases k with
  | zero => simp [num]
  | succ k =>
    by_cases h' : xs.length = 8
    · have h1 := num_bound h 127 (h8 h') k (by omega)
      have hp : (256 : Int) ^ k ≤ 72057594037927936 := pw_le (n := 7) (by omega)
      refine ⟨h1.1, by omega, fun h2 => ?_⟩
      have hp : (256 : Int) ^ k ≤ 281474976710656 := pw_le (n := 6) (by omega)
      omega
    · have h1 := num_bound h 255 (by have := h.getD 0; omega) k (by omega)
      have hp : (256 : Int) ^ k ≤ 281474976710656 := pw_le (n := 6) (by omega)
      refine ⟨h1.1, by omega, fun h2 => ?_⟩
      have hp : (256 : Int) ^ k ≤ 1099511627776 := pw_le (n := 5) (by omega)
      omega

theorem or_low (u x : Int) (h1 : 0 ≤ u) (h2 : u < 36028797018963968) (h3 : 0 ≤ x) (h4 : x < 256) : bits .or .u64 (u * 256) x = u * 256 + x := by
  rw [u64_or _ _ (by omega) (by omega) h3 (by omega), nat_join 8 _ _ (by omega) (by omega)]
  omega

/-- What GetNumber answers. -/
def getN (xs : List Int) : Int := if xs.length = 0 ∨ 8 < xs.length ∨ (xs.length = 8 ∧ 127 < xs.getD 0 0) then -1 else num xs

end Go.Proofs.YtkegadjdlkfabaaGreatDoor

namespace Go.Proofs.YtkegadjdlkfabaaGreatDoor
section
variable {P : Program} {md : Region.Mode} {ops : Array Oper} {Q : Exit → Act → World → Prop} {S : World → Prop} {z : Nat}

/-- Whatever may come up comes up; behind it S holds, unless it is number z. -/
def wpAnyW (P : Program) (md : Region.Mode) (ops : Array Oper) (Q : Exit → Act → World → Prop) (S : World → Prop) (z : Nat) : Nat → Array Bool → Act → World → Prop
  | 0, listed, a, w => Region.ready md ops listed = [] ∧ Q .normal a w
  | fuel + 1, listed, a, w => (Region.ready md ops listed = [] → Q .normal a w) ∧
    ∀ i ∈ Region.ready md ops listed, wpOp P ops Q i (fun a' w' => (i ≠ z → S w') ∧ wpAnyW P md ops Q S z fuel (listed.setIfInBounds i true) a' w') a w

theorem wpAny_of_weak : ∀ (fuel : Nat) (listed : Array Bool) (a : Act) (w : World), wpAnyW P md ops Q S z fuel listed a w → wpAny P md ops Q fuel listed a w
  | 0, _, _, _, h => h
  | fuel + 1, _, _, _, h => ⟨h.1, fun i hi => wpOp_mono (fun a' w' h' => wpAny_of_weak fuel _ a' w' h'.2) (h.2 i hi)⟩

theorem weak_first {i : Nat} {oi : Oper} {v : Value} (hi : ops[i]? = some oi) (hsel : Region.noSelect ops = true) (hz : Region.waitsFor md ops z i = true)
    (hQ : ∀ c a w, Q (.panic c) (a.put oi.dst v) w → Q (.panic c) a w) : ∀ (fuel : Nat) (listed : Array Bool) (a : Act) (w : World),
      (∀ j oj, ops[j]? = some oj → j ≠ i → listed.getD j true = false → (∀ e ∈ oj.after, Region.binds md e = true → e.on ≠ i) → oi.apart ops oj = true) →
      i ∈ Region.ready md ops listed → YieldsIf P ops S oi v a → S w →
      wpAnyW P md ops Q S z fuel (listed.setIfInBounds i true) (a.put oi.dst v) w → wpAnyW P md ops Q S z (fuel + 1) listed a w
  | 0, listed, a, w, _, hr, hy, hS, H => by
    refine ⟨fun h => absurd hr (by rw [h]; simp), fun j hj => ?_⟩
    rcases Nat.decEq j i with hji | hji
    · exact absurd (ready_mono hj hji) (by rw [H.1]; simp)
    · subst hji; exact hy.wpOp hi hS ⟨fun _ => hS, H⟩
  | fuel + 1, listed, a, w, hfree, hr, hy, hS, H => by
    refine ⟨fun h => absurd hr (by rw [h]; simp), fun j hj => ?_⟩
    rcases Nat.decEq j i with hji | hji
    · obtain ⟨hjun, oj, hoj, hall⟩ := mem_ready.1 hj
      have hi0 := (mem_ready.1 hr).1
      have hnot : ∀ e ∈ oj.after, Region.binds md e = true → e.on ≠ i := by
        intro e he hb heq
        have h1 := hall e he hb
        rw [heq] at h1
        simp only [Array.getD_eq_getD_getElem?] at h1 hi0
        cases hx : listed[i]? with
        | none => rw [hx] at h1; simp at h1
        | some b => rw [hx] at h1 hi0; simp at h1 hi0; rw [h1] at hi0; cases hi0
      have h2 := wpOp_putIf hoj (hfree j oj hoj hji hjun hnot) (fun cs b => Region.noSelect_spec hsel i oi cs b hi) (fun cs b => Region.noSelect_spec hsel j oj cs b hoj) hQ hy (H.2 j (ready_mono hj hji))
      have hri := ready_mono hr (Ne.symm hji)
      refine wpOp_mono (fun a' w' h3 => ?_) h2
      obtain ⟨hy', hS', H'⟩ := h3
      rw [Array.setIfInBounds_comm _ _ (Ne.symm hji)] at H'
      have hSw : S w' := hS' (by
        intro e
        obtain ⟨oz, h1, e', h2, h3, h4⟩ := Region.waitsFor_spec hz
        rw [← e, hoj] at h1
        cases h1
        exact hnot e' h2 h3 h4)
      refine ⟨fun _ => hSw, weak_first hi hsel hz hQ fuel (listed.setIfInBounds j true) a' w' ?_ hri hy' hSw H'⟩
      intro k ok hk hki hun hno
      refine hfree k ok hk hki ?_ hno
      by_cases hjk : j = k
      · subst hjk; exact hjun
      · rw [getD_set_ne true hjk] at hun; exact hun
    · subst hji; exact hy.wpOp hi hS ⟨fun _ => hS, H⟩

/-- Take number i first. -/
theorem weak_take (i : Nat) {oi : Oper} (v : Value) {fuel : Nat} {listed : Array Bool} {a : Act} {w : World} (hi : ops[i]? = some oi)
    (hs : Region.noSelect ops = true) (hz : Region.waitsFor md ops z i = true) (hf : Region.free md ops listed i = true) (hr : (Region.ready md ops listed).contains i = true)
    (hQ : ∀ c a w, Q (.panic c) (a.put oi.dst v) w → Q (.panic c) a w) (hy : YieldsIf P ops S oi v a) (hS : S w)
    (h : wpAnyW P md ops Q S z fuel (listed.setIfInBounds i true) (a.put oi.dst v) w) : wpAnyW P md ops Q S z (fuel + 1) listed a w :=
  weak_first hi hs hz hQ fuel listed a w (Region.free_spec hi hf) (by simpa using hr) hy hS h

/-- One alone may come up. -/
theorem weak_one (i : Nat) {o : Oper} {fuel : Nat} {listed : Array Bool} {a : Act} {w : World} (hi : ops[i]? = some o) (hw : o.guard = none) (hr : Region.ready md ops listed = [i])
    (h : o.wp P a w (fun a' w' => (i ≠ z → S w') ∧ wpAnyW P md ops Q S z fuel (listed.setIfInBounds i true) a' w') Q) : wpAnyW P md ops Q S z (fuel + 1) listed a w := by
  refine ⟨fun h0 => (by rw [hr] at h0; cases h0), fun j hj => ?_⟩
  rw [hr] at hj
  obtain rfl := List.mem_singleton.1 hj
  unfold wpOp
  simp only [hi]
  rw [if_pos (by simp [Region.wanted, hw])]
  exact .inl h

theorem weak_done {listed : Array Bool} {a : Act} {w : World} (hr : Region.ready md ops listed = []) (h : Q .normal a w) : wpAnyW P md ops Q S z 0 listed a w := ⟨hr, h⟩

theorem weak_region (z : Nat) (S : World → Prop) {id : Nat} {a : Act} {w : World} (hm : P.follows .mixedOrders = true)
    (h : wpAnyW P .any ops (NoPanic Q) S z ops.size (Array.replicate ops.size false) a w.drew) : (Code.region id ops true).wp P Q a w :=
  wp_region_noPanic (wp_region_any hm (wpAny_of_weak _ _ _ _ h))
end

/-- An operation that gives a value. -/
theorem wp_given {P : Program} {o : Oper} {a : Act} {w w' : World} {K : Act → World → Prop} {Q : Exit → Act → World → Prop} {v : Value} (hrun : (execOp a.eval o).run P w = .ok (.value v) w') (h : K (a.put o.dst v) w') : o.wp P a w K Q := by
  unfold Oper.wp
  rw [hrun]
  exact h

theorem wp_enter {P : Program} {o : Oper} {a : Act} {w : World} {K : Act → World → Prop} {Q : Exit → Act → World → Prop} (f : FuncId) (args : Array Value) (hrun : (execOp a.eval o).run P w = .ok (.enter f args) w)
    {R : Ending → World → Prop} (hc : Calls P f args w R) (h : ∀ e w', R e w' → ∃ v, e = .returned v ∧ K (a.put o.dst v) w') : o.wp P a w K Q := by
  unfold Oper.wp
  rw [hrun, Oper.upon_enter]
  refine hc.mono fun e w' hR => ?_
  obtain ⟨v, rfl, hK⟩ := h e w' hR
  exact hK

end Go.Proofs.YtkegadjdlkfabaaGreatDoor

namespace Go.Proofs.YtkegadjdlkfabaaGreatDoor
open Go.RowKit

/-- What is wrong with a block. -/
def FaultAt (w : World) (b : Nat) (k : Int) (why : Value) : Prop := w.heap[b]? = some (.cells #[.int .i64 k, why] 124 (0, 0))

set_option maxRecDepth 20000 in
set_option maxHeartbeats 400000 in
theorem faultOf_calls (w : World) (k : Int) (t : TypeId) (v : Value) :
    Calls Tryz.prog 69 #[.int .i64 k, (.iface t v)] w fun e w' => e = .returned (.iface 72 (.pointer (some ⟨w.heap.size, 0, none⟩))) ∧ FaultAt w' w.heap.size k (.iface t v) ∧ Chg 0 0 w w' := by
  have HB : Hid (FaultAt (w.alloc (.cells #[.int .i64 k, (.iface t v)] 124)) w.heap.size k (.iface t v)) := heap_new w _
  have HC : Hid (Chg 0 0 w (w.alloc (.cells #[.int .i64 k, (.iface t v)] 124))) := Chg.alloc (Chg.refl 0 0 w) _
  go_enter Tryz.func69, Tryz.ntmps69
  go_wp2
  go_ret
  exact ⟨rfl, HB.out, HC.out⟩

/-- A header's seven cells. -/
def hd7 (xs : List Int) : Array Value := #[.int .u8 (xs.getD 0 0), .int .u8 (xs.getD 1 0), .int .u8 (xs.getD 2 0), .int .u8 (xs.getD 3 0), .int .i64 (xs.getD 4 0), .int .i64 (getN ((xs.drop 6).take 2)), .int .i64 (getN ((xs.drop 8).take 4))]

theorem arrayAt_four (w : World) (a : Addr) (cap : Nat) : (Instr.arrayAt 51 (.slice (some a) 4 cap)).run Tryz.prog w = .ok (.pointer (some a)) w := by
  first | kernel_rfl | rfl | simp [Instr.arrayAt, go_sem]

theorem row_range {w : World} {b : Nat} {cs : List Value} {t : TypeId} (h : w.heap[b]? = some (.cells cs.toArray t (0, 0))) (o n : Nat) : w.rangeAt b o ((cs.drop o).take n) := by
  intro j v hj
  rw [List.getElem?_take] at hj
  split at hj
  · rw [List.getElem?_drop] at hj
    simp [World.cell?, h, hj]
  · cases hj

end Go.Proofs.YtkegadjdlkfabaaGreatDoor

namespace Go.Proofs.YtkegadjdlkfabaaGreatDoor
section
variable {P : Program} {md : Region.Mode} {ops : Array Oper} {Q : Exit → Act → World → Prop} {S : World → Prop}

/-! The same with a condition that is kept throughout. -/
theorem held_region (S : World → Prop) {id : Nat} {a : Act} {w : World} (hm : P.follows .mixedOrders = true)
    (h : wpAnyH P .any ops (NoPanic Q) S ops.size (Array.replicate ops.size false) a w.drew) : (Code.region id ops true).wp P Q a w :=
  wp_region_noPanic (wp_region_any hm (wpAny_of_held _ _ _ _ h))

theorem held_take (i : Nat) {oi : Oper} (v : Value) {fuel : Nat} {listed : Array Bool} {a : Act} {w : World} (hi : ops[i]? = some oi)
    (hs : Region.noSelect ops = true) (hf : Region.free md ops listed i = true) (hr : (Region.ready md ops listed).contains i = true)
    (hQ : ∀ c a w, Q (.panic c) (a.put oi.dst v) w → Q (.panic c) a w) (hy : YieldsIf P ops S oi v a) (hS : S w)
    (h : wpAnyH P md ops Q S fuel (listed.setIfInBounds i true) (a.put oi.dst v) w) : wpAnyH P md ops Q S (fuel + 1) listed a w :=
  wpAnyH_take hi hs hf hr hQ hy hS h

theorem held_one (i : Nat) {o : Oper} {fuel : Nat} {listed : Array Bool} {a : Act} {w : World} (hi : ops[i]? = some o) (hw : o.guard = none) (hr : Region.ready md ops listed = [i])
    (h : o.wp P a w (fun a' w' => S w' ∧ wpAnyH P md ops Q S fuel (listed.setIfInBounds i true) a' w') Q) : wpAnyH P md ops Q S (fuel + 1) listed a w := by
  refine ⟨fun h0 => (by rw [hr] at h0; cases h0), fun j hj => ?_⟩
  rw [hr] at hj
  obtain rfl := List.mem_singleton.1 hj
  unfold wpOp
  simp only [hi]
  rw [if_pos (by simp [Region.wanted, hw])]
  exact .inl h

/-- Two are ready: either comes first. -/
theorem held_two (i j : Nat) {o o' : Oper} {fuel : Nat} {listed : Array Bool} {a : Act} {w : World} (hi : ops[i]? = some o) (hw : o.guard = none) (hj : ops[j]? = some o') (hw' : o'.guard = none) (hr : Region.ready md ops listed = [i, j])
    (h : o.wp P a w (fun a' w' => S w' ∧ wpAnyH P md ops Q S fuel (listed.setIfInBounds i true) a' w') Q)
    (h' : o'.wp P a w (fun a' w' => S w' ∧ wpAnyH P md ops Q S fuel (listed.setIfInBounds j true) a' w') Q) : wpAnyH P md ops Q S (fuel + 1) listed a w := by
  refine ⟨fun h0 => (by rw [hr] at h0; cases h0), fun k hk => ?_⟩
  rw [hr] at hk
  simp only [List.mem_cons, List.not_mem_nil, or_false] at hk
  rcases hk with rfl | rfl
  · unfold wpOp
    simp only [hi]
    rw [if_pos (by simp [Region.wanted, hw])]
    exact .inl h
  · unfold wpOp
    simp only [hj]
    rw [if_pos (by simp [Region.wanted, hw'])]
    exact .inl h'

theorem held_done {listed : Array Bool} {a : Act} {w : World} (hr : Region.ready md ops listed = []) (h : Q .normal a w) : wpAnyH P md ops Q S 0 listed a w := ⟨hr, h⟩
end
section
variable {P : Program} {md : Region.Mode} {ops : Array Oper} {Q : Exit → Act → World → Prop} {S : World → Prop}
/-- One is ready, and is wanted. -/
theorem held_oneG (i : Nat) {o : Oper} {fuel : Nat} {listed : Array Bool} {a : Act} {w : World} (hi : ops[i]? = some o) (hw : Region.wanted o (yielded ops a.tmps) = true) (hr : Region.ready md ops listed = [i])
    (h : o.wp P a w (fun a' w' => S w' ∧ wpAnyH P md ops Q S fuel (listed.setIfInBounds i true) a' w') Q) : wpAnyH P md ops Q S (fuel + 1) listed a w := by
  refine ⟨fun h0 => (by rw [hr] at h0; cases h0), fun j hj => ?_⟩
  rw [hr] at hj
  obtain rfl := List.mem_singleton.1 hj
  unfold wpOp
  simp only [hi]
  rw [if_pos hw]
  exact .inl h
end

end Go.Proofs.YtkegadjdlkfabaaGreatDoor

namespace Go.Proofs.YtkegadjdlkfabaaGreatDoor
open Go.RowKit

/-- An error that wraps another one. -/
def Wraps (w : World) (lo : Nat) (ev : Value) (t : TypeId) (v : Value) : Prop := ∃ b k, lo ≤ b ∧ ev = .iface 72 (.pointer (some ⟨b, 0, none⟩)) ∧ FaultAt w b k (.iface t v)

theorem Wraps.chg {w w' : World} {lo l r : Nat} {ev : Value} {t : TypeId} {v : Value} (h : Wraps w lo ev t v) (c : Chg l r w w') (e : r ≤ l ∨ r ≤ lo) : Wraps w' lo ev t v := by
  obtain ⟨b, k, hb, he, hf⟩ := h
  exact ⟨b, k, hb, he, (c.block b (Array.getElem?_eq_some_iff.1 hf).1 (by omega)).trans hf⟩

theorem results_bhe {P : Program} {fn : Func} {p1 p2 p3 : Tmp} {t1 t2 : TypeId} {w : World} {tmps : Array Value} {a1 a2 : Addr} {v1 v2 v3 : Value} (h : fn.results = #[.cell p1 t1, .cell p2 t2, .tmp p3]) (h1 : tmps.getD p1 undef = .pointer (some a1)) (h2 : tmps.getD p2 undef = .pointer (some a2)) (h3 : tmps.getD p3 undef = v3)
    (hl1 : (loadVar t1 a1).run P w = .ok v1 w) (hl2 : (loadVar t2 a2).run P w = .ok v2 w) : (results fn tmps).run P w = .ok (.tuple #[v1, v2, v3]) w := by
  have h1' : tmps[p1]?.getD undef = .pointer (some a1) := by simpa using h1
  have h2' : tmps[p2]?.getD undef = .pointer (some a2) := by simpa using h2
  have h3' : tmps[p3]?.getD undef = v3 := by simpa using h3
  simp only [results, h]
  simp [asAddr, h1', h2', h3', hl1, hl2]

/-- The cells of a block. -/
def Blk (L : List Value) : Prop := L.length = 64 ∧ ∀ v ∈ L, v.oneCell' = true

abbrev z7 : List Value := [.int .u8 0, .int .u8 0, .int .u8 0, .int .u8 0, .int .i64 0, .int .i64 0, .int .i64 0]

end Go.Proofs.YtkegadjdlkfabaaGreatDoor

namespace Go.Proofs.YtkegadjdlkfabaaGreatDoor
open Go.RowKit

theorem OwnB.nothing (w : World) (N : Nat) (e : TypeId) : OwnB w N e (.slice none 0 0) [] := ⟨rfl, Or.inl ⟨rfl, rfl⟩⟩
theorem alloc_two (w : World) (o1 o2 : Obj) : ((w.alloc o1).alloc o2).heap[w.heap.size]? = some o1 := (alloc2 w o1 o2).2.1
theorem alloc_twoN (w : World) (o1 o2 : Obj) : ((w.alloc o1).alloc o2).heap[w.heap.size + 1]? = some o2 := (alloc2 w o1 o2).2.2
theorem trio {w : World} {s : Nat} {a b c : Value} {t : TypeId} (h : w.heap[s]? = some (.cells #[a, b, c] t (0, 0))) :
    w.cell? ⟨s, 0, none⟩ = some a ∧ w.cell? ⟨s, 1, none⟩ = some b ∧ w.cell? ⟨s, 2, none⟩ = some c := by
  simp [World.cell?, h]

end Go.Proofs.YtkegadjdlkfabaaGreatDoor
