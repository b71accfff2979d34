/- Several short texts in one: Weak, Held, PutPs, TagL, ViewStr, StrInj, L2Same, Mg, SpecBeg. -/
import Derived.OrdersHeld
import Derived.Deep.RegionHeld3
import Derived.StillTail
import Derived.Test.YtahjaejepkgfdaaGreatDoorByt
import Derived.Test.YtahjaejepkgfdaaGreatDoorCopyRow
import Derived.Deep.DeepCutAuto
import Derived.Test.YtahjaejepkgfdaaGreatDoorRows
import Derived.Test.YtahjaejepkgfdaaGreatDoorMem
import Derived.Laws.BytesArg
import Derived.Lib.Bytes
import Derived.Deep.RegionWith
namespace Go.Proofs.YtahjaejepkgfdaaGreatDoor
section
variable {P : Program} {md : Region.Mode} {ops : Array Oper} {Q : Exit → Act → World → Prop} {S : World → Prop} {z : Nat}

/-- Whatever may come up comes up; behind it S holds, unless it is number z. -/
def wpAnyW (P : Program) (md : Region.Mode) (ops : Array Oper) (Q : Exit → Act → World → Prop) (S : World → Prop) (z : Nat) : Nat → Array Bool → Act → World → Prop
  | 0, listed, a, w => Region.ready md ops listed = [] ∧ Q .normal a w
  | fuel + 1, listed, a, w => (Region.ready md ops listed = [] → Q .normal a w) ∧
    ∀ i ∈ Region.ready md ops listed, wpOp P ops Q i (fun a' w' => (i ≠ z → S w') ∧ wpAnyW P md ops Q S z fuel (listed.setIfInBounds i true) a' w') a w

theorem wpAny_of_weak : ∀ (fuel : Nat) (listed : Array Bool) (a : Act) (w : World), wpAnyW P md ops Q S z fuel listed a w → wpAny P md ops Q fuel listed a w
  | 0, _, _, _, h => h
  | fuel + 1, _, _, _, h => ⟨h.1, fun i hi => wpOp_mono (fun a' w' h' => wpAny_of_weak fuel _ a' w' h'.2) (h.2 i hi)⟩

theorem weak_first {i : Nat} {oi : Oper} {v : Value} (hi : ops[i]? = some oi) (hsel : Region.noSelect ops = true) (hz : Region.waitsFor md ops z i = true)
    (hQ : ∀ c a w, Q (.panic c) (a.put oi.dst v) w → Q (.panic c) a w) : ∀ (fuel : Nat) (listed : Array Bool) (a : Act) (w : World),
      (∀ j oj, ops[j]? = some oj → j ≠ i → listed.getD j true = false → (∀ e ∈ oj.after, Region.binds md e = true → e.on ≠ i) → oi.apart ops oj = true) →
      i ∈ Region.ready md ops listed → YieldsIf P ops S oi v a → S w →
      wpAnyW P md ops Q S z fuel (listed.setIfInBounds i true) (a.put oi.dst v) w → wpAnyW P md ops Q S z (fuel + 1) listed a w
  | 0, listed, a, w, _, hr, hy, hS, H => by
    refine ⟨fun h => absurd hr (by rw [h]; simp), fun j hj => ?_⟩
    rcases Nat.decEq j i with hji | hji
    · exact absurd (ready_mono hj hji) (by rw [H.1]; simp)
    · subst hji; exact hy.wpOp hi hS ⟨fun _ => hS, H⟩
  | fuel + 1, listed, a, w, hfree, hr, hy, hS, H => by
    refine ⟨fun h => absurd hr (by rw [h]; simp), fun j hj => ?_⟩
    rcases Nat.decEq j i with hji | hji
    · obtain ⟨hjun, oj, hoj, hall⟩ := mem_ready.1 hj
      have hi0 := (mem_ready.1 hr).1
      have hnot : ∀ e ∈ oj.after, Region.binds md e = true → e.on ≠ i := by
        intro e he hb heq
        have h1 := hall e he hb
        rw [heq] at h1
        simp only [Array.getD_eq_getD_getElem?] at h1 hi0
        cases hx : listed[i]? with
        | none => rw [hx] at h1; simp at h1
        | some b => rw [hx] at h1 hi0; simp at h1 hi0; rw [h1] at hi0; cases hi0
      have h2 := wpOp_putIf hoj (hfree j oj hoj hji hjun hnot) (fun cs b => Region.noSelect_spec hsel i oi cs b hi) (fun cs b => Region.noSelect_spec hsel j oj cs b hoj) hQ hy (H.2 j (ready_mono hj hji))
      have hri := ready_mono hr (Ne.symm hji)
      refine wpOp_mono (fun a' w' h3 => ?_) h2
      obtain ⟨hy', hS', H'⟩ := h3
      rw [Array.setIfInBounds_comm _ _ (Ne.symm hji)] at H'
      have hSw : S w' := hS' (by
        intro e
        obtain ⟨oz, h1, e', h2, h3, h4⟩ := Region.waitsFor_spec hz
        rw [← e, hoj] at h1
        cases h1
        exact hnot e' h2 h3 h4)
      refine ⟨fun _ => hSw, weak_first hi hsel hz hQ fuel (listed.setIfInBounds j true) a' w' ?_ hri hy' hSw H'⟩
      intro k ok hk hki hun hno
      refine hfree k ok hk hki ?_ hno
      by_cases hjk : j = k
      · subst hjk; exact hjun
      · rw [getD_set_ne true hjk] at hun; exact hun
    · subst hji; exact hy.wpOp hi hS ⟨fun _ => hS, H⟩

/-- Take number i first. -/
theorem weak_take (i : Nat) {oi : Oper} (v : Value) {fuel : Nat} {listed : Array Bool} {a : Act} {w : World} (hi : ops[i]? = some oi)
    (hs : Region.noSelect ops = true) (hz : Region.waitsFor md ops z i = true) (hf : Region.free md ops listed i = true) (hr : (Region.ready md ops listed).contains i = true)
    (hQ : ∀ c a w, Q (.panic c) (a.put oi.dst v) w → Q (.panic c) a w) (hy : YieldsIf P ops S oi v a) (hS : S w)
    (h : wpAnyW P md ops Q S z fuel (listed.setIfInBounds i true) (a.put oi.dst v) w) : wpAnyW P md ops Q S z (fuel + 1) listed a w :=
  weak_first hi hs hz hQ fuel listed a w (Region.free_spec hi hf) (by simpa using hr) hy hS h

/-- One alone may come up. -/
theorem weak_one (i : Nat) {o : Oper} {fuel : Nat} {listed : Array Bool} {a : Act} {w : World} (hi : ops[i]? = some o) (hw : o.guard = none) (hr : Region.ready md ops listed = [i])
    (h : o.wp P a w (fun a' w' => (i ≠ z → S w') ∧ wpAnyW P md ops Q S z fuel (listed.setIfInBounds i true) a' w') Q) : wpAnyW P md ops Q S z (fuel + 1) listed a w := by
  refine ⟨fun h0 => (by rw [hr] at h0; cases h0), fun j hj => ?_⟩
  rw [hr] at hj
  obtain rfl := List.mem_singleton.1 hj
  unfold wpOp
  simp only [hi]
  rw [if_pos (by simp [Region.wanted, hw])]
  exact .inl h

theorem weak_done {listed : Array Bool} {a : Act} {w : World} (hr : Region.ready md ops listed = []) (h : Q .normal a w) : wpAnyW P md ops Q S z 0 listed a w := ⟨hr, h⟩

theorem weak_region (z : Nat) (S : World → Prop) {id : Nat} {a : Act} {w : World} (hm : P.follows .mixedOrders = true)
    (h : wpAnyW P .any ops (NoPanic Q) S z ops.size (Array.replicate ops.size false) a w.drew) : (Code.region id ops true).wp P Q a w :=
  wp_region_noPanic (wp_region_any hm (wpAny_of_weak _ _ _ _ h))
end

/-- An operation that gives a value. -/
theorem wp_given {P : Program} {o : Oper} {a : Act} {w w' : World} {K : Act → World → Prop} {Q : Exit → Act → World → Prop} {v : Value} (hrun : (execOp a.eval o).run P w = .ok (.value v) w') (h : K (a.put o.dst v) w') : o.wp P a w K Q := by
  unfold Oper.wp
  rw [hrun]
  exact h

theorem wp_enter {P : Program} {o : Oper} {a : Act} {w : World} {K : Act → World → Prop} {Q : Exit → Act → World → Prop} (f : FuncId) (args : Array Value) (hrun : (execOp a.eval o).run P w = .ok (.enter f args) w)
    {R : Ending → World → Prop} (hc : Calls P f args w R) (h : ∀ e w', R e w' → ∃ v, e = .returned v ∧ K (a.put o.dst v) w') : o.wp P a w K Q := by
  unfold Oper.wp
  rw [hrun, Oper.upon_enter]
  refine hc.mono fun e w' hR => ?_
  obtain ⟨v, rfl, hK⟩ := h e w' hR
  exact hK

end Go.Proofs.YtahjaejepkgfdaaGreatDoor

namespace Go.Proofs.YtahjaejepkgfdaaGreatDoor
section
variable {P : Program} {md : Region.Mode} {ops : Array Oper} {Q : Exit → Act → World → Prop} {S : World → Prop}

/-! The same with a condition that is kept throughout. -/
theorem held_region (S : World → Prop) {id : Nat} {a : Act} {w : World} (hm : P.follows .mixedOrders = true)
    (h : wpAnyH P .any ops (NoPanic Q) S ops.size (Array.replicate ops.size false) a w.drew) : (Code.region id ops true).wp P Q a w :=
  wp_region_noPanic (wp_region_any hm (wpAny_of_held _ _ _ _ h))

theorem held_take (i : Nat) {oi : Oper} (v : Value) {fuel : Nat} {listed : Array Bool} {a : Act} {w : World} (hi : ops[i]? = some oi)
    (hs : Region.noSelect ops = true) (hf : Region.free md ops listed i = true) (hr : (Region.ready md ops listed).contains i = true)
    (hQ : ∀ c a w, Q (.panic c) (a.put oi.dst v) w → Q (.panic c) a w) (hy : YieldsIf P ops S oi v a) (hS : S w)
    (h : wpAnyH P md ops Q S fuel (listed.setIfInBounds i true) (a.put oi.dst v) w) : wpAnyH P md ops Q S (fuel + 1) listed a w :=
  wpAnyH_take hi hs hf hr hQ hy hS h

theorem held_one (i : Nat) {o : Oper} {fuel : Nat} {listed : Array Bool} {a : Act} {w : World} (hi : ops[i]? = some o) (hw : o.guard = none) (hr : Region.ready md ops listed = [i])
    (h : o.wp P a w (fun a' w' => S w' ∧ wpAnyH P md ops Q S fuel (listed.setIfInBounds i true) a' w') Q) : wpAnyH P md ops Q S (fuel + 1) listed a w := by
  refine ⟨fun h0 => (by rw [hr] at h0; cases h0), fun j hj => ?_⟩
  rw [hr] at hj
  obtain rfl := List.mem_singleton.1 hj
  unfold wpOp
  simp only [hi]
  rw [if_pos (by simp [Region.wanted, hw])]
  exact .inl h

/-- Two are ready: either comes first. -/
theorem held_two (i j : Nat) {o o' : Oper} {fuel : Nat} {listed : Array Bool} {a : Act} {w : World} (hi : ops[i]? = some o) (hw : o.guard = none) (hj : ops[j]? = some o') (hw' : o'.guard = none) (hr : Region.ready md ops listed = [i, j])
    (h : o.wp P a w (fun a' w' => S w' ∧ wpAnyH P md ops Q S fuel (listed.setIfInBounds i true) a' w') Q)
    (h' : o'.wp P a w (fun a' w' => S w' ∧ wpAnyH P md ops Q S fuel (listed.setIfInBounds j true) a' w') Q) : wpAnyH P md ops Q S (fuel + 1) listed a w := by
  refine ⟨fun h0 => (by rw [hr] at h0; cases h0), fun k hk => ?_⟩
  rw [hr] at hk
  simp only [List.mem_cons, List.not_mem_nil, or_false] at hk
  rcases hk with rfl | rfl
  · unfold wpOp
    simp only [hi]
    rw [if_pos (by simp [Region.wanted, hw])]
    exact .inl h
  · unfold wpOp
    simp only [hj]
    rw [if_pos (by simp [Region.wanted, hw'])]
    exact .inl h'

theorem held_done {listed : Array Bool} {a : Act} {w : World} (hr : Region.ready md ops listed = []) (h : Q .normal a w) : wpAnyH P md ops Q S 0 listed a w := ⟨hr, h⟩
end
section
variable {P : Program} {md : Region.Mode} {ops : Array Oper} {Q : Exit → Act → World → Prop} {S : World → Prop}
/-- One is ready, and is wanted. -/
theorem held_oneG (i : Nat) {o : Oper} {fuel : Nat} {listed : Array Bool} {a : Act} {w : World} (hi : ops[i]? = some o) (hw : Region.wanted o (yielded ops a.tmps) = true) (hr : Region.ready md ops listed = [i])
    (h : o.wp P a w (fun a' w' => S w' ∧ wpAnyH P md ops Q S fuel (listed.setIfInBounds i true) a' w') Q) : wpAnyH P md ops Q S (fuel + 1) listed a w := by
  refine ⟨fun h0 => (by rw [hr] at h0; cases h0), fun j hj => ?_⟩
  rw [hr] at hj
  obtain rfl := List.mem_singleton.1 hj
  unfold wpOp
  simp only [hi]
  rw [if_pos hw]
  exact .inl h
end

end Go.Proofs.YtahjaejepkgfdaaGreatDoor

namespace Go.Proofs.YtahjaejepkgfdaaGreatDoor
open Go.RowKit

/-- The bytes of numbers, two each. -/
def putPs (xs : List Int) : List Int := xs.flatMap fun x => putN x 2
theorem put2_len {x : Int} (h : 0 ≤ x ∧ x < 2048) : (putN x 2).length = 2 := by
  unfold putN
  rw [if_neg (by omega), if_neg (by have : (256 : Int) ^ (2 : Int).toNat = 65536 := rfl; rw [this]; omega), digs_length]; rfl
theorem putPs_len {xs : List Int} (h : ∀ x ∈ xs, 0 ≤ x ∧ x < 2048) : (putPs xs).length = 2 * xs.length := by
  unfold putPs
  induction xs with
  | nil => rfl
  | cons x r ih =>
    rw [List.flatMap_cons, List.length_append, put2_len (h x (by simp)), ih (fun y hy => h y (by simp [hy])), List.length_cons]; omega
theorem putPs_take {xs : List Int} {k : Nat} (h : k < xs.length) : putPs (xs.take (k + 1)) = putPs (xs.take k) ++ putN (xs.getD k 0) 2 := by
  unfold putPs
  rw [List.take_succ_eq_append_getElem h, List.flatMap_append]
  simp [List.getD_eq_getElem?_getD, h]
theorem splice_more {c xs ys : List Value} {o : Nat} (h : o + xs.length + ys.length ≤ c.length) : splice (splice c o xs) (o + xs.length) ys = splice c o (xs ++ ys) := by
  have e0 : (c.take o).length = o := by rw [List.length_take]; omega
  have e1 : (c.take o ++ xs).length = o + xs.length := by rw [List.length_append, e0]
  have A : (c.take o ++ (xs ++ c.drop (o + xs.length))).take (o + xs.length) = c.take o ++ xs := by
    rw [← List.append_assoc, List.take_append_of_le_length (by rw [e1]; exact Nat.le_refl _), List.take_of_length_le (by rw [e1]; exact Nat.le_refl _)]
  have B : (c.take o ++ (xs ++ c.drop (o + xs.length))).drop (o + xs.length + ys.length) = c.drop (o + xs.length + ys.length) := by
    rw [← List.append_assoc, List.drop_append, List.drop_eq_nil_of_le (by rw [e1]; omega), List.nil_append, e1, List.drop_drop]
    congr 1; omega
  unfold splice
  simp only [List.append_assoc] at A B ⊢
  rw [A, B, List.length_append, List.append_assoc, show o + (xs.length + ys.length) = o + xs.length + ys.length by omega]
theorem splice_nil {c : List Value} {o : Nat} : splice c o [] = c := by unfold splice; simp

/-- What lies where bytes that are one's own are seen. -/
theorem OwnB.two {x : World} {base : Nat} {e : TypeId} {r : Value} {xs : List Int} {n : Nat} (o2 : OwnB x base e r xs) (hn : xs.length = n) (hp : 0 < n) (hb : n ≤ 1048576) :
    ∃ g gc, r = .slice (some ⟨g, 0, none⟩) n gc ∧ ∀ j v, (xs.map (Value.int .u8))[j]? = some v → x.cell? ((⟨g, 0, none⟩ : Addr).add j) = some v := by
  have hv := o2.view (hi := x.heap.size) (by omega) (fun g hg => (o2.lt g hg).2)
  rcases o2.2 with ⟨_, h0⟩ | ⟨g, gc, cur, rfl, hg, hh, h1, h2, h3, h4⟩
  · omega
  · refine ⟨g, gc, by rw [hn], fun j v hj => ?_⟩
    rw [Addr.add_mid, Nat.zero_add]
    have hj' : cur.toList[j]? = some v := by
      rw [← h4] at hj
      rw [List.getElem?_take] at hj
      split at hj
      · exact hj
      · cases hj
    simp only [World.cell?, hh]
    simpa using hj'

end Go.Proofs.YtahjaejepkgfdaaGreatDoor

namespace Go.Proofs.YtahjaejepkgfdaaGreatDoor
open Go.RowKit

/-- The bytes of tags. -/
def tagL (t : Int × Bool) : List Int := putN t.1 2 ++ [if t.2 then 1 else 0]
def tagsL (ts : List (Int × Bool)) : List Int := ts.flatMap tagL
theorem tagsL_len {ts : List (Int × Bool)} (h : ∀ x ∈ ts, 0 ≤ x.1 ∧ x.1 < 2048) : (tagsL ts).length = 3 * ts.length := by
  unfold tagsL
  induction ts with
  | nil => rfl
  | cons x r ih =>
    rw [List.flatMap_cons, List.length_append, ih (fun y hy => h y (by simp [hy])), List.length_cons]
    unfold tagL
    rw [List.length_append, put2_len (h x (by simp))]
    simp; omega
theorem tagsL_take {ts : List (Int × Bool)} {k : Nat} (h : k < ts.length) : tagsL (ts.take (k + 1)) = tagsL (ts.take k) ++ tagL (ts.getD k (0, false)) := by
  unfold tagsL
  rw [List.take_succ_eq_append_getElem h, List.flatMap_append]
  simp [List.getD_eq_getElem?_getD, h]

theorem tags_mem {ts : List (Int × Bool)} (h : ∀ x ∈ ts.map (·.1), 0 ≤ x ∧ x < 2048) : ∀ x ∈ ts, 0 ≤ x.1 ∧ x.1 < 2048 := fun x hx => h x.1 (List.mem_map.2 ⟨x, hx, rfl⟩)
theorem tags_getD (ts : List (Int × Bool)) (k : Nat) : (ts.map (·.1)).getD k 0 = (ts.getD k (0, false)).1 := by
  simp only [List.getD_eq_getElem?_getD, List.getElem?_map]
  cases ts[k]? <;> rfl

end Go.Proofs.YtahjaejepkgfdaaGreatDoor

namespace Go.Proofs.YtahjaejepkgfdaaGreatDoor
open Go.RowKit

/-- Bytes as a string. -/
theorem View.str {w : World} {lo hi : Nat} {v : Value} {xs : List Int} (h : View w lo hi .u8 v xs) : (convert 45 9 v).run Tryz.prog w = .ok (.string (strOfNums xs)) w := by
  obtain ⟨ao, cap, rfl, _, _, hcell⟩ := h
  cases ao with
  | none =>
    rcases hcell with rfl | ⟨b, off, e, _⟩
    · exact run_convert_bytes_nil w 45 5 Tryz.underlying45 Tryz.underlying5 0 cap 9 Tryz.underlying9
    · cases e
  | some a =>
    have hl : (loadCells a xs.length).run Tryz.prog w = .ok (xs.map (Value.int .u8)).toArray w := by
      have := run_loadCells_list (P := Tryz.prog) w a (xs.map (Value.int .u8)) (fun j v hj => by
        have hjl : j < xs.length := by have := (List.getElem?_eq_some_iff.1 hj).1; simpa using this
        rcases hcell with rfl | ⟨b, off, e, _, _, hc⟩
        · simp at hjl
        · cases e
          rw [Go.WideShapes.add_plain, hc j hjl, ← hj]
          simp [List.getD_eq_getElem?_getD, hjl])
      simpa using this
    rw [run_convert_bytes_string w 45 9 5 _ _ _ Tryz.underlying45 Tryz.underlying5 Tryz.underlying9, run_bytesToString w _ _ _ xs hl, foldl_push_bytes]
    simp [strOfNums, ByteArray.empty, ByteArray.emptyWithCapacity]
    rfl

theorem View.take {w : World} {lo hi : Nat} {k : IntKind} {ao : Option Addr} {n cap : Nat} {xs : List Int} (h : View w lo hi k (.slice ao n cap) xs) (m : Nat) (hm : m ≤ xs.length) : View w lo hi k (.slice ao m cap) (xs.take m) := by
  obtain ⟨ao', cap', e, hl, ⟨hc, hc'⟩, h⟩ := h
  cases e
  have hlen : (xs.take m).length = m := by rw [List.length_take]; omega
  refine ⟨ao, cap, by rw [hlen], by omega, ⟨by omega, hc'⟩, ?_⟩
  rcases h with h | ⟨b, off, ha, h1, h2, h3⟩
  · left; rw [h]; simp
  · refine Or.inr ⟨b, off, ha, h1, h2, fun i hi => ?_⟩
    rw [hlen] at hi
    have e : (xs.take m).getD i 0 = xs.getD i 0 := by
      simp only [List.getD_eq_getElem?_getD, List.getElem?_take]
      rw [if_pos hi]
    rw [e]
    exact h3 i (by omega)

end Go.Proofs.YtahjaejepkgfdaaGreatDoor

namespace Go.Proofs.YtahjaejepkgfdaaGreatDoor
open Go.RowKit

theorem str_inj {xs ys : List Int} (hx : Byt xs) (hy : Byt ys) (h1 : (xs.map fun n => UInt8.ofNat n.toNat) = ys.map fun n => UInt8.ofNat n.toNat) : xs = ys := by
  induction xs generalizing ys with
  | nil => cases ys with
    | nil => rfl
    | cons y r => simp at h1
  | cons x r ih =>
    cases ys with
    | nil => simp at h1
    | cons y s =>
      simp only [List.map_cons, List.cons.injEq] at h1
      have hx0 := hx x (by simp)
      have hy0 := hy y (by simp)
      have e : x = y := by
        have := congrArg UInt8.toNat h1.1
        simp only [UInt8.toNat_ofNat'] at this
        omega
      rw [e, ih (fun a ha => hx a (by simp [ha])) (fun a ha => hy a (by simp [ha])) h1.2]

theorem str_beq {xs ys : List Int} (hx : Byt xs) (hy : Byt ys) : ((strOfNums xs).toList == (strOfNums ys).toList) = decide (xs = ys) := by
  rw [Go.Lib.strOfNums_toList, Go.Lib.strOfNums_toList]
  by_cases h : xs = ys
  · subst h; rw [decide_eq_true rfl]; exact beq_self_eq_true _
  · rw [decide_eq_false h, beq_eq_false_iff_ne]
    exact fun e => h (str_inj hx hy e)

end Go.Proofs.YtahjaejepkgfdaaGreatDoor

namespace Go.Proofs.YtahjaejepkgfdaaGreatDoor
open Go.RowKit

set_option maxRecDepth 20000 in
set_option maxHeartbeats 400000 in
theorem l2Same_calls (w : World) {lo hi lo' hi' : Nat} {a b : Value} {xs ys : List Int} (hx : Byt xs) (hy : Byt ys) (h1 : View w lo hi .u8 a xs) (h2 : View w lo' hi' .u8 b ys) :
    Calls Tryz.prog 102 #[a, b] w fun e w' => e = .returned (.bool (decide (xs = ys))) ∧ w' = w := by
  have c1 := h1.str
  have c2 := h2.str
  have hb := str_beq hx hy
  obtain ⟨ao, cap, rfl, _⟩ := h1
  obtain ⟨bo, cap', rfl, _⟩ := h2
  generalize strOfNums xs = s at *
  generalize strOfNums ys = t at *
  generalize decide (xs = ys) = r at *
  go_enter Tryz.func102, Tryz.ntmps102
  go_wp2
  go_ret
  exact ⟨rfl, rfl⟩

end Go.Proofs.YtahjaejepkgfdaaGreatDoor

namespace Go.Proofs.YtahjaejepkgfdaaGreatDoor
open Go.RowKit

/-- The magic. -/
def mg : List Int := [106, 108, 111, 103]

theorem byt_mg : Byt mg := by intro x hx; simp [mg] at hx; omega

end Go.Proofs.YtahjaejepkgfdaaGreatDoor

namespace Go.Proofs.YtahjaejepkgfdaaGreatDoor
open Go.RowKit

set_option maxRecDepth 20000 in
set_option maxHeartbeats 400000 in
theorem l3Magic_calls (w : World) : Calls Tryz.prog 88 #[] w fun e w' => e = .returned (.slice (some ⟨w.heap.size, 0, none⟩) 4 4) ∧ OwnB w' w.heap.size 5 (.slice (some ⟨w.heap.size, 0, none⟩) 4 4) mg ∧ Chg 0 0 w w' := by
  have HO : Hid (OwnB (w.alloc (.cells #[.int .u8 106, .int .u8 108, .int .u8 111, .int .u8 103] 5)) w.heap.size 5 (.slice (some ⟨w.heap.size, 0, none⟩) 4 4) mg) := by
    show OwnB _ _ _ _ _
    have := World.ownsRow_lit (base := w.heap.size) (e := 5) (size := 1) w #[.int .u8 106, .int .u8 108, .int .u8 111, .int .u8 103] 4 (Nat.le_refl _) (by unfold maxLen; omega) rfl
    simpa [OwnB, mg] using this
  have HC : Hid (Chg 0 0 w (w.alloc (.cells #[.int .u8 106, .int .u8 108, .int .u8 111, .int .u8 103] 5))) := Chg.alloc (Chg.refl 0 0 w) _
  go_enter Tryz.func88, Tryz.ntmps88
  go_wp2
  go_ret
  exact ⟨rfl, HO.out, HC.out⟩

/-- Do bytes begin with the magic? -/
def beg (xs : List Int) : Bool := decide (4 ≤ xs.length) && decide (xs.take 4 = mg)

set_option maxRecDepth 20000 in
set_option maxHeartbeats 1000000 in
theorem l3Begins_calls (w : World) {lo hi : Nat} {a : Value} {xs : List Int} (hB : Byt xs) (h1 : View w lo hi .u8 a xs) :
    Calls Tryz.prog 89 #[a] w fun e w' => e = .returned (.bool (beg xs)) ∧ Chg 0 0 w w' := by
  have v0 := h1
  obtain ⟨ao, cap, rfl, hl, _, _⟩ := h1
  by_cases h4 : 4 ≤ xs.length
  · have hi4 : (xs.length : Int) ≥ 4 := by omega
    have hc4 : 4 ≤ cap := by
      obtain ⟨_, _, ev, _, ⟨hc, _⟩, _⟩ := v0
      simp only [Value.slice.injEq] at ev
      omega
    have hb : beg xs = decide (xs.take 4 = mg) := by unfold beg; rw [decide_eq_true h4]; rfl
    rw [hb]
    have HV : Hid (View w lo hi .u8 (.slice ao xs.length cap) xs) := v0
    have HB : Hid (Byt xs) := hB
    have HL : Hid (4 ≤ xs.length) := h4
    clear v0 hb hB h4
    go_enter Tryz.func89, Tryz.ntmps89
    go_wp2
    go_region_with (first
      | (go_at_call 88; refine (l3Magic_calls _).mono ?_; rintro e w' ⟨rfl, ho, hc⟩)
      | (go_at_call 102; refine (l2Same_calls (xs := xs.take 4) (ys := mg) _ (HB.out.take 4) byt_mg ((HV.out.take 4 HL.out).chg ((Chg.drew (Chg.refl 0 0 w)).trans hc) (by omega)) (ho.view (hi := w'.heap.size) (by simp [mg]) (fun g hg => (ho.lt g hg).2))).mono ?_; rintro e w'' ⟨rfl, rfl⟩))
    all_goals (try go_wp2)
    all_goals (go_ret; exact ⟨rfl, (Chg.drew (Chg.refl 0 0 w)).trans hc⟩)
  · have hi4 : ¬ (xs.length : Int) ≥ 4 := by omega
    have hb : beg xs = false := by unfold beg; rw [decide_eq_false h4]; rfl
    rw [hb]
    have hd : decide ((xs.length : Int) ≥ 4) = false := by simpa using hi4
    clear v0 hi4 hb
    go_enter Tryz.func89, Tryz.ntmps89
    go_wp2
    go_quiet (fail)
    go_wp2
    go_ret
    exact ⟨rfl, (Chg.refl 0 0 w).drewN _⟩

end Go.Proofs.YtahjaejepkgfdaaGreatDoor
