/- Several short texts in one: Copy, Cells2, RowZ, RowsE, Held, Weak. -/
import Derived.Test.YtmfcaiadcmgjbaaBytesOf
import Derived.Laws.AppendOwnNone
import Derived.Deep.MidRow
import Derived.Test.YtmfcaiadcmgjbaaMem
import Derived.OrdersHeld
import Derived.Deep.RegionHeld3
import Derived.StillTail
namespace Go.Proofs.Ytmfcaiadcmgjbaa
open Go.RowKit

theorem infoU_zero : (Value.int .u8 0).cells.size = 1 := rfl

set_option maxRecDepth 20000 in
set_option maxHeartbeats 1000000 in
theorem l1Copy_calls (w : World) {lo hi : Nat} {a : Value} {xs : List Int} (hl : xs.length ≤ 1048576) (h1 : View w lo hi .u8 a xs) :
    Calls Try.prog 30 #[a] w fun e w' => ∃ v, e = .returned v ∧ OwnB w' w.heap.size 5 v xs ∧ Chg 0 0 w w' := by
  obtain ⟨i, hi, hz0, hz1, hz2⟩ := info_parts Try.infoU
  obtain ⟨ao, cap, rfl, _, ⟨_, hnil⟩, h1⟩ := h1
  have C0 : Chg 0 0 w (w.alloc (.cells #[] 5)) := Chg.alloc (Chg.refl 0 0 w) _
  have O0 : (w.alloc (.cells #[] 5)).ownsRow w.heap.size 5 1 (.slice (some ⟨w.heap.size, 0, none⟩) 0 0) 0 [] := by
    have := World.ownsRow_lit (base := w.heap.size) (e := 5) (size := 1) w #[] 0 (Nat.le_refl _) (by unfold maxLen; omega) rfl
    simpa using this
  have HO0 : Hid ((w.alloc (.cells #[] 5)).ownsRow w.heap.size 5 1 (.slice (some ⟨w.heap.size, 0, none⟩) 0 0) 0 []) := O0
  have HC0 : Hid (Chg 0 0 w (w.alloc (.cells #[] 5))) := C0
  have bs : Hid (w.heap.size ≤ (w.alloc (.cells #[] 5)).heap.size) := by show _ ≤ _; simp
  cases ao with
  | none =>
    obtain rfl : xs = [] := by
      rcases h1 with h1 | ⟨b, off, e, _⟩
      · exact h1
      · cases e
    obtain rfl : cap = 0 := hnil rfl
    clear h1 hnil C0
    go_enter Try.func30, Try.ntmps30
    go_wp2_with (at_builtin; refine wpList_append_own_none rfl (.tmp 3) (.tmp 4) 42 rfl w.heap.size 5 i 1 Try.underlying42 hi _ 0 [] rfl HO0.out rfl ?_)
    go_ret
    exact ⟨_, rfl, HO0.out, HC0.out⟩
  | some ad =>
    have hsrc : ∀ j u, (xs.map (Value.int .u8))[j]? = some u → (w.alloc (.cells #[] 5)).cell? (ad.add j) = some u := by
      intro j u hj
      have hjl : j < xs.length := by have := (List.getElem?_eq_some_iff.1 hj).1; simpa using this
      rcases h1 with h1 | ⟨b, off, e, _, _, hc⟩
      · rw [h1] at hjl; simp at hjl
      · cases e
        rw [Addr.add_mid, C0.cell (hc j hjl) (by omega), ← hj]
        simp [List.getD_eq_getElem?_getD, hjl]
    have Hsrc : Hid (∀ j u, (xs.map (Value.int .u8))[j]? = some u → (w.alloc (.cells #[] 5)).cell? (ad.add j) = some u) := hsrc
    clear h1 hnil hsrc C0
    go_enter Try.func30, Try.ntmps30
    go_wp2_with (at_builtin; refine wpList_append_own _ rfl (.tmp 3) (.tmp 4) 42 rfl w.heap.size 5 i (.int .u8 0) 1 1 Try.underlying42 hi hz0 hz1 hz2 rfl (by decide) _ 0 [] rfl HO0.out ad xs.length cap (xs.map (Value.int .u8)) rfl (by simp) Hsrc.out (ints_oneCell _ _) (by unfold maxLen; omega) (by omega) bs.out ?_)
    intro v' w1 hown hgrow _
    have HO : Hid (OwnB w1 w.heap.size 5 v' xs) := by
      show OwnB _ _ _ _ _
      unfold OwnB
      simpa using hown
    have HC : Hid (Chg 0 0 w w1) := HC0.out.step (Chg.ofGrown (lo := w.heap.size) (hi := w.heap.size + 1) hgrow (fun k hk _ => by simp only [Value.ownBlock, Option.some.injEq] at hk; omega)) (Or.inr (Or.inl (Nat.le_refl _)))
    clear hown hgrow HO0 HC0 Hsrc bs
    go_wp2
    go_ret
    exact ⟨_, rfl, HO.out, HC.out⟩

end Go.Proofs.Ytmfcaiadcmgjbaa

namespace Go.Proofs.Ytmfcaiadcmgjbaa
open Go.RowKit

theorem wpList_store_row {P : Program} {ops : Array Oper} {rest : List Oper} {op : Oper} {a : Act} {w : World} {Q : Exit → Act → World → Prop} (hgd : op.guard = none) (T : TypeId) (x y : Operand) (ho : op.op = .store T x y) (hd : op.dst = none) (g : Nat) (hx : a.eval x = .pointer (some ⟨g, 0, none⟩))
    (full L : List Value) (t : TypeId) (hy : a.eval y = .agg full.toArray) (hg : w.heap[g]? = some (.cells L.toArray t (0, 0))) (hl : full.length = L.length) (hi : (P.info? T).map (·.size) = some full.length) (h1 : ∀ v ∈ full, v.oneCell' = true)
    (h : ∀ w', w'.heap[g]? = some (.cells full.toArray t (0, 0)) → Chg g (g + 1) w w' → wpList P ops Q rest a w') : wpList P ops Q (op :: rest) a w :=
  wpList_plain hgd fun _ hK => wp_store_row T x y ho hd g hx full L t hy hg hl hi h1 (fun w' h2 h3 => hK _ _ (h w' h2 h3))

end Go.Proofs.Ytmfcaiadcmgjbaa

namespace Go.Proofs.Ytmfcaiadcmgjbaa
open Go.RowKit

theorem row_view {w : World} {b : Nat} {xs : List Int} {t : TypeId} (h : w.heap[b]? = some (.cells (xs.map (Value.int .u8)).toArray t (0, 0))) (o n cap : Nat) (hn : o + n ≤ xs.length) (hl : xs.length ≤ 1048576) (hc : n ≤ cap) : View w b (b + 1) .u8 (.slice (some ⟨b, o, none⟩) n cap) ((xs.drop o).take n) := by
  have hlen : ((xs.drop o).take n).length = n := by rw [List.length_take, List.length_drop]; omega
  refine ⟨_, cap, by rw [hlen], by rw [hlen]; omega, ⟨by rw [hlen]; exact hc, by simp⟩, Or.inr ⟨b, o, rfl, Nat.le_refl _, Nat.lt_succ_self _, fun i hi => ?_⟩⟩
  rw [hlen] at hi
  simp only [World.cell?, h, List.getElem?_toArray, List.getElem?_map, List.getD_eq_getElem?_getD, List.getElem?_take, List.getElem?_drop, if_pos hi]
  rw [List.getElem?_eq_getElem (show o + i < xs.length by omega)]
  rfl

theorem row_rng {w : World} {b : Nat} {cs : List Value} {t : TypeId} (h : w.heap[b]? = some (.cells cs.toArray t (0, 0))) : w.rangeAt b 0 cs := by
  intro j v hj
  rw [Nat.zero_add]
  simp [World.cell?, h, hj]

/-- 64 cells that bear 0, kept closed. -/
@[irreducible] def Z64 : List Value := [.int .u8 0, .int .u8 0, .int .u8 0, .int .u8 0, .int .u8 0, .int .u8 0, .int .u8 0, .int .u8 0, .int .u8 0, .int .u8 0, .int .u8 0, .int .u8 0, .int .u8 0, .int .u8 0, .int .u8 0, .int .u8 0, .int .u8 0, .int .u8 0, .int .u8 0, .int .u8 0, .int .u8 0, .int .u8 0, .int .u8 0, .int .u8 0, .int .u8 0, .int .u8 0, .int .u8 0, .int .u8 0, .int .u8 0, .int .u8 0, .int .u8 0, .int .u8 0, .int .u8 0, .int .u8 0, .int .u8 0, .int .u8 0, .int .u8 0, .int .u8 0, .int .u8 0, .int .u8 0, .int .u8 0, .int .u8 0, .int .u8 0, .int .u8 0, .int .u8 0, .int .u8 0, .int .u8 0, .int .u8 0, .int .u8 0, .int .u8 0, .int .u8 0, .int .u8 0, .int .u8 0, .int .u8 0, .int .u8 0, .int .u8 0, .int .u8 0, .int .u8 0, .int .u8 0, .int .u8 0, .int .u8 0, .int .u8 0, .int .u8 0, .int .u8 0]

theorem Z64_eq : (#[.int .u8 0, .int .u8 0, .int .u8 0, .int .u8 0, .int .u8 0, .int .u8 0, .int .u8 0, .int .u8 0, .int .u8 0, .int .u8 0, .int .u8 0, .int .u8 0, .int .u8 0, .int .u8 0, .int .u8 0, .int .u8 0, .int .u8 0, .int .u8 0, .int .u8 0, .int .u8 0, .int .u8 0, .int .u8 0, .int .u8 0, .int .u8 0, .int .u8 0, .int .u8 0, .int .u8 0, .int .u8 0, .int .u8 0, .int .u8 0, .int .u8 0, .int .u8 0, .int .u8 0, .int .u8 0, .int .u8 0, .int .u8 0, .int .u8 0, .int .u8 0, .int .u8 0, .int .u8 0, .int .u8 0, .int .u8 0, .int .u8 0, .int .u8 0, .int .u8 0, .int .u8 0, .int .u8 0, .int .u8 0, .int .u8 0, .int .u8 0, .int .u8 0, .int .u8 0, .int .u8 0, .int .u8 0, .int .u8 0, .int .u8 0, .int .u8 0, .int .u8 0, .int .u8 0, .int .u8 0, .int .u8 0, .int .u8 0, .int .u8 0, .int .u8 0] : Array Value) = Z64.toArray := by unfold Z64; rfl

theorem Z64_length : Z64.length = 64 := by unfold Z64; rfl

theorem Z64_one : ∀ v ∈ Z64, v.oneCell' = true := by
  intro v hv
  have : v = .int .u8 0 := by
    have h : Z64 = List.replicate 64 (.int .u8 0) := by unfold Z64; rfl
    rw [h] at hv
    exact List.eq_of_mem_replicate hv
  rw [this]; rfl

theorem View.cellAt' {w : World} {lo hi g n cap : Nat} {xs : List Int} (h : View w lo hi .u8 (.slice (some ⟨g, 0, none⟩) n cap) xs) (i : Nat) (hi : i < xs.length) : w.cell? ⟨g, i, none⟩ = some (.int .u8 (xs.getD i 0)) := by
  obtain ⟨_, _, e, _, _, h⟩ := h
  simp only [Value.slice.injEq] at e
  rcases h with h | ⟨b, off, ha, _, _, h3⟩
  · rw [h] at hi; simp at hi
  · rw [← e.1] at ha
    cases ha
    have := h3 i hi
    rwa [Nat.zero_add] at this

theorem results_one {P : Program} {fn : Func} {p : Tmp} {ty : TypeId} {w : World} {tmps : Array Value} {a : Addr} {v : Value} (h : fn.results = #[.cell p ty]) (ht : tmps.getD p undef = .pointer (some a)) (hl : (loadVar ty a).run P w = .ok v w) :
    (results fn tmps).run P w = .ok v w := by
  have ht' : tmps[p]?.getD undef = .pointer (some a) := by simpa using ht
  simp only [results, h]
  simp [asAddr, ht', hl]

end Go.Proofs.Ytmfcaiadcmgjbaa

namespace Go.Proofs.Ytmfcaiadcmgjbaa
open Go.RowKit

theorem OwnB.same {w w' : World} {base : Nat} {e : TypeId} {v : Value} {xs : List Int} (h : OwnB w base e v xs) (hs : ∀ j, v.ownBlock = some j → w'.heap[j]? = w.heap[j]?) : OwnB w' base e v xs := by
  obtain ⟨h1, h2⟩ := h
  refine ⟨h1, ?_⟩
  rcases h2 with h2 | ⟨g, cap, cur, hv, hg, hh, r⟩
  · exact Or.inl h2
  · exact Or.inr ⟨g, cap, cur, hv, hg, (hs g (by rw [hv]; rfl)).trans hh, r⟩

theorem row_elem' {w : World} {base : Nat} {e : TypeId} {size n : Nat} {v : Value} {xs : List Value} (h : w.ownsRow base e size v n xs) {j : Nat} (hj : v.ownBlock = some j) : ∃ cur, w.heap[j]? = some (.cells cur e (0, 0)) := by
  rcases h.2 with ⟨h', _⟩ | ⟨g', cap', cur, h', hb, hg, _⟩
  · rw [h'] at hj; cases hj
  · rw [h'] at hj; cases hj; exact ⟨cur, hg⟩

theorem cells_ne {w : World} {i j : Nat} {c c' : Array Value} {t t' : TypeId} (h : w.heap[i]? = some (.cells c t (0, 0))) (h' : w.heap[j]? = some (.cells c' t' (0, 0))) (ht : t ≠ t') : i ≠ j := by
  intro e
  rw [e, h'] at h
  simp only [Option.some.injEq, Obj.cells.injEq] at h
  exact ht h.2.1.symm

end Go.Proofs.Ytmfcaiadcmgjbaa

namespace Go.Proofs.Ytmfcaiadcmgjbaa
section
variable {P : Program} {md : Region.Mode} {ops : Array Oper} {Q : Exit → Act → World → Prop} {S : World → Prop}

/-! The same with a condition that is kept throughout. -/
theorem held_region (S : World → Prop) {id : Nat} {a : Act} {w : World} (hm : P.follows .mixedOrders = true)
    (h : wpAnyH P .any ops (NoPanic Q) S ops.size (Array.replicate ops.size false) a w.drew) : (Code.region id ops true).wp P Q a w :=
  wp_region_noPanic (wp_region_any hm (wpAny_of_held _ _ _ _ h))

theorem held_take (i : Nat) {oi : Oper} (v : Value) {fuel : Nat} {listed : Array Bool} {a : Act} {w : World} (hi : ops[i]? = some oi)
    (hs : Region.noSelect ops = true) (hf : Region.free md ops listed i = true) (hr : (Region.ready md ops listed).contains i = true)
    (hQ : ∀ c a w, Q (.panic c) (a.put oi.dst v) w → Q (.panic c) a w) (hy : YieldsIf P ops S oi v a) (hS : S w)
    (h : wpAnyH P md ops Q S fuel (listed.setIfInBounds i true) (a.put oi.dst v) w) : wpAnyH P md ops Q S (fuel + 1) listed a w :=
  wpAnyH_take hi hs hf hr hQ hy hS h

theorem held_one (i : Nat) {o : Oper} {fuel : Nat} {listed : Array Bool} {a : Act} {w : World} (hi : ops[i]? = some o) (hw : o.guard = none) (hr : Region.ready md ops listed = [i])
    (h : o.wp P a w (fun a' w' => S w' ∧ wpAnyH P md ops Q S fuel (listed.setIfInBounds i true) a' w') Q) : wpAnyH P md ops Q S (fuel + 1) listed a w := by
  refine ⟨fun h0 => (by rw [hr] at h0; cases h0), fun j hj => ?_⟩
  rw [hr] at hj
  obtain rfl := List.mem_singleton.1 hj
  unfold wpOp
  simp only [hi]
  rw [if_pos (by simp [Region.wanted, hw])]
  exact .inl h

/-- Two are ready: either comes first. -/
theorem held_two (i j : Nat) {o o' : Oper} {fuel : Nat} {listed : Array Bool} {a : Act} {w : World} (hi : ops[i]? = some o) (hw : o.guard = none) (hj : ops[j]? = some o') (hw' : o'.guard = none) (hr : Region.ready md ops listed = [i, j])
    (h : o.wp P a w (fun a' w' => S w' ∧ wpAnyH P md ops Q S fuel (listed.setIfInBounds i true) a' w') Q)
    (h' : o'.wp P a w (fun a' w' => S w' ∧ wpAnyH P md ops Q S fuel (listed.setIfInBounds j true) a' w') Q) : wpAnyH P md ops Q S (fuel + 1) listed a w := by
  refine ⟨fun h0 => (by rw [hr] at h0; cases h0), fun k hk => ?_⟩
  rw [hr] at hk
  simp only [List.mem_cons, List.not_mem_nil, or_false] at hk
  rcases hk with rfl | rfl
  · unfold wpOp
    simp only [hi]
    rw [if_pos (by simp [Region.wanted, hw])]
    exact .inl h
  · unfold wpOp
    simp only [hj]
    rw [if_pos (by simp [Region.wanted, hw'])]
    exact .inl h'

theorem held_done {listed : Array Bool} {a : Act} {w : World} (hr : Region.ready md ops listed = []) (h : Q .normal a w) : wpAnyH P md ops Q S 0 listed a w := ⟨hr, h⟩
end
section
variable {P : Program} {md : Region.Mode} {ops : Array Oper} {Q : Exit → Act → World → Prop} {S : World → Prop}
/-- One is ready, and is wanted. -/
theorem held_oneG (i : Nat) {o : Oper} {fuel : Nat} {listed : Array Bool} {a : Act} {w : World} (hi : ops[i]? = some o) (hw : Region.wanted o (yielded ops a.tmps) = true) (hr : Region.ready md ops listed = [i])
    (h : o.wp P a w (fun a' w' => S w' ∧ wpAnyH P md ops Q S fuel (listed.setIfInBounds i true) a' w') Q) : wpAnyH P md ops Q S (fuel + 1) listed a w := by
  refine ⟨fun h0 => (by rw [hr] at h0; cases h0), fun j hj => ?_⟩
  rw [hr] at hj
  obtain rfl := List.mem_singleton.1 hj
  unfold wpOp
  simp only [hi]
  rw [if_pos hw]
  exact .inl h
end

end Go.Proofs.Ytmfcaiadcmgjbaa

namespace Go.Proofs.Ytmfcaiadcmgjbaa
section
variable {P : Program} {md : Region.Mode} {ops : Array Oper} {Q : Exit → Act → World → Prop} {S : World → Prop} {z : Nat}

/-- Whatever may come up comes up; behind it S holds, unless it is number z. -/
def wpAnyW (P : Program) (md : Region.Mode) (ops : Array Oper) (Q : Exit → Act → World → Prop) (S : World → Prop) (z : Nat) : Nat → Array Bool → Act → World → Prop
  | 0, listed, a, w => Region.ready md ops listed = [] ∧ Q .normal a w
  | fuel + 1, listed, a, w => (Region.ready md ops listed = [] → Q .normal a w) ∧
    ∀ i ∈ Region.ready md ops listed, wpOp P ops Q i (fun a' w' => (i ≠ z → S w') ∧ wpAnyW P md ops Q S z fuel (listed.setIfInBounds i true) a' w') a w

theorem wpAny_of_weak : ∀ (fuel : Nat) (listed : Array Bool) (a : Act) (w : World), wpAnyW P md ops Q S z fuel listed a w → wpAny P md ops Q fuel listed a w
  | 0, _, _, _, h => h
  | fuel + 1, _, _, _, h => ⟨h.1, fun i hi => wpOp_mono (fun a' w' h' => wpAny_of_weak fuel _ a' w' h'.2) (h.2 i hi)⟩

theorem weak_first {i : Nat} {oi : Oper} {v : Value} (hi : ops[i]? = some oi) (hsel : Region.noSelect ops = true) (hz : Region.waitsFor md ops z i = true)
    (hQ : ∀ c a w, Q (.panic c) (a.put oi.dst v) w → Q (.panic c) a w) : ∀ (fuel : Nat) (listed : Array Bool) (a : Act) (w : World),
      (∀ j oj, ops[j]? = some oj → j ≠ i → listed.getD j true = false → (∀ e ∈ oj.after, Region.binds md e = true → e.on ≠ i) → oi.apart ops oj = true) →
      i ∈ Region.ready md ops listed → YieldsIf P ops S oi v a → S w →
      wpAnyW P md ops Q S z fuel (listed.setIfInBounds i true) (a.put oi.dst v) w → wpAnyW P md ops Q S z (fuel + 1) listed a w
  | 0, listed, a, w, _, hr, hy, hS, H => by
    refine ⟨fun h => absurd hr (by rw [h]; simp), fun j hj => ?_⟩
    rcases Nat.decEq j i with hji | hji
    · exact absurd (ready_mono hj hji) (by rw [H.1]; simp)
    · subst hji; exact hy.wpOp hi hS ⟨fun _ => hS, H⟩
  | fuel + 1, listed, a, w, hfree, hr, hy, hS, H => by
    refine ⟨fun h => absurd hr (by rw [h]; simp), fun j hj => ?_⟩
    rcases Nat.decEq j i with hji | hji
    · obtain ⟨hjun, oj, hoj, hall⟩ := mem_ready.1 hj
      have hi0 := (mem_ready.1 hr).1
      have hnot : ∀ e ∈ oj.after, Region.binds md e = true → e.on ≠ i := by
        intro e he hb heq
        have h1 := hall e he hb
        rw [heq] at h1
        simp only [Array.getD_eq_getD_getElem?] at h1 hi0
        cases hx : listed[i]? with
        | none => rw [hx] at h1; simp at h1
        | some b => rw [hx] at h1 hi0; simp at h1 hi0; rw [h1] at hi0; cases hi0
      have h2 := wpOp_putIf hoj (hfree j oj hoj hji hjun hnot) (fun cs b => Region.noSelect_spec hsel i oi cs b hi) (fun cs b => Region.noSelect_spec hsel j oj cs b hoj) hQ hy (H.2 j (ready_mono hj hji))
      have hri := ready_mono hr (Ne.symm hji)
      refine wpOp_mono (fun a' w' h3 => ?_) h2
      obtain ⟨hy', hS', H'⟩ := h3
      rw [Array.setIfInBounds_comm _ _ (Ne.symm hji)] at H'
      have hSw : S w' := hS' (by
        intro e
        obtain ⟨oz, h1, e', h2, h3, h4⟩ := Region.waitsFor_spec hz
        rw [← e, hoj] at h1
        cases h1
        exact hnot e' h2 h3 h4)
      refine ⟨fun _ => hSw, weak_first hi hsel hz hQ fuel (listed.setIfInBounds j true) a' w' ?_ hri hy' hSw H'⟩
      intro k ok hk hki hun hno
      refine hfree k ok hk hki ?_ hno
      by_cases hjk : j = k
      · subst hjk; exact hjun
      · rw [getD_set_ne true hjk] at hun; exact hun
    · subst hji; exact hy.wpOp hi hS ⟨fun _ => hS, H⟩

/-- Take number i first. -/
theorem weak_take (i : Nat) {oi : Oper} (v : Value) {fuel : Nat} {listed : Array Bool} {a : Act} {w : World} (hi : ops[i]? = some oi)
    (hs : Region.noSelect ops = true) (hz : Region.waitsFor md ops z i = true) (hf : Region.free md ops listed i = true) (hr : (Region.ready md ops listed).contains i = true)
    (hQ : ∀ c a w, Q (.panic c) (a.put oi.dst v) w → Q (.panic c) a w) (hy : YieldsIf P ops S oi v a) (hS : S w)
    (h : wpAnyW P md ops Q S z fuel (listed.setIfInBounds i true) (a.put oi.dst v) w) : wpAnyW P md ops Q S z (fuel + 1) listed a w :=
  weak_first hi hs hz hQ fuel listed a w (Region.free_spec hi hf) (by simpa using hr) hy hS h

/-- One alone may come up. -/
theorem weak_one (i : Nat) {o : Oper} {fuel : Nat} {listed : Array Bool} {a : Act} {w : World} (hi : ops[i]? = some o) (hw : o.guard = none) (hr : Region.ready md ops listed = [i])
    (h : o.wp P a w (fun a' w' => (i ≠ z → S w') ∧ wpAnyW P md ops Q S z fuel (listed.setIfInBounds i true) a' w') Q) : wpAnyW P md ops Q S z (fuel + 1) listed a w := by
  refine ⟨fun h0 => (by rw [hr] at h0; cases h0), fun j hj => ?_⟩
  rw [hr] at hj
  obtain rfl := List.mem_singleton.1 hj
  unfold wpOp
  simp only [hi]
  rw [if_pos (by simp [Region.wanted, hw])]
  exact .inl h

theorem weak_done {listed : Array Bool} {a : Act} {w : World} (hr : Region.ready md ops listed = []) (h : Q .normal a w) : wpAnyW P md ops Q S z 0 listed a w := ⟨hr, h⟩

theorem weak_region (z : Nat) (S : World → Prop) {id : Nat} {a : Act} {w : World} (hm : P.follows .mixedOrders = true)
    (h : wpAnyW P .any ops (NoPanic Q) S z ops.size (Array.replicate ops.size false) a w.drew) : (Code.region id ops true).wp P Q a w :=
  wp_region_noPanic (wp_region_any hm (wpAny_of_weak _ _ _ _ h))
end

/-- An operation that gives a value. -/
theorem wp_given {P : Program} {o : Oper} {a : Act} {w w' : World} {K : Act → World → Prop} {Q : Exit → Act → World → Prop} {v : Value} (hrun : (execOp a.eval o).run P w = .ok (.value v) w') (h : K (a.put o.dst v) w') : o.wp P a w K Q := by
  unfold Oper.wp
  rw [hrun]
  exact h

theorem wp_enter {P : Program} {o : Oper} {a : Act} {w : World} {K : Act → World → Prop} {Q : Exit → Act → World → Prop} (f : FuncId) (args : Array Value) (hrun : (execOp a.eval o).run P w = .ok (.enter f args) w)
    {R : Ending → World → Prop} (hc : Calls P f args w R) (h : ∀ e w', R e w' → ∃ v, e = .returned v ∧ K (a.put o.dst v) w') : o.wp P a w K Q := by
  unfold Oper.wp
  rw [hrun, Oper.upon_enter]
  refine hc.mono fun e w' hR => ?_
  obtain ⟨v, rfl, hK⟩ := h e w' hR
  exact hK

end Go.Proofs.Ytmfcaiadcmgjbaa
