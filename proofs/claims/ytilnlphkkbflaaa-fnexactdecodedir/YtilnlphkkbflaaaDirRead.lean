/- Several short texts in one: SeqKit, Pieces16, DirRead. -/
import Derived.Test.YtilnlphkkbflaaaMem
import Derived.Test.YtilnlphkkbflaaaRows
import Derived.RangeFuncNested
import Derived.RangeFuncBound
import Derived.RangeFuncCalls
import Derived.RangeFuncLeaves
import Derived.RangeFuncFrom
import Derived.RangeFuncWrites
import Derived.RangeFuncBox
import Derived.Shelf.Abstract
import Derived.Shelf.RegionOpen
import Derived.OwnWalkIn
import Derived.TacticsInMore
import Derived.LoopNIn
import Derived.LoopIn
import Derived.Maps.AppendAt
import Derived.Test.YtilnlphkkbflaaaImplFind
import Derived.Test.YtilnlphkkbflaaaEntRead
import Derived.Test.YtilnlphkkbflaaaDirDec
namespace Go.Proofs.Ytilnlphkkbflaaa
open Go.RowKit Go.Shelf
attribute [local go_sem] Oper.semAt_some

/-- What the rounds keep. -/
def KeepK (K : Nat → Prop) (W W' : World) : Prop := ∀ k, K k → W'.heap[k]? = W.heap[k]?
theorem KeepK.trans {K : Nat → Prop} {A B C : World} (h : KeepK K A B) (k : KeepK K B C) : KeepK K A C := fun i hi => (k i hi).trans (h i hi)
theorem KeepK.refl (K : Nat → Prop) (W : World) : KeepK K W W := fun _ _ => rfl
theorem KeepK.put {K : Nat → Prop} {w : World} (hK : ∀ k, K k → k < w.heap.size) (W : World) (l : Nat) (o o' : Obj) (hl : w.heap.size ≤ l) (_ : W.heap[l]? = some o) (_ : o.isCells = false) (_ : o.isWalk = false) : KeepK K W (W.putObj l o') :=
  fun k hk => World.putObj_heap_other (by have := hK k hk; omega)
theorem KeepK.cell {K : Nat → Prop} {W W' : World} (h : KeepK K W W') {p : Addr} (hp : K p.block) : W'.cell? p = W.cell? p := World.cell?_of_block (h _ hp)
theorem View.kept {K : Nat → Prop} {W W' : World} {n₀ : Nat} {k : IntKind} {v : Value} {xs : List Int} (h : View W 0 n₀ k v xs) (c : KeepK K W W') (hK : ∀ i, i < n₀ → K i) : View W' 0 n₀ k v xs := by
  obtain ⟨ao, cap, hv, hl, hc, h⟩ := h
  refine ⟨ao, cap, hv, hl, hc, ?_⟩
  rcases h with h | ⟨b, off, ha, h1, h2, h3⟩
  · exact Or.inl h
  · exact Or.inr ⟨b, off, ha, h1, h2, fun i hi => (c.cell (p := ⟨b, off + i, none⟩) (hK _ h2)).trans (h3 i hi)⟩
theorem View.here {w : World} {lo hi : Nat} {k : IntKind} {v : Value} {xs : List Int} (h : View w lo hi k v xs) : View w 0 w.heap.size k v xs := by
  obtain ⟨ao, cap, hv, hl, hc, h⟩ := h
  refine ⟨ao, cap, hv, hl, hc, ?_⟩
  rcases h with h | ⟨b, off, ha, h1, h2, h3⟩
  · exact Or.inl h
  · cases xs with
    | nil => exact Or.inl rfl
    | cons x xs => exact Or.inr ⟨b, off, ha, Nat.zero_le _, lt_of_cell (h3 0 (by simp)), h3⟩

/-- What is cells is kept where what is none is turned. -/
theorem cells_keep {A B : World} {row : Option Nat} {k : Nat} {cs : Array Value} {t : TypeId} {fr : Nat × Nat} (h : A.heap[k]? = some (.cells cs t fr)) (hg : A.grownBy B row) (hr : ∀ r, row = some r → ∃ o : Obj, A.heap[r]? = some o ∧ o.isCells = false) : B.heap[k]? = some (.cells cs t fr) := by
  refine (hg.block k (Array.getElem?_eq_some_iff.1 h).1 (fun e => ?_)).trans h
  obtain ⟨o, ho, hc⟩ := hr _ e.symm
  rw [h] at ho
  cases ho
  cases hc

theorem Chg.grown0 {w w' : World} (h : Chg 0 0 w w') : w.grownBy w' none := ⟨h.os, h.tape, h.output, h.size, fun k hk _ => h.block k hk (Or.inr (Nat.zero_le _))⟩

end Go.Proofs.Ytilnlphkkbflaaa

namespace Go.Proofs.Ytilnlphkkbflaaa
open Go.RowKit Go.Shelf
attribute [local go_sem] Oper.semAt_some

/-- Piece i of 16 bytes. -/
def encP16 (b off cap : Nat) {K : Nat} (x : Fin K) : Array Value := #[.slice (some ⟨b, off + 16 * x.val, none⟩) 16 (cap - 16 * x.val)]

set_option maxRecDepth 100000 in
set_option maxHeartbeats 2000000 in
theorem pieces16_stops (m : Nat) (_ : 1 ≤ m) (Bd Bn b off cap K : Nat) (ao : Option Addr) (hao : K = 0 ∨ ao = some ⟨b, off, none⟩) (w : World) (hK : K ≤ 4096) (hcap : 16 * K ≤ cap) (hc2 : cap ≤ 9223372036854775807)
    (hd : w.cell? ⟨Bd, 0, none⟩ = some (.slice ao (16 * K) cap)) (hn : w.cell? ⟨Bn, 0, none⟩ = some (.int .i64 16)) :
    SeqStopsK Fence.wide m Try.prog 32 #[.pointer (some ⟨Bd, 0, none⟩), .pointer (some ⟨Bn, 0, none⟩)] (encP16 b off cap (K := K)) (KeepK fun k => k = Bd ∨ k = Bn)
      (fun xs => xs.map Fin.val = List.range K) (fun pre => pre.map Fin.val = List.range pre.length) K w := fun l J Jx W hW hJ hJx hY h0 => by
  have hd2 : W.cell? ⟨Bd, 0, none⟩ = some (.slice ao (16 * K) cap) := (hW.cell (p := ⟨Bd, 0, none⟩) (lt_of_cell hd)).trans hd
  have hn2 : W.cell? ⟨Bn, 0, none⟩ = some (.int .i64 16) := (hW.cell (p := ⟨Bn, 0, none⟩) (lt_of_cell hn)).trans hn
  clear hd hn hW hJ hJx
  refine callsIn_of_wp Try.func32 rfl trivial ?_ rfl
  simp only [Try.ntmps32, List.size_toArray, List.length_cons, List.length_nil, Nat.reduceAdd, Nat.reduceSub, Array.replicate_succ, Array.replicate_zero, List.push_toArray, List.append_toArray, List.nil_append, List.cons_append]
  gi_wp2
  gi_loopw [4] (fun x wr => ∃ (i : Nat) (pre : List (Fin K)), x = .int .i64 ((16 * i : Nat) : Int) ∧ i ≤ K ∧ pre.map Fin.val = List.range i ∧ wr.cell? ⟨Bd, 0, none⟩ = some (.slice ao (16 * K) cap) ∧ wr.cell? ⟨Bn, 0, none⟩ = some (.int .i64 16) ∧ J pre wr)
    (fun x _ => 16 * K - (intOf x).toNat)
  case atStart => exact ⟨0, [], rfl, Nat.zero_le _, rfl, hd2, hn2, h0⟩
  case round =>
    clear hd2 hn2 h0
    obtain ⟨i, pre, rfl, hi, hpre, hd, hn, hJp⟩ := hrel
    have hplen : pre.length = i := by have := congrArg List.length hpre; simpa using this
    by_cases hlt : i < K
    · obtain rfl : ao = some ⟨b, off, none⟩ := hao.resolve_left (by omega)
      obtain ⟨fn, tmps, assign, body, hy, hR⟩ := hY pre ⟨i, hlt⟩ wr hJp (by omega)
      unfold encP16 at hy
      simp only at hy
      have Hpre : Hid (pre.map Fin.val = List.range i) := hpre
      obtain ⟨q, hq⟩ : ∃ q, q = 16 * i := ⟨_, rfl⟩
      obtain ⟨L, hL⟩ : ∃ L, L = 16 * K := ⟨_, rfl⟩
      have Hq : Hid (q = 16 * i) := hq
      have HLq : Hid (L = 16 * K) := hL
      have hqL : q + 16 ≤ L := by omega
      have hLb : L ≤ 262144 := by omega
      rw [← hq] at hy ⊢
      rw [← hL] at hd hcap
      have e1 : (q : Int) < (L : Int) := by omega
      have e2 : (q : Int) + 16 ≤ (L : Int) := by omega
      have e3 : (q : Int) + 16 ≤ (cap : Int) := by omega
      clear hY hpre hq hL hi hplen hao
      gi_wp2
      refine hR.mono ?_
      rintro e V (⟨rfl, hJ3, hkp⟩ | ⟨rfl, hJx3⟩)
      · have hd3 : V.cell? ⟨Bd, 0, none⟩ = some (.slice (some ⟨b, off, none⟩) L cap) := (hkp.cell (p := ⟨Bd, 0, none⟩) (Or.inl rfl)).trans hd
        have hn3 : V.cell? ⟨Bn, 0, none⟩ = some (.int .i64 16) := (hkp.cell (p := ⟨Bn, 0, none⟩) (Or.inr rfl)).trans hn
        clear hR hy hd hn hkp hJp
        gi_wp2
        go_roundw
        case rel => exact ⟨i + 1, pre ++ [⟨i, hlt⟩], by have := Hq.out; congr 1; omega, hlt, by rw [List.map_append, Hpre.out, List.range_succ]; rfl, by rw [← HLq.out]; exact hd3, hn3, hJ3⟩
        case measure => have := HLq.out; simp [intOf]; omega
      · gi_wp2
        refine bodyPost_ret (results_none rfl _ _ _) rfl ?_
        refine ⟨⟨_, rfl⟩, .inr ⟨pre ++ [⟨i, hlt⟩], ?_, hJx3⟩⟩
        have hl : pre.length = i := by have := congrArg List.length Hpre.out; simpa using this
        rw [List.map_append, Hpre.out, List.length_append, hl]
        exact List.range_succ.symm
    · obtain rfl : i = K := by omega
      have Hpre : Hid (pre.map Fin.val = List.range i) := hpre
      have e1 : ¬ (((16 * i : Nat) : Int) < ((16 * i : Nat) : Int)) := by omega
      generalize 16 * i = L at *
      clear hY hpre hplen hao
      gi_wp2
      go_end0
      exact ⟨⟨_, rfl⟩, .inl ⟨pre, Hpre.out, hJp⟩⟩

end Go.Proofs.Ytilnlphkkbflaaa

namespace Go.Proofs.Ytilnlphkkbflaaa
open Go.RowKit Go.Shelf
attribute [local go_sem] Oper.semAt_some

set_option maxHeartbeats 1000000 in
/-- pieces: its list and its number lie in two new variables. -/
theorem pieces_calls (w : World) (ao : Option Addr) (L cap : Nat) (n : Int) :
    Calls Try.prog 22 #[.slice ao L cap, .int .i64 n] w fun e w' =>
      e = .returned (.func (.func 32) #[] #[.pointer (some ⟨w.heap.size, 0, none⟩), .pointer (some ⟨w.heap.size + 1, 0, none⟩)]) ∧ w' = (w.alloc (.cells #[.slice ao L cap] 22)).alloc (.cells #[.int .i64 n] 3) := by
  have hs : (w.alloc (.cells #[.slice ao L cap] 22)).heap.size = w.heap.size + 1 := by simp
  go_enter Try.func22, Try.ntmps22
  go_wp2
  go_ret
  exact ⟨rfl, rfl⟩

theorem apart_entsTo (xs : List Int) : ∀ k, Apart (entsTo xs k) ↔ ∀ j, j < k → findD (entsTo xs j) (entAt xs j).2 < 0
  | 0 => ⟨fun _ j hj => absurd hj (Nat.not_lt_zero j), fun _ j hj => by rw [entsTo_len] at hj; exact absurd hj (Nat.not_lt_zero j)⟩
  | k + 1 => by
    rw [entsTo_succ]
    by_cases hf : findD (entsTo xs k) (entAt xs k).2 = -1
    · rw [apart_new hf, apart_entsTo xs k]
      constructor
      · intro h j hj
        by_cases e : j < k
        · exact h j e
        · obtain rfl : j = k := by omega
          omega
      · exact fun h j hj => h j (by omega)
    · constructor
      · intro h
        exact absurd h (apart_old hf)
      · intro h
        have h1 := h k (Nat.lt_succ_self k)
        rcases findD_range (entsTo xs k) (entAt xs k).2 with h2 | h2
        · exact absurd h2 hf
        · omega

theorem entG_B {ys : List Int} (h : entG ys = true) : entB (eQ ys) (eS ys) = true := by
  unfold entG at h
  simp only [Bool.and_eq_true, decide_eq_true_eq] at h
  obtain ⟨h1, _, h3⟩ := h
  cases hb : entB (eQ ys) (eS ys) with
  | true => rfl
  | false =>
    unfold encEnt at h3
    rw [hb, if_neg (by decide)] at h3
    have := congrArg List.length h3
    rw [h1] at this
    cases this
theorem entsTo_at (xs : List Int) {K k : Nat} (h : k < K) : (entsTo xs K).getD k Ent.none = entAt xs k := by
  unfold entsTo
  simp [List.getD_eq_getElem?_getD, h]
theorem dirG_okD {xs : List Int} {K : Nat} (hl : xs.length ≤ 2560) (hK : xs.length = 16 * K) (hg : ∀ k, k < K → entG (recAt xs k) = true) : okD (entsTo xs K) = dirG xs := by
  classical
  rw [Bool.eq_iff_iff, dirG_iff]
  rw [okD_iff, apart_entsTo, show xs.length / 16 = K by omega]
  constructor
  · rintro ⟨_, h2⟩
    refine ⟨by omega, hl, fun k hk => ?_⟩
    unfold okAt
    rw [hg k hk, decide_eq_true (h2 k hk)]
    rfl
  · rintro ⟨_, _, h2⟩
    refine ⟨fun k hk => ?_, fun k hk => ?_⟩
    · rw [entsTo_len] at hk
      rw [entsTo_at xs hk]
      exact entG_B (hg k hk)
    · have := h2 k hk
      unfold okAt at this
      rw [Bool.and_eq_true, decide_eq_true_eq] at this
      exact this.2

end Go.Proofs.Ytilnlphkkbflaaa
