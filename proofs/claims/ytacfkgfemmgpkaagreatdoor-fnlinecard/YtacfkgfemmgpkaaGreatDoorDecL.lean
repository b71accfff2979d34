/- Several short texts in one: DrawEn, ShelfFmt, Cells, Cells2, RowZ, DecL. -/
import Derived.Test.YtacfkgfemmgpkaaGreatDoorNameSpec
import Derived.Test.YtacfkgfemmgpkaaGreatDoorPathDrawE
import Derived.Shelf.Strconv.Itoa4
import Derived.Test.YtacfkgfemmgpkaaGreatDoorRows
import Derived.Test.YtacfkgfemmgpkaaGreatDoorMem
import Derived.Deep.MidRow
import Derived.Lib.LaidTab
import Derived.Lib.ItoaLen
import Derived.Great.BuildSlice
namespace Go.Proofs.YtacfkgfemmgpkaaGreatDoor
open Go.RowKit

/-- A source: where it lies, what it reads. -/
structure Sc where
  p : Nat
  cv : Value
  code : List Int
  lo : Nat
  hi : Nat
  sz : Nat
/-- The source stands, at most A numbers are drawn, and since w0 nothing but the source has turned. -/
structure En (S : Sc) (w0 w : World) (A : Nat) : Prop where
  src : ∃ a, a ≤ A ∧ SrcAt w S.p S.cv a S.sz
  view : View w S.lo S.hi .u8 S.cv S.code
  out : S.p < S.lo ∨ S.hi ≤ S.p
  byt : Byt S.code
  len : S.code.length ≤ 1048576
  chg : Chg S.p (S.p + 1) w0 w
  top : S.hi ≤ w0.heap.size ∧ S.p < w0.heap.size
theorem En.self {S : Sc} {w0 w : World} {A : Nat} (h : En S w0 w A) : En S w w A :=
  ⟨h.src, h.view, h.out, h.byt, h.len, Chg.refl _ _ _, by have := h.top; have := h.chg.size; omega⟩
theorem En.join {S : Sc} {w0 w w' : World} {A A' : Nat} (h : En S w0 w A) (k : En S w w' A') : En S w0 w' A' :=
  ⟨k.src, k.view, k.out, k.byt, k.len, h.chg.trans k.chg, h.top⟩
theorem En.mono {S : Sc} {w0 w : World} {A A' : Nat} (h : En S w0 w A) (hA : A ≤ A') : En S w0 w A' :=
  ⟨by obtain ⟨a, ha, hs⟩ := h.src; exact ⟨a, by omega, hs⟩, h.view, h.out, h.byt, h.len, h.chg, h.top⟩
/-- What turns blocks that are new since w0 alone. -/
theorem En.own {S : Sc} {w0 w w' : World} {A b r : Nat} (h : En S w0 w A) (c : Chg b r w w') (hb : w0.heap.size ≤ b) : En S w0 w' A := by
  have ht := h.top
  obtain ⟨a, ha, hs⟩ := h.src
  exact ⟨⟨a, ha, hs.chg c (by omega)⟩, h.view.chg c (by omega), h.out, h.byt, h.len, h.chg.step c (Or.inr (Or.inl hb)), ht⟩
theorem En.keep {S : Sc} {w0 w w' : World} {A : Nat} (h : En S w0 w A) (c : Chg 0 0 w w') : En S w0 w' A := by
  have ht := h.top
  obtain ⟨a, ha, hs⟩ := h.src
  exact ⟨⟨a, ha, hs.chg c (by omega)⟩, h.view.chg c (by omega), h.out, h.byt, h.len, h.chg.step c (Or.inr (Or.inr (Nat.le_refl 0))), ht⟩
theorem En.alloc {S : Sc} {w0 w : World} {A : Nat} (h : En S w0 w A) (o : Obj) : En S w0 (w.alloc o) A := h.keep (Chg.alloc (Chg.refl 0 0 w) o)
theorem En.set {S : Sc} {w0 w : World} {A : Nat} (h : En S w0 w A) {b i : Nat} (hb : w0.heap.size ≤ b) (u : Value) : En S w0 (w.setCell ⟨b, i, none⟩ u) A :=
  h.own ((Chg.refl b (b + 1) w).setCell (p := ⟨b, i, none⟩) (Or.inl ⟨Nat.le_refl _, Nat.lt_succ_self _⟩) _) hb
theorem En.size {S : Sc} {w0 w : World} {A : Nat} (h : En S w0 w A) : w0.heap.size ≤ w.heap.size := h.chg.size
theorem En.later {S : Sc} {w0 w w1 : World} {A : Nat} (h : En S w0 w A) (k : En S w1 w A) (c : Chg S.p (S.p + 1) w0 w) : En S w0 w A := ⟨k.src, k.view, k.out, k.byt, k.len, c, h.top⟩

theorem next_e {S : Sc} {w0 w : World} {A : Nat} (h : En S w0 w A) (hA : A ≤ 1000000000) (n : Int) (hn : n ≤ 9223372036854775807) :
    Calls Tryz.prog 13 #[.pointer (some ⟨S.p, 0, none⟩), .int .i64 n] w fun e w' => ∃ r : Int, e = .returned (.int .i64 r) ∧ 0 ≤ r ∧ (1 ≤ n → r < n) ∧ En S w0 w' (A + 1) := by
  obtain ⟨a, ha, hs⟩ := h.src
  refine (l1Next_calls w S.p a S.sz n hn h.byt h.len (by omega) hs h.view h.out).mono ?_
  rintro e w' ⟨rfl, hs', c⟩
  have hr := nxt_range S.code a n
  have ht := h.top
  refine ⟨_, rfl, hr.1, hr.2, ⟨a + 1, by omega, hs'⟩, h.view.chg c ?_, h.out, h.byt, h.len, h.chg.trans c, ht⟩
  have := h.out
  omega
theorem chance_e {S : Sc} {w0 w : World} {A : Nat} (h : En S w0 w A) (hA : A ≤ 1000000000) (n : Int) (hn : n ≤ 9223372036854775807) :
    Calls Tryz.prog 12 #[.pointer (some ⟨S.p, 0, none⟩), .int .i64 n] w fun e w' => ∃ b : Bool, e = .returned (.bool b) ∧ En S w0 w' (A + 1) := by
  obtain ⟨a, ha, hs⟩ := h.src
  refine (l1Chance_calls w S.p a S.sz n hn h.byt h.len (by omega) hs h.view h.out).mono ?_
  rintro e w' ⟨rfl, hs', c⟩
  have ht := h.top
  refine ⟨_, rfl, ⟨a + 1, by omega, hs'⟩, h.view.chg c ?_, h.out, h.byt, h.len, h.chg.trans c, ht⟩
  have := h.out
  omega

set_option maxRecDepth 20000 in
set_option maxHeartbeats 2000000 in
theorem l12DrawOffset_e {S : Sc} {w0 w : World} {A : Nat} (h : En S w0 w A) (hA : A ≤ 1000000) :
    Calls Tryz.prog 42 #[.pointer (some ⟨S.p, 0, none⟩)] w fun e w' => ∃ x : Int, e = .returned (.int .i64 x) ∧ En S w0 w' (A + 5) := by
  go_enter Tryz.func42, Tryz.ntmps42
  go_wp2_with (first
    | (go_at_call 13; refine (next_e (by assumption) (by omega) _ (by omega)).mono ?_; rintro e w' ⟨r, rfl, hr0, hr1, hE⟩)
    | (go_at_call 12; refine (chance_e (by assumption) (by omega) _ (by omega)).mono ?_; rintro e w' ⟨r, rfl, hE⟩))
  all_goals (go_ret; exact ⟨_, rfl, En.mono (by assumption) (by omega)⟩)

end Go.Proofs.YtacfkgfemmgpkaaGreatDoor

namespace Go.Proofs.YtacfkgfemmgpkaaGreatDoor
open Go.Shelf

def Tryz.laysM173_ren : Go.Shelf.Ren := ⟨fun | 173 => 60 | 246 => 76 | 283 => 92 | 284 => 93 | 285 => 94 | 286 => 95 | 129 => 106 | 317 => 105 | 318 => 107 | 319 => 108 | 320 => 109 | 337 => 111 | 338 => 112 | n => n, fun | 2 => 2 | 3 => 3 | 9 => 9 | 4 => 4 | 171 => 124 | 0 => 0 | 53 => 106 | 37 => 22 | 5 => 5 | 173 => 127 | 212 => 142 | 51 => 112 | 20 => 20 | 213 => 143 | 46 => 90 | 232 => 150 | 233 => 151 | n => n, fun | 17 => 5 | 18 => 6 | 19 => 7 | n => n⟩

theorem Tryz.laysM173 : Go.Proofs.LaysM.n173 Tryz.prog Tryz.laysM173_ren := {
  mixed := by kernel_rfl
  f129 := Tryz.func106.trans (congrArg some (by kernel_rfl))
  f173 := Tryz.func60.trans (congrArg some (by kernel_rfl))
  f246 := Tryz.func76.trans (congrArg some (by kernel_rfl))
  f283 := Tryz.func92.trans (congrArg some (by kernel_rfl))
  f284 := Tryz.func93.trans (congrArg some (by kernel_rfl))
  f285 := Tryz.func94.trans (congrArg some (by kernel_rfl))
  f286 := Tryz.func95.trans (congrArg some (by kernel_rfl))
  f317 := Tryz.func105.trans (congrArg some (by kernel_rfl))
  f318 := Tryz.func107.trans (congrArg some (by kernel_rfl))
  f319 := Tryz.func108.trans (congrArg some (by kernel_rfl))
  f320 := Tryz.func109.trans (congrArg some (by kernel_rfl))
  f337 := Tryz.func111.trans (congrArg some (by kernel_rfl))
  f338 := Tryz.func112.trans (congrArg some (by kernel_rfl))
  t0 := Tryz.underlying0
  a0 := Tryz.isAgg0
  z0 := Tryz.sizeOf0
  v0 := Tryz.zeroValue0
  t2 := Tryz.underlying2
  a2 := Tryz.isAgg2
  z2 := Tryz.sizeOf2
  v2 := Tryz.zeroValue2
  t3 := Tryz.underlying3
  a3 := Tryz.isAgg3
  z3 := Tryz.sizeOf3
  v3 := Tryz.zeroValue3
  t4 := Tryz.underlying4
  a4 := Tryz.isAgg4
  z4 := Tryz.sizeOf4
  v4 := Tryz.zeroValue4
  t5 := Tryz.underlying5
  a5 := Tryz.isAgg5
  z5 := Tryz.sizeOf5
  v5 := Tryz.zeroValue5
  t9 := Tryz.underlying9
  a9 := Tryz.isAgg9
  z9 := Tryz.sizeOf9
  v9 := Tryz.zeroValue9
  t20 := Tryz.underlying20
  a20 := Tryz.isAgg20
  z20 := Tryz.sizeOf20
  v20 := Tryz.zeroValue20
  t37 := Tryz.underlying22
  a37 := Tryz.isAgg22
  z37 := Tryz.sizeOf22
  v37 := Tryz.zeroValue22
  t46 := Tryz.underlying90
  a46 := Tryz.isAgg90
  z46 := Tryz.sizeOf90
  v46 := Tryz.zeroValue90
  t51 := Tryz.underlying112
  a51 := Tryz.isAgg112
  z51 := Tryz.sizeOf112
  v51 := Tryz.zeroValue112
  t53 := Tryz.underlying106
  a53 := Tryz.isAgg106
  z53 := Tryz.sizeOf106
  v53 := Tryz.zeroValue106
  t171 := Tryz.underlying124
  a171 := Tryz.isAgg124
  z171 := Tryz.sizeOf124
  v171 := Tryz.zeroValue124
  t173 := Tryz.underlying127
  a173 := Tryz.isAgg127
  z173 := Tryz.sizeOf127
  v173 := Tryz.zeroValue127
  t212 := Tryz.underlying142
  a212 := Tryz.isAgg142
  z212 := Tryz.sizeOf142
  v212 := Tryz.zeroValue142
  t213 := Tryz.underlying143
  a213 := Tryz.isAgg143
  z213 := Tryz.sizeOf143
  t232 := Tryz.underlying150
  a232 := Tryz.isAgg150
  z232 := Tryz.sizeOf150
  v232 := Tryz.zeroValue150
  t233 := Tryz.underlying151
  a233 := Tryz.isAgg151
  z233 := Tryz.sizeOf151
  v233 := Tryz.zeroValue151
  g17 := by kernel_rfl
  g18 := by kernel_rfl
  g19 := by kernel_rfl
  i0 := by kernel_rfl
  i2 := by kernel_rfl
  i3 := by kernel_rfl
  i4 := by kernel_rfl
  i5 := by kernel_rfl
  i9 := by kernel_rfl
  i20 := by kernel_rfl
  i37 := by kernel_rfl
  i46 := by kernel_rfl
  i51 := by kernel_rfl
  i53 := by kernel_rfl
  i171 := by kernel_rfl
  i173 := by kernel_rfl
  i212 := by kernel_rfl
  i232 := by kernel_rfl
  i233 := by kernel_rfl
  m17 := by kernel_rfl
  m18 := by kernel_rfl
  m19 := by kernel_rfl }

end Go.Proofs.YtacfkgfemmgpkaaGreatDoor

namespace Go.Proofs.YtacfkgfemmgpkaaGreatDoor
open Go.RowKit

theorem Chg.setCells (g : Nat) : ∀ (vs : List Value) (o : Nat) (w : World), Chg g (g + 1) w (w.setCells g o vs)
  | [], _, _ => Chg.refl _ _ _
  | v :: r, o, w => (Chg.setCell (Chg.refl g (g + 1) w) (p := ⟨g, o, none⟩) (Or.inl ⟨Nat.le_refl _, Nat.lt_succ_self _⟩) v).trans (Chg.setCells g r (o + 1) _)

theorem splice_cons {α : Type} (L : List α) (o : Nat) (v : α) (r : List α) (h : o < L.length) : splice (L.set o v) (o + 1) r = splice L o (v :: r) := by
  unfold splice
  have e1 : (L.set o v).take (o + 1) = L.take o ++ [v] := by
    rw [List.take_succ_eq_append_getElem (by simpa using h), List.take_set, List.set_eq_of_length_le (by simp; omega)]
    simp
  have e2 : (L.set o v).drop (o + 1 + r.length) = L.drop (o + (v :: r).length) := by
    rw [List.drop_set_of_lt (by omega)]
    congr 1
    simp only [List.length_cons]; omega
  rw [e1, e2]
  simp

theorem heap_setCells (g : Nat) (t : TypeId) : ∀ (vs : List Value) (o : Nat) (w : World) (L : List Value), w.heap[g]? = some (.cells L.toArray t (0, 0)) → o + vs.length ≤ L.length →
    (w.setCells g o vs).heap[g]? = some (.cells (splice L o vs).toArray t (0, 0))
  | [], o, w, L, h, _ => by simpa [World.setCells, splice] using h
  | v :: r, o, w, L, h, hl => by
    have h1 : (w.setCell ⟨g, o, none⟩ v).heap[g]? = some (.cells (L.set o v).toArray t (0, 0)) := by
      have := heap_setCell_same w g o L.toArray t v h
      simpa using this
    have := heap_setCells g t r (o + 1) _ (L.set o v) h1 (by simp at *; omega)
    rw [splice_cons L o v r (by simp at hl; omega)] at this
    exact this

theorem row_there {w : World} {g : Nat} {L : List Value} {t : TypeId} (h : w.heap[g]? = some (.cells L.toArray t (0, 0))) : w.there g 0 L.length := by
  intro j hj
  rw [Nat.zero_add]
  refine ⟨?_, ?_⟩
  · simp [World.cell?, h, hj]
  · simp [World.frozen?, h]

/-- A row is written whole. -/
theorem wp_store_row {P : Program} {o : Oper} {a : Act} {w : World} {K : Act → World → Prop} {Q : Exit → Act → World → Prop} (T : TypeId) (p v : Operand) (ho : o.op = .store T p v) (hd : o.dst = none) (g : Nat) (hp : a.eval p = .pointer (some ⟨g, 0, none⟩))
    (full L : List Value) (t : TypeId) (hv : a.eval v = .agg full.toArray) (hg : w.heap[g]? = some (.cells L.toArray t (0, 0))) (hl : full.length = L.length) (hi : (P.info? T).map (·.size) = some full.length) (h1 : ∀ v ∈ full, v.oneCell' = true)
    (h : ∀ w', w'.heap[g]? = some (.cells full.toArray t (0, 0)) → Chg g (g + 1) w w' → K a w') : o.wp P a w K Q := by
  have ht : w.there g 0 full.toArray.size := by have := row_there hg; simpa [hl] using this
  refine wp_store_mid T p v ho g 0 full.toArray hp hv ht (by simpa using hi) (by rw [Array.all_eq_true_iff_forall_mem]; intro x hx; exact h1 x (by simpa using hx)) ?_
  rw [hd]
  refine h _ ?_ (Chg.setCells g _ 0 w)
  have := heap_setCells g t full 0 w L hg (by omega)
  have e : splice L 0 full = full := by
    unfold splice
    rw [List.take_zero, List.nil_append, Nat.zero_add, List.drop_of_length_le (by omega), List.append_nil]
  rw [e] at this
  exact this

end Go.Proofs.YtacfkgfemmgpkaaGreatDoor

namespace Go.Proofs.YtacfkgfemmgpkaaGreatDoor
open Go.RowKit

theorem wpList_store_row {P : Program} {ops : Array Oper} {rest : List Oper} {op : Oper} {a : Act} {w : World} {Q : Exit → Act → World → Prop} (hgd : op.guard = none) (T : TypeId) (x y : Operand) (ho : op.op = .store T x y) (hd : op.dst = none) (g : Nat) (hx : a.eval x = .pointer (some ⟨g, 0, none⟩))
    (full L : List Value) (t : TypeId) (hy : a.eval y = .agg full.toArray) (hg : w.heap[g]? = some (.cells L.toArray t (0, 0))) (hl : full.length = L.length) (hi : (P.info? T).map (·.size) = some full.length) (h1 : ∀ v ∈ full, v.oneCell' = true)
    (h : ∀ w', w'.heap[g]? = some (.cells full.toArray t (0, 0)) → Chg g (g + 1) w w' → wpList P ops Q rest a w') : wpList P ops Q (op :: rest) a w :=
  wpList_plain hgd fun _ hK => wp_store_row T x y ho hd g hx full L t hy hg hl hi h1 (fun w' h2 h3 => hK _ _ (h w' h2 h3))

end Go.Proofs.YtacfkgfemmgpkaaGreatDoor

namespace Go.Proofs.YtacfkgfemmgpkaaGreatDoor
open Go.RowKit

theorem row_view {w : World} {b : Nat} {xs : List Int} {t : TypeId} (h : w.heap[b]? = some (.cells (xs.map (Value.int .u8)).toArray t (0, 0))) (o n cap : Nat) (hn : o + n ≤ xs.length) (hl : xs.length ≤ 1048576) (hc : n ≤ cap) : View w b (b + 1) .u8 (.slice (some ⟨b, o, none⟩) n cap) ((xs.drop o).take n) := by
  have hlen : ((xs.drop o).take n).length = n := by rw [List.length_take, List.length_drop]; omega
  refine ⟨_, cap, by rw [hlen], by rw [hlen]; omega, ⟨by rw [hlen]; exact hc, by simp⟩, Or.inr ⟨b, o, rfl, Nat.le_refl _, Nat.lt_succ_self _, fun i hi => ?_⟩⟩
  rw [hlen] at hi
  simp only [World.cell?, h, List.getElem?_toArray, List.getElem?_map, List.getD_eq_getElem?_getD, List.getElem?_take, List.getElem?_drop, if_pos hi]
  rw [List.getElem?_eq_getElem (show o + i < xs.length by omega)]
  rfl

theorem row_rng {w : World} {b : Nat} {cs : List Value} {t : TypeId} (h : w.heap[b]? = some (.cells cs.toArray t (0, 0))) : w.rangeAt b 0 cs := by
  intro j v hj
  rw [Nat.zero_add]
  simp [World.cell?, h, hj]

/-- 64 cells that bear 0, kept closed. -/
def Z64 : List Value := [.int .u8 0, .int .u8 0, .int .u8 0, .int .u8 0, .int .u8 0, .int .u8 0, .int .u8 0, .int .u8 0, .int .u8 0, .int .u8 0, .int .u8 0, .int .u8 0, .int .u8 0, .int .u8 0, .int .u8 0, .int .u8 0, .int .u8 0, .int .u8 0, .int .u8 0, .int .u8 0, .int .u8 0, .int .u8 0, .int .u8 0, .int .u8 0, .int .u8 0, .int .u8 0, .int .u8 0, .int .u8 0, .int .u8 0, .int .u8 0, .int .u8 0, .int .u8 0, .int .u8 0, .int .u8 0, .int .u8 0, .int .u8 0, .int .u8 0, .int .u8 0, .int .u8 0, .int .u8 0, .int .u8 0, .int .u8 0, .int .u8 0, .int .u8 0, .int .u8 0, .int .u8 0, .int .u8 0, .int .u8 0, .int .u8 0, .int .u8 0, .int .u8 0, .int .u8 0, .int .u8 0, .int .u8 0, .int .u8 0, .int .u8 0, .int .u8 0, .int .u8 0, .int .u8 0, .int .u8 0, .int .u8 0, .int .u8 0, .int .u8 0, .int .u8 0]

theorem Z64_eq : (#[.int .u8 0, .int .u8 0, .int .u8 0, .int .u8 0, .int .u8 0, .int .u8 0, .int .u8 0, .int .u8 0, .int .u8 0, .int .u8 0, .int .u8 0, .int .u8 0, .int .u8 0, .int .u8 0, .int .u8 0, .int .u8 0, .int .u8 0, .int .u8 0, .int .u8 0, .int .u8 0, .int .u8 0, .int .u8 0, .int .u8 0, .int .u8 0, .int .u8 0, .int .u8 0, .int .u8 0, .int .u8 0, .int .u8 0, .int .u8 0, .int .u8 0, .int .u8 0, .int .u8 0, .int .u8 0, .int .u8 0, .int .u8 0, .int .u8 0, .int .u8 0, .int .u8 0, .int .u8 0, .int .u8 0, .int .u8 0, .int .u8 0, .int .u8 0, .int .u8 0, .int .u8 0, .int .u8 0, .int .u8 0, .int .u8 0, .int .u8 0, .int .u8 0, .int .u8 0, .int .u8 0, .int .u8 0, .int .u8 0, .int .u8 0, .int .u8 0, .int .u8 0, .int .u8 0, .int .u8 0, .int .u8 0, .int .u8 0, .int .u8 0, .int .u8 0] : Array Value) = Z64.toArray := by unfold Z64; rfl

theorem Z64_length : Z64.length = 64 := by unfold Z64; rfl

theorem Z64_one : ∀ v ∈ Z64, v.oneCell' = true := by
  intro v hv
  have : v = .int .u8 0 := by
    have h : Z64 = List.replicate 64 (.int .u8 0) := by unfold Z64; rfl
    rw [h] at hv
    exact List.eq_of_mem_replicate hv
  rw [this]; rfl

theorem View.cellAt' {w : World} {lo hi g n cap : Nat} {xs : List Int} (h : View w lo hi .u8 (.slice (some ⟨g, 0, none⟩) n cap) xs) (i : Nat) (hi : i < xs.length) : w.cell? ⟨g, i, none⟩ = some (.int .u8 (xs.getD i 0)) := by
  obtain ⟨_, _, e, _, _, h⟩ := h
  simp only [Value.slice.injEq] at e
  rcases h with h | ⟨b, off, ha, _, _, h3⟩
  · rw [h] at hi; simp at hi
  · rw [← e.1] at ha
    cases ha
    have := h3 i hi
    rwa [Nat.zero_add] at this

theorem results_one {P : Program} {fn : Func} {p : Tmp} {ty : TypeId} {w : World} {tmps : Array Value} {a : Addr} {v : Value} (h : fn.results = #[.cell p ty]) (ht : tmps.getD p undef = .pointer (some a)) (hl : (loadVar ty a).run P w = .ok v w) :
    (results fn tmps).run P w = .ok v w := by
  have ht' : tmps[p]?.getD undef = .pointer (some a) := by simpa using ht
  simp only [results, h]
  simp [asAddr, ht', hl]

end Go.Proofs.YtacfkgfemmgpkaaGreatDoor

namespace Go.Proofs.YtacfkgfemmgpkaaGreatDoor
open Go.RowKit Go.Lib

/-- A number as a text; a word and numbers behind it. -/
def dec (v : Int) : ByteArray := ⟨(Lib.itoa v).toArray⟩

theorem dec_small {v : Nat} (h : v < 10) : dec (v : Int) = ⟨#[UInt8.ofNat (48 + v)]⟩ := by
  unfold dec
  rw [itoa_nonneg, decDigits_one h]

theorem arr_app (a b : List UInt8) : (⟨(a ++ b).toArray⟩ : ByteArray) = (⟨a.toArray⟩ : ByteArray) ++ ⟨b.toArray⟩ := by
  apply ByteArray.ext
  rw [ByteArray.data_append]
  simp

theorem dec_big {v : Nat} (h : 10 ≤ v) : dec (v : Int) = dec ((v / 10 : Nat) : Int) ++ dec ((v % 10 : Nat) : Int) := by
  unfold dec
  rw [itoa_nonneg, itoa_nonneg, itoa_nonneg, decDigits_one (show v % 10 < 10 by omega), ← arr_app]
  conv => lhs; rw [decDigits, dif_neg (by omega)]

theorem dec_neg {v : Nat} (h : 1 ≤ v) : dec (-(v : Int)) = ⟨#[45]⟩ ++ dec (v : Int) := by
  unfold dec
  rw [itoa_neg v h, itoa_nonneg]
  have := arr_app [45] (decDigits v)
  exact this

theorem dec_negbig {v : Nat} (h : 10 ≤ v) : dec (-(v : Int)) = dec (-((v / 10 : Nat) : Int)) ++ dec ((v % 10 : Nat) : Int) := by
  rw [dec_neg (by omega), dec_neg (by omega), dec_big h]
  apply ByteArray.ext
  simp only [ByteArray.data_append, Array.append_assoc]

theorem dec_size (v : Int) (h0 : -9223372036854775808 ≤ v) (h1 : v ≤ 9223372036854775807) : (dec v).size ≤ 21 := by
  have := itoa_length_le v h0 h1
  unfold dec
  simpa [ByteArray.size] using this

/-- The table of powers stands. -/
def Pow (w : World) : Prop := Lib.TabIs Tryz.prog w "internal/strconv.uint64pow10" .u64 Lib.pow10Tab
theorem Pow.chg {w w' : World} (h : Pow w) (c : Chg 0 0 w w') : Pow w' := by
  unfold Pow Lib.TabIs at h ⊢
  have hg : Tryz.prog.globalNamed "internal/strconv.uint64pow10" = some 5 := by kernel_rfl
  simp only [World.var?, hg, Option.bind_some] at h ⊢
  have hlt : 5 < w.heap.size := by
    rcases Nat.lt_or_ge 5 w.heap.size with h' | h'
    · exact h'
    · rw [Array.getElem?_eq_none h'] at h
      cases h
  rw [c.block _ hlt (by omega)]
  exact h
theorem grow_chg (w : World) (k : Nat) (os : Array Obj) : Chg 0 0 w (Go.Sort.grow (w.drewN k) os) :=
  ⟨rfl, rfl, rfl, by simp [Go.Sort.grow, World.drewN], fun j hj _ => by
    show (w.heap ++ os)[j]? = _
    rw [Array.getElem?_append_left hj]⟩

theorem format_calls (w : World) (v : Int) (h0 : -9223372036854775808 ≤ v) (h1 : v ≤ 9223372036854775807) (hp : Pow w) : Calls Tryz.prog 60 #[.int .i64 v, .int .i64 10] w fun e w' => e = .returned (.string (dec v)) ∧ Chg 0 0 w w' := by
  refine (Any.strconv_FormatInt_10 Tryz.laysM173 v h0 h1 w hp).mono ?_
  rintro e w' ⟨he, k, os, rfl⟩
  exact ⟨he, grow_chg w k os⟩

def say (word : ByteArray) (ns : List Int) : ByteArray := ns.foldl (fun a n => a ++ (⟨#[32]⟩ ++ dec n)) word
theorem say_succ (word : ByteArray) (ns : List Int) (k : Nat) (h : k < ns.length) : say word (ns.take (k + 1)) = say word (ns.take k) ++ (⟨#[32]⟩ ++ dec (ns.getD k 0)) := by
  unfold say
  rw [List.take_add_one, List.getElem?_eq_getElem h, List.foldl_append]
  simp [List.getD_eq_getElem?_getD, h]
def In64 (ns : List Int) : Prop := ∀ n ∈ ns, -9223372036854775808 ≤ n ∧ n ≤ 9223372036854775807
theorem say_size (word : ByteArray) (ns : List Int) (hI : In64 ns) (k : Nat) (h : k ≤ ns.length) : (say word (ns.take k)).size ≤ word.size + 22 * k := by
  induction k with
  | zero => simp [say]
  | succ k ih =>
    have hm : ns.getD k 0 ∈ ns := by
      rw [List.getD_eq_getElem?_getD, List.getElem?_eq_getElem (by omega)]
      exact List.getElem_mem _
    have hd := dec_size _ (hI _ hm).1 (hI _ hm).2
    rw [say_succ _ _ _ (by omega), ByteArray.size_append, ByteArray.size_append]
    have := ih (by omega)
    have e : (⟨#[32]⟩ : ByteArray).size = 1 := rfl
    omega

end Go.Proofs.YtacfkgfemmgpkaaGreatDoor
