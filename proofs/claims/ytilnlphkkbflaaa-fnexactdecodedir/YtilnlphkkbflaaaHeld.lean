/- Several short texts in one: SzB, EntBase, FindSpec, EntTo, EntApp, Held. -/
import Derived.Test.YtilnlphkkbflaaaRows
import Derived.Test.YtilnlphkkbflaaaMem
import Derived.Deep.RegionWith
import Derived.OrdersHeld
import Derived.Deep.RegionHeld3
namespace Go.Proofs.Ytilnlphkkbflaaa
open Go.RowKit

/-- What is left of a count of at most left where n are taken: -1 if there are not so many. -/
def lft (left n : Nat) : Int := if n ≤ left then ((left - n : Nat) : Int) else -1

theorem lft_pos {left n : Nat} (h : n ≤ left) : lft left n = ((left - n : Nat) : Int) := by unfold lft; rw [if_pos h]
theorem lft_neg {left n : Nat} (h : ¬ n ≤ left) : lft left n = -1 := by unfold lft; rw [if_neg h]

end Go.Proofs.Ytilnlphkkbflaaa

namespace Go.Proofs.Ytilnlphkkbflaaa
open Go.RowKit

abbrev Ent := Int × ByteArray
def Ent.none : Ent := (0, ⟨#[]⟩)

/-- The cells of one of them. -/
def EAt (w : World) (b off : Nat) (t : Ent) : Prop := w.cell? ⟨b, off, none⟩ = some (.int .i64 t.1) ∧ w.cell? ⟨b, off + 1, none⟩ = some (.string t.2)
def EView (w : World) (lo hi : Nat) (v : Value) (ts : List Ent) : Prop :=
  ∃ ao cap, v = .slice ao ts.length cap ∧ ts.length ≤ 9223372036854775807 ∧ ts.length ≤ cap ∧
    (ts = [] ∨ ∃ b off, ao = some ⟨b, off, none⟩ ∧ lo ≤ b ∧ b < hi ∧ ∀ i, i < ts.length → EAt w b (off + i * 2) (ts.getD i Ent.none))

theorem EAt.chg {w w' : World} {l r b off : Nat} {t : Ent} (h : EAt w b off t) (c : Chg l r w w') (d : b < l ∨ r ≤ b) : EAt w' b off t := ⟨c.cell h.1 d, c.cell h.2 d⟩
theorem EView.chg {w w' : World} {lo hi l r : Nat} {v : Value} {ts : List Ent} (h : EView w lo hi v ts) (c : Chg l r w w') (d : hi ≤ l ∨ r ≤ lo ∨ r ≤ l) : EView w' lo hi v ts := by
  obtain ⟨ao, cap, hv, h1, h2, h3⟩ := h
  refine ⟨ao, cap, hv, h1, h2, ?_⟩
  rcases h3 with h3 | ⟨b, off, hao, hb, hb', h3⟩
  · exact Or.inl h3
  · exact Or.inr ⟨b, off, hao, hb, hb', fun i hi => (h3 i hi).chg c (by omega)⟩
theorem EView.slice {w : World} {lo hi : Nat} {v : Value} {ts : List Ent} (h : EView w lo hi v ts) : ∃ ao cap, v = .slice ao ts.length cap := by
  obtain ⟨ao, cap, rfl, _⟩ := h; exact ⟨ao, cap, rfl⟩
theorem EView.nil (w : World) (lo hi : Nat) : EView w lo hi (.slice none 0 0) [] := ⟨none, 0, rfl, by simp, by simp, Or.inl rfl⟩

/-- Owned. -/
def cellsE (ts : List Ent) : List Value := ts.flatMap fun t => [.int .i64 t.1, .string t.2]
theorem cellsE_len (ts : List Ent) : (cellsE ts).length = ts.length * 2 := by
  unfold cellsE
  induction ts with
  | nil => rfl
  | cons t r ih => rw [List.flatMap_cons, List.length_append, ih, List.length_cons]; simp; omega
theorem cellsE_get (ts : List Ent) : ∀ i, i < ts.length → (cellsE ts)[i * 2]? = some (.int .i64 (ts.getD i Ent.none).1) ∧ (cellsE ts)[i * 2 + 1]? = some (.string (ts.getD i Ent.none).2) := by
  unfold cellsE
  induction ts with
  | nil => intro i h; simp at h
  | cons t r ih =>
    intro i hi
    rw [List.flatMap_cons]
    cases i with
    | zero => simp
    | succ j =>
      have := ih j (by simpa using hi)
      rw [show (j + 1) * 2 = j * 2 + 2 by omega]
      simpa using this
theorem cellsE_app (a b : List Ent) : cellsE (a ++ b) = cellsE a ++ cellsE b := by unfold cellsE; rw [List.flatMap_append]
theorem cellsE_set (ts : List Ent) : ∀ i t, i < ts.length → ((cellsE ts).set (i * 2) (.int .i64 t.1)).set (i * 2 + 1) (.string t.2) = cellsE (ts.set i t) := by
  unfold cellsE
  induction ts with
  | nil => intro i t h; simp at h
  | cons u r ih =>
    intro i t hi
    cases i with
    | zero => simp
    | succ j =>
      have := ih j t (by simpa using hi)
      rw [show (j + 1) * 2 = j * 2 + 2 by omega]
      simpa using this

def OwnE (w : World) (base : Nat) (e : TypeId) (v : Value) (ts : List Ent) : Prop := w.ownsRow base e 2 v ts.length (cellsE ts)
theorem OwnE.lt {w : World} {base : Nat} {e : TypeId} {v : Value} {ts : List Ent} (h : OwnE w base e v ts) : ∀ g, v.ownBlock = some g → base ≤ g ∧ g < w.heap.size := World.ownsRow.lt h
theorem OwnE.chg {w w' : World} {base l r : Nat} {e : TypeId} {v : Value} {ts : List Ent} (h : OwnE w base e v ts) (c : Chg l r w w') (d : ∀ g, v.ownBlock = some g → g < l ∨ r ≤ g) : OwnE w' base e v ts := by
  obtain ⟨h1, h2⟩ := h
  refine ⟨h1, ?_⟩
  rcases h2 with h2 | ⟨g, cap, cur, hv, hg, hh, r⟩
  · exact Or.inl h2
  · refine Or.inr ⟨g, cap, cur, hv, hg, ?_, r⟩
    rw [c.block g (Array.getElem?_eq_some_iff.1 hh).1 (d g (by rw [hv]; rfl))]; exact hh
theorem OwnE.view {w : World} {base : Nat} {e : TypeId} {v : Value} {ts : List Ent} (h : OwnE w base e v ts) (hl : ts.length ≤ 9223372036854775807) {hi : Nat} (hb : ∀ g, v.ownBlock = some g → g < hi) : EView w base hi v ts := by
  have h' := h
  obtain ⟨_, h2⟩ := h
  rcases h2 with ⟨rfl, h0⟩ | ⟨g, cap, cur, rfl, hg, hh, hc, hm, hs, ht⟩
  · obtain rfl : ts = [] := List.eq_nil_of_length_eq_zero h0
    exact EView.nil _ _ _
  · refine ⟨_, cap, rfl, hl, hc, Or.inr ⟨g, 0, rfl, hg, hb g rfl, fun i hi => ?_⟩⟩
    have := cellsE_get ts i hi
    constructor
    · rw [Nat.zero_add, World.ownsRow.cellAt h' (i * 2) (by omega)]; exact this.1
    · rw [Nat.zero_add, World.ownsRow.cellAt h' (i * 2 + 1) (by omega)]; exact this.2

/-- How much they hold. -/
def cntE (ts : List Ent) : Nat := (ts.map fun t => t.2.size + 1).sum
theorem cntE_ge (ts : List Ent) : ts.length ≤ cntE ts := by
  unfold cntE
  induction ts with
  | nil => simp
  | cons p r ih => simp at *; omega
theorem cntE_take_succ (ts : List Ent) (k : Nat) (h : k < ts.length) : cntE (ts.take (k + 1)) = cntE (ts.take k) + ((ts.getD k Ent.none).2.size + 1) := by
  unfold cntE
  rw [List.take_succ_eq_append_getElem h, List.map_append, List.sum_append_nat]
  simp [List.getD_eq_getElem?_getD, h]
theorem cntE_split (ts : List Ent) (k : Nat) : cntE ts = cntE (ts.take k) + cntE (ts.drop k) := by
  unfold cntE; rw [← List.sum_append_nat, ← List.map_append, List.take_append_drop]
theorem cntE_take_le (ts : List Ent) (k : Nat) : cntE (ts.take k) ≤ cntE ts := by have := cntE_split ts k; omega
theorem cntE_rest (ts : List Ent) (k : Nat) : cntE (ts.take k) + (ts.length - k) ≤ cntE ts := by
  have h1 := cntE_split ts k
  have h2 := cntE_ge (ts.drop k)
  rw [List.length_drop] at h2
  omega
theorem cntE_at {ts : List Ent} {k : Nat} (h : k < ts.length) : (ts.getD k Ent.none).2.size ≤ cntE ts := by
  have := cntE_take_succ ts k h; have := cntE_take_le ts (k + 1); omega

/-- Each name has a size that a text may have. -/
def Sized (ts : List Ent) : Prop := ∀ i, i < ts.length → (ts.getD i Ent.none).2.size ≤ 9223372036854775807

set_option maxRecDepth 20000 in
set_option maxHeartbeats 400000 in
theorem eqEntry_calls (w : World) (q : Int) (s : ByteArray) :
    Calls Try.prog 26 #[.agg #[.int .i64 q, .string s], .agg #[.int .i64 q, .string s]] w fun e w' => e = .returned (.bool true) ∧ Chg 0 0 w w' := by
  have HC : Hid (Chg 0 0 w ((w.alloc (.cells #[.int .i64 q, .string s] 34)).alloc (.cells #[.int .i64 q, .string s] 34))) := (Chg.alloc (Chg.refl 0 0 w) _).alloc _
  have n0 : (q != q) = false := by simp
  go_enter Try.func26, Try.ntmps26
  go_wp2
  go_ret
  exact ⟨rfl, HC.out⟩

end Go.Proofs.Ytilnlphkkbflaaa

namespace Go.Proofs.Ytilnlphkkbflaaa
open Go.RowKit

/-- Where a name stands first, from place i on. -/
def findGo (ts : List Ent) (s : ByteArray) (i : Nat) : Nat → Int
  | 0 => -1
  | n + 1 => if (ts.getD i Ent.none).2.toList = s.toList then (i : Int) else findGo ts s (i + 1) n
def findD (ts : List Ent) (s : ByteArray) : Int := findGo ts s 0 ts.length

set_option maxRecDepth 20000 in
set_option maxHeartbeats 400000 in
theorem specDirFind_some (w : World) (ts : List Ent) (s : ByteArray) (ao : Option Addr) (cap : Nat) (hl : ts.length ≤ 1048576)
    (h1 : ts = [] ∨ ∃ b off, ao = some ⟨b, off, none⟩ ∧ ∀ i, i < ts.length → EAt w b (off + i * 2) (ts.getD i Ent.none)) :
    Calls Try.prog 13 #[.slice ao ts.length cap, .string s] w fun e w' => e = .returned (.int .i64 (findD ts s)) ∧ w' = w := by
  go_enter Try.func13, Try.ntmps13
  go_wp2
  go_loopw [5, 6] (fun f x wr => wr = w ∧ ∃ k : Nat, k ≤ ts.length ∧ x = .int .i64 ((k : Int) - 1) ∧ f = .int .i64 (findGo ts s k (ts.length - k))) (fun _ x _ => (intOf x + 1).toNat)
  case atStart => exact ⟨rfl, ts.length, Nat.le_refl _, by go_num, by rw [Nat.sub_self]; rfl⟩
  case round =>
    obtain ⟨rfl, k, hk, rfl, rfl⟩ := hrel
    by_cases hlt : 0 < k
    · obtain ⟨j, rfl⟩ : ∃ j, k = j + 1 := ⟨k - 1, by omega⟩
      obtain ⟨b, off, rfl, hce⟩ := h1.resolve_left (fun h => by rw [h] at hk; simp at hk)
      obtain ⟨_, c2⟩ := hce j (by omega)
      have hs : findGo ts s j (ts.length - j) = if (ts.getD j Ent.none).2.toList = s.toList then (j : Int) else findGo ts s (j + 1) (ts.length - (j + 1)) := by
        rw [show ts.length - j = (ts.length - (j + 1)) + 1 by omega]; rfl
      have hjl : (j : Int) < (ts.length : Int) := by omega
      have hj1 : ((j + 1 : Nat) : Int) - 1 = (j : Int) := by omega
      rw [hj1]
      generalize (ts.getD j Ent.none).2 = t at *
      generalize findGo ts s (j + 1) (ts.length - (j + 1)) = r at *
      clear h1 hce hj1
      by_cases he : t.toList = s.toList
      · rw [if_pos he] at hs
        have hb : (t.toList == s.toList) = true := by rw [he]; simp
        have Hs : Hid (findGo ts s j (ts.length - j) = j) := hs
        clear hs he
        go_wp2
        go_roundw
        case rel => exact ⟨trivial, j, by omega, by go_num, by rw [Hs.out]⟩
        case measure => simp [intOf]
      · rw [if_neg he] at hs
        have hb : (t.toList == s.toList) = false := by rw [beq_eq_false_iff_ne]; exact he
        have Hs : Hid (findGo ts s j (ts.length - j) = r) := hs
        clear hs he
        go_wp2
        go_roundw
        case rel => exact ⟨trivial, j, by omega, by go_num, by rw [Hs.out]⟩
        case measure => simp [intOf]
    · obtain rfl : k = 0 := by omega
      have Hs : Hid (findD ts s = findGo ts s 0 (ts.length - 0)) := rfl
      generalize findGo ts s 0 (ts.length - 0) = r at *
      clear h1
      go_wp2
      go_ret
      exact ⟨by rw [Hs.out]; rfl, rfl⟩

theorem specDirFind_calls (w : World) {lo hi : Nat} {a : Value} {ts : List Ent} (s : ByteArray) (hl : ts.length ≤ 1048576) (h1 : EView w lo hi a ts) :
    Calls Try.prog 13 #[a, .string s] w fun e w' => e = .returned (.int .i64 (findD ts s)) ∧ Chg 0 0 w w' := by
  obtain ⟨ao, cap, rfl, _, _, h1⟩ := h1
  refine (specDirFind_some w ts s ao cap hl ?_).mono fun _ _ ⟨he, hw⟩ => ⟨he, by rw [hw]; exact Chg.refl _ _ _⟩
  rcases h1 with h1 | ⟨x, off, hao, _, _, h1⟩
  · exact Or.inl h1
  · exact Or.inr ⟨x, off, hao, h1⟩

end Go.Proofs.Ytilnlphkkbflaaa

namespace Go.Proofs.Ytilnlphkkbflaaa
open Go.RowKit

theorem ent_take_set (ps : List Ent) (k : Nat) (h : k < ps.length) : (ps.take k ++ List.replicate (ps.length - k) Ent.none).set k (ps.getD k Ent.none) = ps.take (k + 1) ++ List.replicate (ps.length - (k + 1)) Ent.none := by
  have e : ps.length - k = (ps.length - (k + 1)) + 1 := by omega
  rw [e, List.replicate_succ, List.set_append]
  simp only [List.length_take, Nat.min_eq_left (Nat.le_of_lt h), Nat.lt_irrefl, if_false, Nat.sub_self, List.set_cons_zero]
  have e2 : ps.getD k Ent.none = ps[k] := by simp [List.getD_eq_getElem?_getD, h]
  rw [List.take_succ_eq_append_getElem h, List.append_assoc, e2]
  rfl

theorem OwnE.put {w : World} {base g n cap k : Nat} {e : TypeId} {ts : List Ent} (h : OwnE w base e (.slice (some ⟨g, 0, none⟩) n cap) ts) (hn : ts.length = n) (hk : k < n) (t : Ent) :
    OwnE ((w.setCell ⟨g, k * 2, none⟩ (.int .i64 t.1)).setCell ⟨g, k * 2 + 1, none⟩ (.string t.2)) base e (.slice (some ⟨g, 0, none⟩) n cap) (ts.set k t) := by
  subst hn
  have := (World.ownsRow.stored (World.ownsRow.stored h (k * 2) (.int .i64 t.1)).1 (k * 2 + 1) (.string t.2)).1
  unfold OwnE
  rw [List.length_set, ← cellsE_set ts k t hk]
  exact this

theorem Try.infoE : (Try.prog.info? 34).map (fun i => (i.zero, i.size, i.bytes)) = some (some (.agg #[.int .i64 0, .string ⟨#[]⟩]), 2, 24) := by kernel_rfl

theorem cellsE_zero (n : Nat) : (madeCells #[.int .i64 0, .string ⟨#[]⟩] (n * 2)).toList = cellsE (List.replicate n Ent.none) := by
  refine List.ext_getElem? fun j => ?_
  by_cases hj : j < n * 2
  · have h1 : j / 2 < n := by omega
    have := cellsE_get (List.replicate n Ent.none) (j / 2) (by simpa using h1)
    have hz : (List.replicate n Ent.none).getD (j / 2) Ent.none = Ent.none := by simp [List.getD_eq_getElem?_getD, h1]
    rw [hz] at this
    rcases Nat.mod_two_eq_zero_or_one j with h | h
    · rw [show j / 2 * 2 = j by omega] at this
      rw [this.1]
      simp [madeCells, hj, h, Ent.none]
    · rw [show j / 2 * 2 + 1 = j by omega] at this
      rw [this.2]
      simp [madeCells, hj, h, Ent.none]
  · rw [List.getElem?_eq_none (by simp [madeCells]; omega), List.getElem?_eq_none (by rw [cellsE_len]; simp; omega)]

set_option maxRecDepth 20000 in
set_option maxHeartbeats 1000000 in
theorem eqEntryS_some (w : World) (ts : List Ent) (b off b' off' cap cap' : Nat) (hl : ts.length ≤ 9223372036854775807)
    (h1 : ∀ i, i < ts.length → EAt w b (off + i * 2) (ts.getD i Ent.none)) (h2 : ∀ i, i < ts.length → EAt w b' (off' + i * 2) (ts.getD i Ent.none)) :
    Calls Try.prog 15 #[.slice (some ⟨b, off, none⟩) ts.length cap, .slice (some ⟨b', off', none⟩) ts.length cap'] w fun e w' => e = .returned (.bool true) ∧ Chg 0 0 w w' := by
  have hne : ((ts.length : Int) != (ts.length : Int)) = false := by simp
  go_enter Try.func15, Try.ntmps15
  go_wp2
  go_loopw [5] (fun i wr => Chg 0 0 w wr ∧ ∃ k : Nat, k ≤ ts.length ∧ i = .int .i64 k) (fun i _ => ts.length - (intOf i).toNat)
  case atStart => exact ⟨Chg.refl _ _ _, 0, Nat.zero_le _, rfl⟩
  case round =>
    obtain ⟨hch, k, hk, rfl⟩ := hrel
    by_cases hlt : k < ts.length
    · obtain ⟨c1, c2⟩ := h1 k hlt
      obtain ⟨c3, c4⟩ := h2 k hlt
      clear h1 h2
      generalize (ts.getD k Ent.none).1 = q at *
      generalize (ts.getD k Ent.none).2 = s at *
      have c1 := hch.cell c1 (by omega)
      have c2 := hch.cell c2 (by omega)
      have c3 := hch.cell c3 (by omega)
      have c4 := hch.cell c4 (by omega)
      have hi : (k : Int) < (ts.length : Int) := by omega
      have hN := eqEntry_calls wr.drew q s
      go_wp2
      go_region_with (go_at_call 26; refine hN.mono ?_; rintro e w1 ⟨rfl, hs⟩)
      all_goals
        have hch' : Chg 0 0 w w1 := hch.drew.trans hs
        clear hs hch hN
        go_wp2
        go_roundw
        case rel => exact ⟨hch', k + 1, by omega, by go_num⟩
        case measure => simp [intOf]; omega
    · clear h1 h2
      go_wp2
      go_ret
      exact ⟨rfl, hch⟩

set_option maxRecDepth 20000 in
set_option maxHeartbeats 400000 in
theorem eqEntryS_none (w : World) (ao bo : Option Addr) (cap cap' : Nat) :
    Calls Try.prog 15 #[.slice ao 0 cap, .slice bo 0 cap'] w fun e w' => e = .returned (.bool true) ∧ Chg 0 0 w w' := by
  go_enter Try.func15, Try.ntmps15
  go_wp2
  refine wp_loop_rounds 1 ?_; rw [rounds_succ]
  go_wp2
  go_ret
  exact ⟨rfl, Chg.refl _ _ _⟩

theorem eqEntryS_calls (w : World) {lo hi lo' hi' : Nat} {a b : Value} {ts : List Ent} (h1 : EView w lo hi a ts) (h2 : EView w lo' hi' b ts) :
    Calls Try.prog 15 #[a, b] w fun e w' => e = .returned (.bool true) ∧ Chg 0 0 w w' := by
  obtain ⟨ao, cap, rfl, hl, _, h1⟩ := h1
  obtain ⟨bo, cap', rfl, _, _, h2⟩ := h2
  rcases h1 with rfl | ⟨x, off, rfl, _, _, h1⟩
  · exact eqEntryS_none w ao bo cap cap'
  · rcases h2 with rfl | ⟨y, off', rfl, _, _, h2⟩
    · exact eqEntryS_none w _ bo cap cap'
    · exact eqEntryS_some w ts x off y off' cap cap' hl h1 h2

end Go.Proofs.Ytilnlphkkbflaaa

namespace Go.Proofs.Ytilnlphkkbflaaa
open Go.RowKit

/-- append of one entry. -/
theorem wpList_app_ent {ops : Array Oper} {rest : List Oper} {o : Oper} {a : Act} {w : World} {Q : Exit → Act → World → Prop} (hgd : o.guard = none) (s x : Operand)
    (ho : o.op = .call { callee := .builtin .append, args := #[s, x], argTypes := #[23, 23] }) (base : Nat) (v : Value) (ps : List Ent) (hs : a.eval s = v) (hown : OwnE w base 34 v ps)
    (b c : Nat) (p : Ent) (hx : a.eval x = .slice (some ⟨b, 0, none⟩) 1 c) (hc : EAt w b 0 p) (hk : ps.length + 1 ≤ 2097152) (hbase : base ≤ w.heap.size)
    (h : ∀ v' w', (∃ g cap, v' = .slice (some ⟨g, 0, none⟩) (ps.length + 1) cap) → OwnE w' base 34 v' (ps ++ [p]) → Chg base w.heap.size w w' → wpList Try.prog ops Q rest (a.put o.dst v') w') : wpList Try.prog ops Q (o :: rest) a w := by
  obtain ⟨i, hi, hz0, hz1, hz2⟩ := info_parts Try.infoE
  refine wpList_append_own w hgd s x 23 ho base 34 i _ 2 24 Try.underlying23 hi hz0 hz1 hz2 rfl (by omega) v ps.length _ hs hown ⟨b, 0, none⟩ 1 c [.int .i64 p.1, .string p.2] hx rfl ?_ ?_ (by unfold maxLen; omega) (by omega) hbase ?_
  · intro j u hj
    have hj2 : j < 2 := by have := (List.getElem?_eq_some_iff.1 hj).1; simpa using this
    rw [Go.WideShapes.add_plain, Nat.zero_add]
    match j, hj2 with
    | 0, _ => simp at hj; subst hj; exact hc.1
    | 1, _ => simp at hj; subst hj; exact hc.2
  · intro u hu
    simp at hu
    rcases hu with rfl | rfl <;> rfl
  · intro v' w' h1 h2 _
    refine h v' w' ?_ (by unfold OwnE; rw [List.length_append, cellsE_app]; exact h1) (Chg.ofGrown h2 (fun g hg hlt => ⟨(World.ownsRow.lt hown g hg).1, hlt⟩))
    rcases h1.2 with ⟨_, h0⟩ | ⟨g', cap', cur, e', _⟩
    · omega
    · exact ⟨g', cap', e'⟩

theorem OwnE.nil (w : World) (e : TypeId) : OwnE (w.alloc (.cells #[] e)) w.heap.size e (.slice (some ⟨w.heap.size, 0, none⟩) 0 0) [] := by
  have := World.ownsRow_lit (base := w.heap.size) (e := e) (size := 2) w #[] 0 (Nat.le_refl _) (by unfold maxLen; omega) (by simp)
  simpa [OwnE, cellsE] using this

end Go.Proofs.Ytilnlphkkbflaaa

namespace Go.Proofs.Ytilnlphkkbflaaa
section
variable {P : Program} {md : Region.Mode} {ops : Array Oper} {Q : Exit → Act → World → Prop} {S : World → Prop}

/-! The same with a condition that is kept throughout. -/
theorem held_region (S : World → Prop) {id : Nat} {a : Act} {w : World} (hm : P.follows .mixedOrders = true)
    (h : wpAnyH P .any ops (NoPanic Q) S ops.size (Array.replicate ops.size false) a w.drew) : (Code.region id ops true).wp P Q a w :=
  wp_region_noPanic (wp_region_any hm (wpAny_of_held _ _ _ _ h))

theorem held_take (i : Nat) {oi : Oper} (v : Value) {fuel : Nat} {listed : Array Bool} {a : Act} {w : World} (hi : ops[i]? = some oi)
    (hs : Region.noSelect ops = true) (hf : Region.free md ops listed i = true) (hr : (Region.ready md ops listed).contains i = true)
    (hQ : ∀ c a w, Q (.panic c) (a.put oi.dst v) w → Q (.panic c) a w) (hy : YieldsIf P ops S oi v a) (hS : S w)
    (h : wpAnyH P md ops Q S fuel (listed.setIfInBounds i true) (a.put oi.dst v) w) : wpAnyH P md ops Q S (fuel + 1) listed a w :=
  wpAnyH_take hi hs hf hr hQ hy hS h

theorem held_one (i : Nat) {o : Oper} {fuel : Nat} {listed : Array Bool} {a : Act} {w : World} (hi : ops[i]? = some o) (hw : o.guard = none) (hr : Region.ready md ops listed = [i])
    (h : o.wp P a w (fun a' w' => S w' ∧ wpAnyH P md ops Q S fuel (listed.setIfInBounds i true) a' w') Q) : wpAnyH P md ops Q S (fuel + 1) listed a w := by
  refine ⟨fun h0 => (by rw [hr] at h0; cases h0), fun j hj => ?_⟩
  rw [hr] at hj
  obtain rfl := List.mem_singleton.1 hj
  unfold wpOp
  simp only [hi]
  rw [if_pos (by simp [Region.wanted, hw])]
  exact .inl h

/-- Two are ready: either comes first. -/
theorem held_two (i j : Nat) {o o' : Oper} {fuel : Nat} {listed : Array Bool} {a : Act} {w : World} (hi : ops[i]? = some o) (hw : o.guard = none) (hj : ops[j]? = some o') (hw' : o'.guard = none) (hr : Region.ready md ops listed = [i, j])
    (h : o.wp P a w (fun a' w' => S w' ∧ wpAnyH P md ops Q S fuel (listed.setIfInBounds i true) a' w') Q)
    (h' : o'.wp P a w (fun a' w' => S w' ∧ wpAnyH P md ops Q S fuel (listed.setIfInBounds j true) a' w') Q) : wpAnyH P md ops Q S (fuel + 1) listed a w := by
  refine ⟨fun h0 => (by rw [hr] at h0; cases h0), fun k hk => ?_⟩
  rw [hr] at hk
  simp only [List.mem_cons, List.not_mem_nil, or_false] at hk
  rcases hk with rfl | rfl
  · unfold wpOp
    simp only [hi]
    rw [if_pos (by simp [Region.wanted, hw])]
    exact .inl h
  · unfold wpOp
    simp only [hj]
    rw [if_pos (by simp [Region.wanted, hw'])]
    exact .inl h'

theorem held_done {listed : Array Bool} {a : Act} {w : World} (hr : Region.ready md ops listed = []) (h : Q .normal a w) : wpAnyH P md ops Q S 0 listed a w := ⟨hr, h⟩
end
section
variable {P : Program} {md : Region.Mode} {ops : Array Oper} {Q : Exit → Act → World → Prop} {S : World → Prop}
/-- One is ready, and is wanted. -/
theorem held_oneG (i : Nat) {o : Oper} {fuel : Nat} {listed : Array Bool} {a : Act} {w : World} (hi : ops[i]? = some o) (hw : Region.wanted o (yielded ops a.tmps) = true) (hr : Region.ready md ops listed = [i])
    (h : o.wp P a w (fun a' w' => S w' ∧ wpAnyH P md ops Q S fuel (listed.setIfInBounds i true) a' w') Q) : wpAnyH P md ops Q S (fuel + 1) listed a w := by
  refine ⟨fun h0 => (by rw [hr] at h0; cases h0), fun j hj => ?_⟩
  rw [hr] at hj
  obtain rfl := List.mem_singleton.1 hj
  unfold wpOp
  simp only [hi]
  rw [if_pos hw]
  exact .inl h
end

end Go.Proofs.Ytilnlphkkbflaaa
