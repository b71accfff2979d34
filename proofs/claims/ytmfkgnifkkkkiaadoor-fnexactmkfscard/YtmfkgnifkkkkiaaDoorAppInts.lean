/- Several short texts in one: GoodBlk, InoSpec, AppInts. -/
import Derived.Test.YtmfkgnifkkkkiaaDoorRows
import Derived.Test.YtmfkgnifkkkkiaaDoorMem
import Derived.Test.YtmfkgnifkkkkiaaDoorFlat
import Derived.Deep.DeepCutAuto
namespace Go.Proofs.YtmfkgnifkkkkiaaDoor
open Go.RowKit

set_option maxHeartbeats 400000 in
theorem l3GoodBlock_calls (w : World) (v : Int) : Calls Tryd.prog 61 #[.int .i64 v] w fun e w' => e = .returned (.bool (decide (0 ≤ v) && decide (v < 2048))) ∧ w' = w := by
  by_cases h1 : 0 ≤ v
  · by_cases h2 : v < 2048
    · rw [decide_eq_true h1, decide_eq_true h2]
      go_enter Tryd.func61, Tryd.ntmps61
      go_wp2
      go_ret
      exact ⟨rfl, rfl⟩
    · rw [decide_eq_true h1, decide_eq_false h2]
      go_enter Tryd.func61, Tryd.ntmps61
      go_wp2
      go_ret
      exact ⟨rfl, rfl⟩
  · rw [decide_eq_false h1]
    go_enter Tryd.func61, Tryd.ntmps61
    go_wp2
    go_ret
    exact ⟨rfl, rfl⟩

end Go.Proofs.YtmfkgnifkkkkiaaDoor

namespace Go.Proofs.YtmfkgnifkkkkiaaDoor
open Go.RowKit

/-- An inode: kind, links, size, direct blocks, the indirect one. -/
structure Ino where
  kind : Int
  links : Int
  size : Int
  dir : List Int
  ind : Int

abbrev inoV (i : Ino) (ao : Option Addr) (cap : Nat) : Value := .agg #[.int .i64 i.kind, .int .i64 i.links, .int .i64 i.size, .slice ao i.dir.length cap, .int .i64 i.ind]
abbrev inoO (t : TypeId) (i : Ino) (ao : Option Addr) (cap : Nat) : Obj := .cells #[.int .i64 i.kind, .int .i64 i.links, .int .i64 i.size, .slice ao i.dir.length cap, .int .i64 i.ind] t
theorem ino_all {w : World} {s : Nat} {a b c d e : Value} {t : TypeId} (h : w.heap[s]? = some (.cells #[a, b, c, d, e] t (0, 0))) :
    (w.cell? ⟨s, 0, none⟩ = some a ∧ w.cell? ⟨s, 1, none⟩ = some b ∧ w.cell? ⟨s, 2, none⟩ = some c ∧ w.cell? ⟨s, 3, none⟩ = some d ∧ w.cell? ⟨s, 4, none⟩ = some e) ∧
      w.frozen? ⟨s, 0, none⟩ = false ∧ w.frozen? ⟨s, 1, none⟩ = false ∧ w.frozen? ⟨s, 2, none⟩ = false ∧ w.frozen? ⟨s, 3, none⟩ = false ∧ w.frozen? ⟨s, 4, none⟩ = false := by
  simp [World.cell?, World.frozen?, h]

end Go.Proofs.YtmfkgnifkkkkiaaDoor

namespace Go.Proofs.YtmfkgnifkkkkiaaDoor
open Go.RowKit

/-- append(s, x...), s one's own numbers, x seen in memory and not empty. -/
theorem wp_app_ints {o : Oper} {a : Act} {w : World} {K : Act → World → Prop} {Q : Exit → Act → World → Prop} (s x : Operand)
    (ho : o.op = .call { callee := .builtin .append, args := #[s, x], argTypes := #[49, 49] })
    (base : Nat) (sv : Value) (xs : List Int) (hs : a.eval s = sv) (hO : OwnI w base 2 sv xs) (hbase : base ≤ w.heap.size) (lo hi : Nat) (xv : Value) (ys : List Int) (hx : a.eval x = xv) (hv : View w lo hi .i64 xv ys) (hy : 0 < ys.length) (hl : xs.length + ys.length ≤ 1048576)
    (h : ∀ v' w', OwnI w' base 2 v' (xs ++ ys) → Chg base w.heap.size w w' → K (a.put o.dst v') w') : o.wp Tryd.prog a w K Q := by
  obtain ⟨i, hi, hz0, hz1, hz2⟩ := info_parts Tryd.infoI
  obtain ⟨ao, cap, rfl, _, _, hcell⟩ := hv
  obtain ⟨b, off, rfl, hc⟩ : ∃ b off, ao = some ⟨b, off, none⟩ ∧ ∀ i, i < ys.length → w.cell? ⟨b, off + i, none⟩ = some (.int .i64 (ys.getD i 0)) := by
    rcases hcell with e | ⟨b, off, e, _, _, h3⟩
    · rw [e] at hy; simp at hy
    · exact ⟨b, off, e, h3⟩
  have HNW : ∀ j u, (ys.map (Value.int .i64))[j]? = some u → w.cell? ((⟨b, off, none⟩ : Addr).add j) = some u := by
    intro j u hj
    have hjl : j < ys.length := by have := (List.getElem?_eq_some_iff.1 hj).1; simpa using this
    rw [Go.WideShapes.add_plain, hc j hjl, ← hj]
    simp [List.getD_eq_getElem?_getD, hjl]
  have hrow : w.ownsRow base 2 1 sv xs.length (xs.map (Value.int .i64)) := hO
  refine wp_append_own _ s x 49 ho base 2 i (.int .i64 0) 1 8 Tryd.underlying49 hi hz0 hz1 hz2 rfl (by decide) sv xs.length (xs.map (Value.int .i64)) hs hrow ⟨b, off, none⟩ ys.length cap (ys.map (Value.int .i64)) hx (by simp) HNW ?_ (by unfold maxLen; omega) (by omega) hbase ?_
  · intro u hu
    obtain ⟨y, _, rfl⟩ := List.mem_map.1 hu
    rfl
  · intro v' w2 hown hgrow _
    refine h v' w2 ?_ (Chg.ofGrown hgrow (fun k hk _ => World.ownsRow.lt hrow k hk))
    unfold OwnI
    rw [List.length_append, List.map_append]
    exact hown

theorem wpList_app_ints {ops : Array Oper} {rest : List Oper} {o : Oper} {a : Act} {w : World} {Q : Exit → Act → World → Prop} (hgd : o.guard = none) (s x : Operand)
    (ho : o.op = .call { callee := .builtin .append, args := #[s, x], argTypes := #[49, 49] })
    (base : Nat) (sv : Value) (xs : List Int) (hs : a.eval s = sv) (hO : OwnI w base 2 sv xs) (hbase : base ≤ w.heap.size) (lo hi : Nat) (xv : Value) (ys : List Int) (hx : a.eval x = xv) (hv : View w lo hi .i64 xv ys) (hy : 0 < ys.length) (hl : xs.length + ys.length ≤ 1048576)
    (h : ∀ v' w', OwnI w' base 2 v' (xs ++ ys) → Chg base w.heap.size w w' → wpList Tryd.prog ops Q rest (a.put o.dst v') w') : wpList Tryd.prog ops Q (o :: rest) a w :=
  wpList_plain hgd fun _ hK => wp_app_ints s x ho base sv xs hs hO hbase lo hi xv ys hx hv hy hl fun v' w' h1 h2 => hK _ _ (h v' w' h1 h2)

theorem OwnI.at {w : World} {base : Nat} {e : TypeId} {v : Value} {xs : List Int} (h : OwnI w base e v xs) (hn : 0 < xs.length) : ∃ g cap, v = .slice (some ⟨g, 0, none⟩) xs.length cap ∧ base ≤ g ∧ g < w.heap.size := by
  have hb := h.lt
  obtain ⟨_, h2⟩ := h
  rcases h2 with ⟨_, h0⟩ | ⟨g, cap, cur, rfl, hg, _⟩
  · omega
  · exact ⟨g, cap, rfl, hg, (hb g rfl).2⟩
theorem OwnI.cell {w : World} {base : Nat} {e : TypeId} {g n cap : Nat} {xs : List Int} (h : OwnI w base e (.slice (some ⟨g, 0, none⟩) n cap) xs) (hn : xs.length = n) (j : Nat) (hj : j < n) : w.cell? ⟨g, j, none⟩ = some (.int .i64 (xs.getD j 0)) := by
  subst hn
  rw [World.ownsRow.cellAt h j (by omega), List.getElem?_map, List.getElem?_eq_getElem hj]
  simp [List.getD_eq_getElem?_getD, List.getElem?_eq_getElem hj]
theorem OwnI.none0 (w : World) : OwnI (w.alloc (.cells #[] 2)) w.heap.size 2 (.slice (some ⟨w.heap.size, 0, none⟩) 0 0) [] := by
  have := World.ownsRow_lit (base := w.heap.size) (e := 2) (size := 1) w #[] 0 (Nat.le_refl _) (by unfold maxLen; omega) rfl
  simpa [OwnI] using this

end Go.Proofs.YtmfkgnifkkkkiaaDoor
