/- What survives, in the model: how its homes stand between the steps. -/
import Derived.Test.YtmfcaiadcmgjbaaSurvSpec
import Derived.Test.YtmfcaiadcmgjbaaSurvWith
import Derived.Test.YtmfcaiadcmgjbaaTxnL
namespace Go.Proofs.Ytmfcaiadcmgjbaa
open Go.RowKit

/-- Homes of one's own that rise. -/
def SvSt (w wr : World) (v : Value) (ps : List Wr) (n : Nat) : Prop := ∃ g cp es, v = .slice (some ⟨g, 0, none⟩) es.length cp ∧ OwnH wr w.heap.size v es ∧ SeenH wr w.heap.size es ∧ RisW es ∧ es.map (fun e => (e.1, e.2.2)) = ps ∧ es.length ≤ n ∧ Chg 0 0 w wr

theorem SvSt.new {w w0 : World} (c : Chg 0 0 w w0) : SvSt w (w0.alloc (.cells #[] 44)) (.slice (some ⟨w0.heap.size, 0, none⟩) 0 0) [] 0 :=
  ⟨_, _, [], rfl, (OwnH.nil w0).low c.size, fun _ he => (by simp at he), List.Pairwise.nil, rfl, Nat.le_refl _, c.alloc _⟩
theorem SvSt.chg {w wr : World} {v : Value} {ps : List Wr} {n : Nat} (h : SvSt w wr v ps n) {w' : World} (c : Chg 0 0 wr w') : SvSt w w' v ps n := by
  obtain ⟨g, cp, es, h1, h2, h3, h4, h5, h6, h7⟩ := h
  exact ⟨g, cp, es, h1, h2.chg c (by omega), h3.chg c (by omega), h4, h5, h6, h7.trans c⟩
theorem SvSt.slice {w wr : World} {v : Value} {ps : List Wr} {n : Nat} (h : SvSt w wr v ps n) : ∃ g m cp, v = .slice (some ⟨g, 0, none⟩) m cp := by
  obtain ⟨g, cp, es, h1, _⟩ := h; exact ⟨_, _, _, h1⟩

theorem l5Without_st {w wr : World} {v : Value} {ps : List Wr} {n : Nat} (b : Int) (h : SvSt w wr v ps n) (hn : n ≤ 70000) :
    Calls Try.prog 14 #[v, .int .i64 b] wr fun e w' => ∃ v', e = .returned v' ∧ SvSt w w' v' (woL ps b) n ∧ Chg 0 0 wr w' := by
  obtain ⟨g, cp, es, rfl, h2, h3, h4, rfl, h6, h7⟩ := h
  refine (l5Without_calls wr b (by omega) h2 h3).mono ?_
  rintro e w' ⟨g', cp', rfl, ho, c⟩
  have hl := woL_len es b
  exact ⟨_, rfl, ⟨g', cp', woL es b, rfl, ho.low h7.size, fun e he => h3.chg c (by omega) e (woL_mem he), woL_rises b h4, woL_map (fun x => x.2) es b, by omega, h7.trans c⟩, c⟩
theorem l5With_st {w wr : World} {v : Value} {ps : List Wr} {n lx hx dc : Nat} {da : Option Addr} {xs : List Int} (q : Int) (h : SvSt w wr v ps n) (hn : n ≤ 70000) (hxl : xs.length ≤ 1048576) (vx : View wr lx hx .u8 (.slice da xs.length dc) xs) :
    Calls Try.prog 15 #[v, .agg #[.int .i64 q, .slice da xs.length dc]] wr fun e w' => ∃ v', e = .returned v' ∧ SvSt w w' v' (wiL ps (q, xs)) (n + 1) ∧ Chg 0 0 wr w' := by
  obtain ⟨g, cp, es, rfl, h2, h3, h4, rfl, h6, h7⟩ := h
  refine (l5With_calls wr q (by omega) hxl h4 h2 h3 vx).mono ?_
  rintro e w' ⟨g', cp', dv, rfl, ho, hb, c⟩
  have hl := wiL_len es (q, dv, xs)
  have hz := h7.size
  refine ⟨_, rfl, ⟨g', cp', wiL es (q, dv, xs), rfl, ho.low hz, fun e he => ?_, wiL_rises _ h4, wiL_map (fun x => x.2) es (q, dv, xs), by omega, h7.trans c⟩, c⟩
  rcases wiL_mem he with r | r
  · rw [r]; exact hb.base (fun g2 hg2 => by have := (hb.lt g2 hg2).1; omega)
  · exact h3.chg c (by omega) e r

/-- How much is looked through. -/
def numT (ts : List Tx) : Nat := (ts.map fun t => t.homes.length + t.revs.length).sum
theorem numT_le (ts : List Tx) (k : Nat) : numT (ts.take k) ≤ numT ts := by
  unfold numT
  conv => rhs; rw [← List.take_append_drop k ts]
  rw [List.map_append, List.sum_append]
  omega
theorem numT_succ (ts : List Tx) (k : Nat) (h : k < ts.length) : numT (ts.take (k + 1)) = numT (ts.take k) + ((ts.getD k Tx.none).homes.length + (ts.getD k Tx.none).revs.length) := by
  unfold numT
  rw [List.take_succ_eq_append_getElem h, List.map_append, List.sum_append, List.getD_eq_getElem?_getD, List.getElem?_eq_getElem h]
  simp
/-- The answer. -/
def survO (ts : List Tx) : List Wr := if 512 < ts.length ∨ 10000 < numT ts then [] else survL ts

end Go.Proofs.Ytmfcaiadcmgjbaa
