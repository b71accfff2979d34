/- append of an entry. -/
import Derived.Test.YtpcgbnfdhjepmaaEntTo
namespace Go.Proofs.Ytpcgbnfdhjepmaa
open Go.RowKit

/-- append of one entry. -/
theorem wpList_app_ent {ops : Array Oper} {rest : List Oper} {o : Oper} {a : Act} {w : World} {Q : Exit → Act → World → Prop} (hgd : o.guard = none) (s x : Operand)
    (ho : o.op = .call { callee := .builtin .append, args := #[s, x], argTypes := #[24, 24] }) (base : Nat) (v : Value) (ps : List Ent) (hs : a.eval s = v) (hown : OwnE w base 33 v ps)
    (b c : Nat) (p : Ent) (hx : a.eval x = .slice (some ⟨b, 0, none⟩) 1 c) (hc : EAt w b 0 p) (hk : ps.length + 1 ≤ 2097152) (hbase : base ≤ w.heap.size)
    (h : ∀ v' w', (∃ g cap, v' = .slice (some ⟨g, 0, none⟩) (ps.length + 1) cap) → OwnE w' base 33 v' (ps ++ [p]) → Chg base w.heap.size w w' → wpList Try.prog ops Q rest (a.put o.dst v') w') : wpList Try.prog ops Q (o :: rest) a w := by
  obtain ⟨i, hi, hz0, hz1, hz2⟩ := info_parts Try.infoE
  refine wpList_append_own w hgd s x 24 ho base 33 i _ 2 24 Try.underlying24 hi hz0 hz1 hz2 rfl (by omega) v ps.length _ hs hown ⟨b, 0, none⟩ 1 c [.int .i64 p.1, .string p.2] hx rfl ?_ ?_ (by unfold maxLen; omega) (by omega) hbase ?_
  · intro j u hj
    have hj2 : j < 2 := by have := (List.getElem?_eq_some_iff.1 hj).1; simpa using this
    rw [Go.WideShapes.add_plain, Nat.zero_add]
    match j, hj2 with
    | 0, _ => simp at hj; subst hj; exact hc.1
    | 1, _ => simp at hj; subst hj; exact hc.2
  · intro u hu
    simp at hu
    rcases hu with rfl | rfl <;> rfl
  · intro v' w' h1 h2 _
    refine h v' w' ?_ (by unfold OwnE; rw [List.length_append, cellsE_app]; exact h1) (Chg.ofGrown h2 (fun g hg hlt => ⟨(World.ownsRow.lt hown g hg).1, hlt⟩))
    rcases h1.2 with ⟨_, h0⟩ | ⟨g', cap', cur, e', _⟩
    · omega
    · exact ⟨g', cap', e'⟩

theorem OwnE.nil (w : World) (e : TypeId) : OwnE (w.alloc (.cells #[] e)) w.heap.size e (.slice (some ⟨w.heap.size, 0, none⟩) 0 0) [] := by
  have := World.ownsRow_lit (base := w.heap.size) (e := e) (size := 2) w #[] 0 (Nat.le_refl _) (by unfold maxLen; omega) (by simp)
  simpa [OwnE, cellsE] using this

end Go.Proofs.Ytpcgbnfdhjepmaa
