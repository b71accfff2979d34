/- append onto an empty row that is one's own: what is told is a copy, one's own. -/
import Derived.Test.YtplfehjaakkldaaAppNew
namespace Go.Proofs.Ytplfehjaakkldaa
open Go.RowKit

/-- 'append([]byte{}, xs...)', whatever xs is. -/
theorem wp_app_own {o : Oper} {a : Act} {w : World} {K : Act → World → Prop} {Q : Exit → Act → World → Prop} (s x : Operand)
    (ho : o.op = .call { callee := .builtin .append, args := #[s, x], argTypes := #[22, 22] })
    (g : Nat) (hs : a.eval s = .slice (some ⟨g, 0, none⟩) 0 0) (base : Nat) (hg : OwnB w base 5 (.slice (some ⟨g, 0, none⟩) 0 0) []) (hbase : base ≤ w.heap.size) (lo hi : Nat) (xv : Value) (ys : List Int) (hx : a.eval x = xv) (hv : View w lo hi .u8 xv ys) (hl : ys.length ≤ 1048576)
    (h : ∀ v' w', OwnB w' base 5 v' ys → (∃ g' c', v' = .slice (some ⟨g', 0, none⟩) ys.length c' ∧ (g' = g ∨ w.heap.size ≤ g')) → Chg 0 0 w w' → K (a.put o.dst v') w') : o.wp Try.prog a w K Q := by
  obtain ⟨i, hi, hz0, hz1, hz2⟩ := info_parts Try.infoU4
  obtain ⟨ao, cap, rfl, _, _, hcell⟩ := hv
  by_cases h0 : ys = []
  · subst h0
    have hsrc : Src Try.prog 1 22 (.slice ao 0 cap) 0 [] w := by
      cases ao with
      | none => exact Src.ofNil (w := w) Try.underlying22 cap
      | some ad => exact Src.ofSlice w Try.underlying22 ad 0 cap [] (by simp) (by simp) (by simp)
    have hr : (Builtin.append_ #[22, 22] o.type #[.slice (some ⟨g, 0, none⟩) 0 0, .slice ao 0 cap]).run Try.prog w = .ok (.slice (some ⟨g, 0, none⟩) 0 0) w := by
      have := run_append_room_src (P := Try.prog) w 22 22 o.type 5 i Try.underlying22 hi g 0 0 0 (.slice ao 0 cap) 0 [] (by rw [hz1]; exact hsrc) (by omega) (by simp) (by simp)
      simpa [World.setCells] using this
    unfold Oper.wp execOp
    simp only [List.length_nil] at hx
    simp only [ho, resolve, invoke, builtin, Sem.run_bind, Sem.run_pure, Result.andThen_ok, List.map_toArray, List.map_cons, List.map_nil, hs, hx, hr]
    exact h _ _ hg ⟨g, 0, rfl, Or.inl rfl⟩ (Chg.refl 0 0 w)
  · obtain ⟨b, off, rfl, _, _, hc⟩ : ∃ b off, ao = some ⟨b, off, none⟩ ∧ lo ≤ b ∧ b < _ ∧ ∀ i, i < ys.length → w.cell? ⟨b, off + i, none⟩ = some (.int .u8 (ys.getD i 0)) := by
      rcases hcell with e | ⟨b, off, e, h1, h2, h3⟩
      · exact absurd e h0
      · exact ⟨b, off, e, h1, h2, h3⟩
    have hpos : 0 < ys.length := by cases ys with | nil => exact absurd rfl h0 | cons _ _ => simp
    have hnews : ∀ j u, (ys.map (Value.int .u8))[j]? = some u → w.cell? ((⟨b, off, none⟩ : Addr).add j) = some u := by
      intro j u hj
      have hjl : j < ys.length := by have := (List.getElem?_eq_some_iff.1 hj).1; simpa using this
      rw [Go.WideShapes.add_plain, hc j hjl, ← hj]
      simp [List.getD_eq_getElem?_getD, hjl]
    obtain ⟨v', w', hr, hown, hgrow⟩ := run_append_arg_grows (P := Try.prog) w 22 o.type 5 i (.int .u8 0) 1 1 Try.underlying22 hi hz0 hz1 hz2 rfl (by decide) ⟨g, 0, none⟩ 0 0 [] rfl (by simp) ⟨b, off, none⟩ ys.length cap (ys.map (Value.int .u8)) (by simp) hnews (by omega) (by unfold maxLen; omega) (by omega)
    unfold Oper.wp execOp
    simp only [ho, resolve, invoke, builtin, Sem.run_bind, Sem.run_pure, Result.andThen_ok, List.map_toArray, List.map_cons, List.map_nil, hs, hx, hr]
    have hO : OwnB w' w.heap.size 5 v' ys := by unfold OwnB; simpa using hown
    have hsl : ∃ g' c', v' = .slice (some ⟨g', 0, none⟩) ys.length c' := by
      rcases hO.2 with ⟨_, e0⟩ | ⟨g', c', _, e, _⟩
      · omega
      · exact ⟨g', c', e⟩
    obtain ⟨g', c', rfl⟩ := hsl
    exact h _ _ (hO.base (fun g'' hg'' => Nat.le_trans hbase (hO.lt g'' hg'').1)) ⟨g', c', rfl, Or.inr (hO.lt g' rfl).1⟩ (Chg.ofGrown hgrow (by simp))

theorem wpList_app_own {ops : Array Oper} {rest : List Oper} {o : Oper} {a : Act} {w : World} {Q : Exit → Act → World → Prop} (hgd : o.guard = none) (s x : Operand)
    (ho : o.op = .call { callee := .builtin .append, args := #[s, x], argTypes := #[22, 22] })
    (g : Nat) (hs : a.eval s = .slice (some ⟨g, 0, none⟩) 0 0) (base : Nat) (hg : OwnB w base 5 (.slice (some ⟨g, 0, none⟩) 0 0) []) (hbase : base ≤ w.heap.size) (lo hi : Nat) (xv : Value) (ys : List Int) (hx : a.eval x = xv) (hv : View w lo hi .u8 xv ys) (hl : ys.length ≤ 1048576)
    (h : ∀ v' w', OwnB w' base 5 v' ys → Hid (∃ g' c', v' = .slice (some ⟨g', 0, none⟩) ys.length c' ∧ (g' = g ∨ w.heap.size ≤ g')) → Chg 0 0 w w' → wpList Try.prog ops Q rest (a.put o.dst v') w') : wpList Try.prog ops Q (o :: rest) a w :=
  wpList_plain hgd fun _ hK => wp_app_own s x ho g hs base hg hbase lo hi xv ys hx hv hl fun v' w' h1 h2 h3 => hK _ _ (h v' w' h1 h2 h3)

end Go.Proofs.Ytplfehjaakkldaa
