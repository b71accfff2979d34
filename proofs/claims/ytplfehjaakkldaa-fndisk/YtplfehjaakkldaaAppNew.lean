/- append onto an empty slice that has no room: what is told is a copy of its own. -/
import Derived.Test.YtplfehjaakkldaaRows
import Derived.Test.YtplfehjaakkldaaMem
import Derived.ArgAppend
import Derived.Deep.AppendSrc
namespace Go.Proofs.Ytplfehjaakkldaa

theorem Try.infoU4 : (Try.prog.info? 5).map (fun i => (i.zero, i.size, i.bytes)) = some (some (.int .u8 0), 1, 1) := by kernel_rfl

/-- 'append([]byte{}, xs...)': new memory with these bytes. -/
theorem wp_app_new {o : Oper} {a : Act} {w : World} {K : Act → World → Prop} {Q : Exit → Act → World → Prop} (s x : Operand)
    (ho : o.op = .call { callee := .builtin .append, args := #[s, x], argTypes := #[22, 22] })
    (g : Nat) (hs : a.eval s = .slice (some ⟨g, 0, none⟩) 0 0) (b off c : Nat) (ys : List Int) (hx : a.eval x = .slice (some ⟨b, off, none⟩) ys.length c) (hl : ys.length ≤ 1048576)
    (hc : ∀ i, i < ys.length → w.cell? ⟨b, off + i, none⟩ = some (.int .u8 (ys.getD i 0)))
    (h : ∀ v' w', View w' w.heap.size w'.heap.size .u8 v' ys → Chg 0 0 w w' → K (a.put o.dst v') w') : o.wp Try.prog a w K Q := by
  obtain ⟨i, hi, hz0, hz1, hz2⟩ := info_parts Try.infoU4
  have hnews : ∀ j u, (ys.map (Value.int .u8))[j]? = some u → w.cell? ((⟨b, off, none⟩ : Addr).add j) = some u := by
    intro j u hj
    have hjl : j < ys.length := by have := (List.getElem?_eq_some_iff.1 hj).1; simpa using this
    rw [Go.WideShapes.add_plain, hc j hjl, ← hj]
    simp [List.getD_eq_getElem?_getD, hjl]
  by_cases h0 : ys.length = 0
  · have hr : (Builtin.append_ #[22, 22] o.type #[.slice (some ⟨g, 0, none⟩) 0 0, .slice (some ⟨b, off, none⟩) ys.length c]).run Try.prog w = .ok (.slice (some ⟨g, 0, none⟩) 0 0) w := by
      have hy : ys = [] := List.eq_nil_of_length_eq_zero h0
      subst hy
      have := run_append_room_src (P := Try.prog) w 22 22 o.type 5 i Try.underlying22 hi g 0 0 0 (.slice (some ⟨b, off, none⟩) 0 c) 0 [] (Src.ofSlice w Try.underlying22 ⟨b, off, none⟩ 0 c [] (by simp) (by simp) (by simp)) (by omega) (by simp) (by simp)
      simpa [World.setCells] using this
    unfold Oper.wp execOp
    simp only [ho, resolve, invoke, builtin, Sem.run_bind, Sem.run_pure, Result.andThen_ok, List.map_toArray, List.map_cons, List.map_nil, hs, hx, hr]
    refine h _ _ ?_ (Chg.refl 0 0 w)
    have hy : ys = [] := List.eq_nil_of_length_eq_zero h0
    subst hy
    exact ⟨_, 0, rfl, by simp, ⟨by simp, by simp⟩, Or.inl rfl⟩
  · obtain ⟨v', w', hr, hown, hgrow⟩ := run_append_arg_grows (P := Try.prog) w 22 o.type 5 i (.int .u8 0) 1 1 Try.underlying22 hi hz0 hz1 hz2 rfl (by decide) ⟨g, 0, none⟩ 0 0 [] rfl (by simp) ⟨b, off, none⟩ ys.length c (ys.map (Value.int .u8)) (by simp) hnews (by omega) (by unfold maxLen; omega) (by omega)
    unfold Oper.wp execOp
    simp only [ho, resolve, invoke, builtin, Sem.run_bind, Sem.run_pure, Result.andThen_ok, List.map_toArray, List.map_cons, List.map_nil, hs, hx, hr]
    have hO : OwnB w' w.heap.size 5 v' ys := by unfold OwnB; simpa using hown
    exact h _ _ (hO.view (by omega) (fun g hg => (hO.lt g hg).2)) (Chg.ofGrown hgrow (by simp))

end Go.Proofs.Ytplfehjaakkldaa
