/- The blocks of a transaction, of the program: TxnBlocks. -/
import Derived.Test.YtahjaejepkgfdaaGreatDoorImplLen
import Derived.Test.YtahjaejepkgfdaaGreatDoorTagOwn
namespace Go.Proofs.YtahjaejepkgfdaaGreatDoor
open Go.RowKit Go.Shelf
attribute [local go_sem] Oper.semAt_some

/-- append of bytes that are seen to bytes that are one's own: what else stands. -/
theorem wp_app_seenG {o : Oper} {a : Act} {w : World} {K : Act → World → Prop} {Q : Exit → Act → World → Prop} (s x : Operand)
    (ho : o.op = .call { callee := .builtin .append, args := #[s, x], argTypes := #[45, 45] })
    (base : Nat) (sv : Value) (xs : List Int) (hs : a.eval s = sv) (hO : OwnB w base 5 sv xs) (hbase : base ≤ w.heap.size) (lo hi : Nat) (xv : Value) (ys : List Int) (hx : a.eval x = xv) (hv : View w lo hi .u8 xv ys) (hy : 0 < ys.length) (hl : xs.length + ys.length ≤ 1048576)
    (h : ∀ v' w', OwnB w' base 5 v' (xs ++ ys) → w.grownBy w' sv.ownBlock → K (a.put o.dst v') w') : o.wp Tryz.prog a w K Q := by
  obtain ⟨i, hi, hz0, hz1, hz2⟩ := info_parts Tryz.infoU1
  obtain ⟨ao, cap, rfl, _, _, hcell⟩ := hv
  obtain ⟨b, off, rfl, hc⟩ : ∃ b off, ao = some ⟨b, off, none⟩ ∧ ∀ i, i < ys.length → w.cell? ⟨b, off + i, none⟩ = some (.int .u8 (ys.getD i 0)) := by
    rcases hcell with e | ⟨b, off, e, _, _, h3⟩
    · rw [e] at hy; simp at hy
    · exact ⟨b, off, e, h3⟩
  have HNW : ∀ j u, (ys.map (Value.int .u8))[j]? = some u → w.cell? ((⟨b, off, none⟩ : Addr).add j) = some u := by
    intro j u hj
    have hjl : j < ys.length := by have := (List.getElem?_eq_some_iff.1 hj).1; simpa using this
    rw [Addr.add_mid, hc j hjl, ← hj]
    simp [List.getD_eq_getElem?_getD, hjl]
  have hrow : w.ownsRow base 5 1 sv xs.length (xs.map (Value.int .u8)) := hO
  refine wp_append_own _ s x 45 ho base 5 i (.int .u8 0) 1 1 Tryz.underlying45 hi hz0 hz1 hz2 rfl (by decide) sv xs.length (xs.map (Value.int .u8)) hs hrow ⟨b, off, none⟩ ys.length cap (ys.map (Value.int .u8)) hx (by simp) HNW (ints_oneCell _ _) (by unfold maxLen; omega) (by omega) hbase ?_
  intro v' w2 hown hgrow _
  refine h v' w2 ?_ hgrow
  unfold OwnB
  rw [List.length_append, List.map_append]
  exact hown

theorem OwnB.shape {w : World} {base : Nat} {e : TypeId} {v : Value} {xs : List Int} (h : OwnB w base e v xs) : ∃ ao cap, v = .slice ao xs.length cap := by
  obtain ⟨_, h2⟩ := h
  rcases h2 with ⟨rfl, h0⟩ | ⟨g, cap, cur, rfl, _⟩
  · exact ⟨none, 0, by rw [h0]⟩
  · exact ⟨_, cap, rfl⟩

/-- The bytes of these blocks. -/
def bksL (tl : List (List Int)) (pre : List (Fin 1000 × Fin tl.length)) : List Int := (pre.map fun z => tl.getD z.2.val []).flatten
theorem bksL_snoc (tl : List (List Int)) (pre : List (Fin 1000 × Fin tl.length)) (x : Fin 1000 × Fin tl.length) : bksL tl (pre ++ [x]) = bksL tl pre ++ tl.getD x.2.val [] := by unfold bksL; simp
theorem getD_mem {tl : List (List Int)} (i : Fin tl.length) : tl.getD i.val [] ∈ tl := by
  have h := i.isLt
  rw [show tl.getD i.val [] = tl[i.val] by simp [List.getD_eq_getElem?_getD, h]]
  exact List.getElem_mem h
theorem bksL_len {tl : List (List Int)} (h : ∀ b ∈ tl, b.length = 64) (pre : List (Fin 1000 × Fin tl.length)) : (bksL tl pre).length = 64 * pre.length := by
  unfold bksL
  induction pre with
  | nil => rfl
  | cons x pre ih => rw [List.map_cons, List.flatten_cons, List.length_append, h _ (getD_mem x.2), ih, List.length_cons]; omega
theorem bksL_all {tl : List (List Int)} {zs : List (Fin 1000 × Fin tl.length)} (h : vals2 zs = diag tl.length) : bksL tl zs = tl.flatten := by
  unfold bksL
  congr 1
  have e : (zs.map fun z => tl.getD z.2.val []) = (vals2 zs).map fun p => tl.getD p.2 [] := by unfold vals2; rw [List.map_map]; rfl
  rw [e, h]
  unfold diag
  rw [List.map_map]
  apply List.ext_getElem
  · simp
  · intro i h1 h2
    simp [List.getD_eq_getElem?_getD, h2]

/-- What the loop keeps. -/
structure BkI (w : World) (tl : List (List Int)) (M : Nat) (pre : List (Fin 1000 × Fin tl.length)) (V : World) : Prop where
  out : ∃ ov, V.heap[w.heap.size + 1]? = some (.cells #[ov] 45 (0, 0)) ∧ OwnB V M 5 ov (bksL tl pre)
  ch : Chg 0 0 w V
  m : w.heap.size ≤ M

end Go.Proofs.YtahjaejepkgfdaaGreatDoor
