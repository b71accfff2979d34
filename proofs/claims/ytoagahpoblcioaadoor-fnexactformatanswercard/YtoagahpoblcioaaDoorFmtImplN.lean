/- FormatAnswer of the program, at a list of names. (made by tools/mkfmt.py) -/
import Derived.Test.YtoagahpoblcioaaDoorFmtV
import Derived.Test.YtoagahpoblcioaaDoorImplQuote
import Derived.Test.YtoagahpoblcioaaDoorShelfJoin
namespace Go.Proofs.YtoagahpoblcioaaDoor
open Go.RowKit Go.Lib

theorem Tryd.infoTx : (Tryd.prog.info? 9).map (fun i => (i.zero, i.size, i.bytes)) = some (some (.string ⟨#[]⟩), 1, 16) := by kernel_rfl

theorem wpList_app_texts {ops : Array Oper} {rest : List Oper} {o : Oper} {a : Act} {w : World} {Q : Exit → Act → World → Prop} (hgd : o.guard = none) (s x : Operand)
    (ho : o.op = .call { callee := .builtin .append, args := #[s, x], argTypes := #[24, 24] })
    (base : Nat) (sv : Value) (ps : List ByteArray) (hs : a.eval s = sv) (hO : OwnS w base 9 sv ps) (hbase : base ≤ w.heap.size) {lo hi : Nat} (ad : Addr) (cap : Nat) (qs : List ByteArray) (hx : a.eval x = .slice (some ad) qs.length cap) (hv : SView w lo hi (.slice (some ad) qs.length cap) qs) (hp : 0 < ps.length) (hl : ps.length + qs.length ≤ 2097152)
    (h : ∀ g cp w', OwnS w' base 9 (.slice (some ⟨g, 0, none⟩) (ps ++ qs).length cp) (ps ++ qs) → Chg base w.heap.size w w' → wpList Tryd.prog ops Q rest (a.put o.dst (.slice (some ⟨g, 0, none⟩) (ps ++ qs).length cp)) w') : wpList Tryd.prog ops Q (o :: rest) a w := by
  obtain ⟨i, hi, hz0, hz1, hz2⟩ := info_parts Tryd.infoTx
  have HNW : ∀ j u, (qs.map Value.string)[j]? = some u → w.cell? (ad.add j) = some u := by
    intro j u hj
    have hjl : j < qs.length := by have := (List.getElem?_eq_some_iff.1 hj).1; simpa using this
    obtain ⟨ao, c', e, _, _, h3⟩ := hv
    simp only [Value.slice.injEq] at e
    rcases h3 with h3 | ⟨b, off, e2, _, _, h4⟩
    · rw [h3] at hjl; simp at hjl
    · rw [← e.1] at e2
      obtain rfl := Option.some.inj e2
      rw [Addr.add_mid, h4 j hjl, ← hj]
      simp [List.getD_eq_getElem?_getD, hjl]
  have hrow : w.ownsRow base 9 1 sv ps.length (ps.map Value.string) := hO
  refine wpList_append_own _ hgd s x 24 ho base 9 i (.string ⟨#[]⟩) 1 16 Tryd.underlying24 hi hz0 hz1 hz2 rfl (by decide) sv ps.length (ps.map Value.string) hs hrow ad qs.length cap (qs.map Value.string) hx (by simp) HNW (fun u hu => by obtain ⟨t, _, rfl⟩ := List.mem_map.1 hu; rfl) (by unfold maxLen; omega) (by omega) hbase ?_
  intro v' w2 hown hgrow _
  obtain ⟨g, cp, rfl⟩ : ∃ g cp, v' = .slice (some ⟨g, 0, none⟩) (ps.length + qs.length) cp := by
    rcases hown.2 with ⟨_, h0⟩ | ⟨g, cap, cur, hv, _⟩
    · omega
    · exact ⟨g, cap, hv⟩
  have e : (ps ++ qs).length = ps.length + qs.length := by simp
  have hfin := h g cp w2 (by unfold OwnS; rw [e, List.map_append]; exact hown) (Chg.ofGrown hgrow (fun k hk _ => World.ownsRow.lt hrow k hk))
  rw [e] at hfin
  exact hfin

theorem names_own (w0 : World) (A B : Obj) (t : ByteArray) : OwnS (((w0.alloc A).alloc B).alloc (.cells #[.string t] 9)) (w0.heap.size + 1 + 1) 9 (.slice (some ⟨w0.heap.size + 1 + 1, 0, none⟩) 1 1) [t] := by
  have e : ((w0.alloc A).alloc B).heap.size = w0.heap.size + 1 + 1 := by simp
  have h := heap_new ((w0.alloc A).alloc B) (.cells #[.string t] 9)
  rw [e] at h
  exact ⟨by simp, Or.inr ⟨_, 1, _, rfl, Nat.le_refl _, h, Nat.le_refl _, by unfold maxLen; omega, rfl, rfl⟩⟩

theorem join_names (names : List ByteArray) : Lib.join (((⟨#[110, 97, 109, 101, 115]⟩ : ByteArray) :: names).map (·.data.toList)) [32] = nmL names := by
  rw [List.map_cons, Lib.join_cons]
  unfold nmL Lib.joinTail
  rw [List.map_map]
  rfl

set_option maxRecDepth 20000 in
set_option maxHeartbeats 4000000 in
theorem implFormatN_calls (w : World) (path to' : ByteArray) (ch co cs : Int) (cd : ByteArray) (data : ByteArray) (na : Option Addr) (nc : Nat) (names : List ByteArray) (handle k l s b sq hd us rn cm : Int)
    (hnz : (nmL names).length ≤ 2097152) {lo hi : Nat} (hN : SView w lo hi (.slice na names.length nc) names) (hna : ∃ ad, na = some ad) :
    Calls Tryd.prog 9 #[.agg (cCall 20 path to' ch co cs cd), .agg (cAns 0 data (.slice na names.length nc) handle k l s b sq hd us rn cm)] w fun e w' => e = .returned (.string (fmtV 20 0 data names handle k l s b sq hd us rn cm)) ∧ Chg 0 0 w w' := by
  obtain ⟨r, Hr⟩ : ∃ r, Hid (r = fmtV 20 0 data names handle k l s b sq hd us rn cm) := ⟨_, rfl⟩
  rw [← Hr.out]
  have HR : Hid (r = ⟨(nmL names).toArray⟩) := by show _ = _; rw [Hr.out]; unfold fmtV; rw [if_neg (by decide), if_neg (by decide), if_neg (by decide), if_neg (by decide), if_pos rfl]
  obtain ⟨ad, rfl⟩ := hna
  have HSV : Hid (∀ A B C : Obj, SView (((w.alloc A).alloc B).alloc C) lo hi (.slice (some ad) names.length nc) names) := fun A B C => hN.chg (((Chg.alloc (Chg.refl 0 0 w) A).alloc B).alloc C) (by omega)
  have HC0 : Hid (∀ A B C : Obj, Chg 0 0 w (((w.alloc A).alloc B).alloc C)) := fun A B C => ((Chg.alloc (Chg.refl 0 0 w) A).alloc B).alloc C
  have hsz : ∀ A B C : Obj, w.heap.size + 1 + 1 ≤ (((w.alloc A).alloc B).alloc C).heap.size := fun A B C => by simp
  have hnl : names.length + 5 ≤ (nmL names).length := nmL_len names
  clear hN
  go_enter Tryd.func9, Tryd.ntmps9
  go_wp2_with (refine wpList_app_texts rfl (.tmp 48) (.tmp 50) rfl (w.heap.size + 1 + 1) (.slice (some ⟨w.heap.size + 1 + 1, 0, none⟩) 1 1) [(⟨#[110, 97, 109, 101, 115]⟩ : ByteArray)] rfl (names_own w _ _ _) (hsz _ _ _) ad nc names rfl (HSV.out _ _ _) (by simp) (by simp; omega) ?_; intro g8 cp8 w8 o8 c8)
  have HC8 : Hid (Chg 0 0 w w8) := (HC0.out _ _ _).step c8 (by omega)
  have hlt8 := (o8.lt g8 rfl).2
  obtain ⟨ao, cap', e, _, hcap, h3⟩ := o8.view (hi := w8.heap.size) (by simp; omega) (fun g hg => (o8.lt g hg).2)
  simp only [Value.slice.injEq, true_and] at e
  obtain ⟨e1, rfl⟩ := e
  have hcells : ∀ (j : Nat) x, ((⟨#[110, 97, 109, 101, 115]⟩ : ByteArray) :: names)[j]? = some x → w8.cell? ⟨g8, 0 + j, none⟩ = some (.string x) := by
    intro j x hj
    rcases h3 with h3 | ⟨b', off', e2, _, _, h4⟩
    · simp at h3
    · rw [← e1] at e2
      simp only [Option.some.injEq, Addr.mk.injEq] at e2
      obtain ⟨rfl, rfl, _⟩ := e2
      obtain ⟨hjl, hjx⟩ := List.getElem?_eq_some_iff.1 hj
      rw [h4 j (by simpa using hjl)]
      simp only [List.getD_eq_getElem?_getD]
      rw [show ([(⟨#[110, 97, 109, 101, 115]⟩ : ByteArray)] ++ names)[j]? = some x from hj]
      rfl
  have hJ := Any.strings_Join Tryd.lays156 Tryd.Builder_Extra_156 g8 0 cp8 ((⟨#[110, 97, 109, 101, 115]⟩ : ByteArray) :: names) ⟨#[32]⟩ w8 hcells hlt8 (by simp; omega) (by simpa using hcap) (by rw [show (⟨#[32]⟩ : ByteArray).data.toList = [32] from rfl, join_names]; omega)
  rw [show (⟨#[32]⟩ : ByteArray).data.toList = [32] from rfl, join_names] at hJ
  clear h3 hcells o8 c8 e1 hcap
  go_wp2_with fail
  refine hJ.mono ?_
  rintro e w9 ⟨rfl, c9⟩
  have HC9 : Hid (Chg 0 0 w w9) := HC8.out.trans (Chg.ofBelow c9 0 0)
  clear c9 hJ
  go_wp2
  go_ret
  exact ⟨by rw [HR.out]; rfl, HC9.out⟩

end Go.Proofs.YtoagahpoblcioaaDoor
