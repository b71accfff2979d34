/- DrawDirRemove of the model; a copy of entries. -/
import Derived.Test.YtkcijpmikgohcaaDirsMath
import Derived.Test.YtkcijpmikgohcaaCloneE
import Derived.Laws.AppendOwnNone
namespace Go.Proofs.Ytkcijpmikgohcaa
open Go.RowKit

theorem OwnE.low {w : World} {base base' : Nat} {e : TypeId} {v : Value} {ts : List Ent} (h : OwnE w base e v ts) (hb : base' ≤ base) : OwnE w base' e v ts := by
  refine ⟨h.1, ?_⟩
  rcases h.2 with h1 | ⟨g, cap, cur, hv, hg, r⟩
  · exact Or.inl h1
  · exact Or.inr ⟨g, cap, cur, hv, Nat.le_trans hb hg, r⟩
theorem OwnE.slE {w : World} {base : Nat} {e : TypeId} {v : Value} {ts : List Ent} (h : OwnE w base e v ts) : ∃ a c, v = .slice a ts.length c := by
  rcases h.2 with ⟨h1, h0⟩ | ⟨g, cap, cur, hv, _⟩
  · rw [h0]; exact ⟨_, _, h1⟩
  · exact ⟨_, _, hv⟩

set_option maxRecDepth 20000 in
set_option maxHeartbeats 1000000 in
theorem drawDirRemove_calls (w : World) {ao : Option Addr} {cap : Nat} {code : List Int} (hB : Byt code) (hcl : code.length ≤ 1048576) (hc : View w 0 w.heap.size .u8 (.slice ao code.length cap) code) :
    Calls Try.prog 4 #[.slice ao code.length cap] w fun e w' => ∃ v r, e = .returned (.tuple #[v, .int .i64 r]) ∧ ∃ ts, ts.length ≤ 161 ∧ AllN ts ∧ OwnE w' w.heap.size 30 v ts ∧ Chg 0 0 w w' := by
  have hN := l1Source_calls w ao code.length cap (by omega)
  go_enter Try.func4, Try.ntmps4
  go_wp2_with fail
  refine hN.mono ?_
  rintro e w1 ⟨rfl, s1, c1⟩
  have hN1 := l10DrawEntries_calls w1 w.heap.size 0 (min (code.length / 16) 12) hB hcl (by omega) (by omega) s1 (hc.chg c1 (by omega)) (Or.inr (Nat.le_refl _))
  have v1 := hc.chg c1 (by omega)
  have hs1 := c1.size
  clear hN
  go_wp2_with fail
  refine hN1.mono ?_
  rintro e w2 ⟨v, rfl, ts, hl, m, hD⟩
  obtain ⟨va, vc, rfl⟩ := hD.own.slE
  have hN2 := l1Next_calls w2 w.heap.size m (min (code.length / 16) 12) ((ts.length : Int) + 2) (by omega) hB hcl (by have := hD.le; omega) hD.src (v1.chg hD.chg (by omega)) (Or.inr (Nat.le_refl _))
  have hs2 := hD.chg.size
  have C2 := c1.step hD.chg (by omega)
  have HO : OwnE w2 w.heap.size 30 (.slice va ts.length vc) ts := hD.own.low hs1
  have HA : Hid (AllN ts) := hD.all
  have hgo : ∀ g, (Value.slice va ts.length vc).ownBlock = some g → w1.heap.size ≤ g := fun g hg => (hD.own.lt g hg).1
  have hp1 : w.heap.size < w1.heap.size := (Array.getElem?_eq_some_iff.1 s1).1
  clear hN1 hD s1 c1 v1
  go_wp2_with fail
  refine hN2.mono ?_
  rintro e w3 ⟨rfl, s3, c3⟩
  have hr := nxt_range code m ((ts.length : Int) + 2)
  generalize nxt code m ((ts.length : Int) + 2) = x at *
  have hx := hr.2 (by omega)
  have hx0 := hr.1
  have HR : Hid (OwnE w3 w.heap.size 30 (.slice va ts.length vc) ts ∧ Chg 0 0 w w3) := ⟨HO.chg c3 (fun g hg => by have := hgo g hg; omega), C2.step c3 (by omega)⟩
  clear hN2 s3 c3 HO C2 hr
  go_wp2
  go_ret2
  exact ⟨_, _, rfl, ts, hl, HA.out, HR.out.1, HR.out.2⟩

/-- append([]Entry{}, entries...). -/
theorem wpList_copyE {ops : Array Oper} {rest : List Oper} {o : Oper} {a : Act} {w : World} {Q : Exit → Act → World → Prop} (hgd : o.guard = none) (s x : Operand)
    (ho : o.op = .call { callee := .builtin .append, args := #[s, x], argTypes := #[23, 23] }) (base : Nat) (v xv : Value) (ts : List Ent) (hs : a.eval s = v) (hown : OwnE w base 30 v []) (hx : a.eval x = xv)
    {lo : Nat} (hv : OwnE w lo 30 xv ts) (hl : ts.length ≤ 1048576) (hbase : base ≤ w.heap.size)
    (h : ∀ v' w', OwnE w' base 30 v' ts → Chg base w.heap.size w w' → wpList Try.prog ops Q rest (a.put o.dst v') w') : wpList Try.prog ops Q (o :: rest) a w := by
  obtain ⟨i, hi', hz0, hz1, hz2⟩ := info_parts Try.infoE
  have hw := hv.view (by omega) (hi := w.heap.size) (fun g hg => (hv.lt g hg).2)
  rcases hv.2 with ⟨rfl, h0⟩ | ⟨g, cap, cur, rfl, _⟩
  · obtain rfl : ts = [] := List.eq_nil_of_length_eq_zero h0
    exact wpList_append_own_none hgd s x 23 ho base 30 i 2 Try.underlying23 hi' v 0 [] hs hown hx (h v w hown (Chg.refl _ _ _))
  · obtain ⟨ao, cap2, e2, _, hcap, h1⟩ := hw
    cases e2
    refine wpList_append_own w hgd s x 23 ho base 30 i _ 2 24 Try.underlying23 hi' hz0 hz1 hz2 rfl (by omega) v 0 [] hs hown ⟨g, 0, none⟩ ts.length cap (cellsE ts) hx (cellsE_len ts) ?_ (cellsE_one ts) (by unfold maxLen; omega) (by omega) hbase ?_
    · intro j u hj
      rcases h1 with h1 | ⟨b, off, e, _, _, hc⟩
      · subst h1; cases hj
      · cases e
        exact EAt.all hc j u hj
    · intro v' w' ho' hg' _
      refine h v' w' ?_ (Chg.ofGrown hg' (fun k hk _ => World.ownsRow.lt hown k hk))
      unfold OwnE
      simpa using ho'

end Go.Proofs.Ytkcijpmikgohcaa
