/- Several short texts in one: OpsApp, OpsApp2, ViewPart, OpsNil. -/
import Derived.Test.YtahjaejepkgfdaaGreatDoorRowsE
import Derived.Test.YtahjaejepkgfdaaGreatDoorRows
import Derived.Deep.MidRow
import Derived.Deep.DeepAppendRoom
import Derived.Test.YtahjaejepkgfdaaGreatDoorMem
namespace Go.Proofs.YtahjaejepkgfdaaGreatDoor
open Go.RowKit

theorem Tryz.infoOp : (Tryz.prog.info? 47).map (fun i => (i.zero, i.size, i.bytes)) = some (some (.agg #[.int .i64 0, .int .i64 0, .slice none 0 0]), 3, 40) := by kernel_rfl

theorem OwnOx.base {w : World} {base base' : Nat} {eO eB : TypeId} {v : Value} {os : List Opx} {cells : List Value} {dvs : Nat → Value} (h : OwnOx w base eO eB v os cells dvs) (hb : base' ≤ base) : OwnOx w base' eO eB v os cells dvs := by
  refine ⟨?_, h.at0, h.at1, h.at2, fun i hi => (h.data i hi).base (fun g hg => Nat.le_trans hb ((h.data i hi).lt g hg).1), h.apart⟩
  obtain ⟨h1, h2⟩ := h.row
  refine ⟨h1, ?_⟩
  rcases h2 with h2 | ⟨g, cap, cur, hv, hg, r⟩
  · exact Or.inl h2
  · exact Or.inr ⟨g, cap, cur, hv, by omega, r⟩

/-- Two lists in a row. -/
theorem OwnOx.join {w w' : World} {base base2 : Nat} {eO eB : TypeId} {v v2 v' : Value} {os ts : List Opx} {cells cells2 : List Value} {dvs dvs2 : Nat → Value} (h : OwnOx w base eO eB v os cells dvs) (h2 : OwnOx w base2 eO eB v2 ts cells2 dvs2)
    (hrow : w'.ownsRow base eO 3 v' (os.length + ts.length) (cells ++ cells2)) (hd : ∀ i, i < os.length → OwnB w' base eB (dvs i) (os.getD i Opx.zero).2.2) (hd2 : ∀ i, i < ts.length → OwnB w' base eB (dvs2 i) (ts.getD i Opx.zero).2.2)
    (hfr : ∀ i j g, i < os.length → j < ts.length → (dvs i).ownBlock = some g → (dvs2 j).ownBlock ≠ some g) :
    OwnOx w' base eO eB v' (os ++ ts) (cells ++ cells2) (fun i => if i < os.length then dvs i else dvs2 (i - os.length)) := by
  have hl : cells.length = os.length * 3 := h.row.1
  have hg1 : ∀ i, i < os.length → (os ++ ts).getD i Opx.zero = os.getD i Opx.zero := fun i e => by rw [List.getD_eq_getElem?_getD, List.getD_eq_getElem?_getD, List.getElem?_append_left e]
  have hg2 : ∀ i, ¬ i < os.length → (os ++ ts).getD i Opx.zero = ts.getD (i - os.length) Opx.zero := fun i e => by rw [List.getD_eq_getElem?_getD, List.getD_eq_getElem?_getD, List.getElem?_append_right (by omega)]
  refine ⟨by rw [List.length_append]; exact hrow, ?_, ?_, ?_, ?_, ?_⟩
  · intro i hi
    rw [List.length_append] at hi
    by_cases e : i < os.length
    · rw [List.getElem?_append_left (by omega), h.at0 i e, hg1 i e]
    · rw [List.getElem?_append_right (by omega), hl, hg2 i e, show i * 3 - os.length * 3 = (i - os.length) * 3 by omega, h2.at0 _ (by omega)]
  · intro i hi
    rw [List.length_append] at hi
    by_cases e : i < os.length
    · rw [List.getElem?_append_left (by omega), h.at1 i e, hg1 i e]
    · rw [List.getElem?_append_right (by omega), hl, hg2 i e, show i * 3 + 1 - os.length * 3 = (i - os.length) * 3 + 1 by omega, h2.at1 _ (by omega)]
  · intro i hi
    rw [List.length_append] at hi
    by_cases e : i < os.length
    · rw [List.getElem?_append_left (by omega), h.at2 i e, if_pos e]
    · rw [List.getElem?_append_right (by omega), hl, if_neg e, show i * 3 + 2 - os.length * 3 = (i - os.length) * 3 + 2 by omega, h2.at2 _ (by omega)]
  · intro i hi
    rw [List.length_append] at hi
    by_cases e : i < os.length
    · show OwnB w' base eB (if i < os.length then dvs i else dvs2 (i - os.length)) _
      rw [if_pos e, hg1 i e]; exact hd i e
    · show OwnB w' base eB (if i < os.length then dvs i else dvs2 (i - os.length)) _
      rw [if_neg e, hg2 i e]; exact hd2 _ (by omega)
  · intro i j g hij hj
    rw [List.length_append] at hj
    by_cases e : i < os.length
    · rw [if_pos e]
      by_cases e' : j < os.length
      · rw [if_pos e']; exact h.apart i j g hij e'
      · rw [if_neg e']; exact hfr i _ g e (by omega)
    · rw [if_neg e, if_neg (by omega)]
      exact h2.apart _ _ g (by omega) (by omega)

/-- append(s, x...): s and x are one's own, x is not empty. -/
theorem wp_app_ops {o : Oper} {a : Act} {w : World} {K : Act → World → Prop} {Q : Exit → Act → World → Prop} (s x : Operand)
    (ho : o.op = .call { callee := .builtin .append, args := #[s, x], argTypes := #[29, 29] }) (base N : Nat) (v xv : Value) (os ts : List Opx) (cells cells2 : List Value) (dvs dvs2 : Nat → Value)
    (hs : a.eval s = v) (hown : OwnOx w base 47 5 v os cells dvs) (hx : a.eval x = xv) (hxo : OwnOx w N 47 5 xv ts cells2 dvs2) (hN : base ≤ N) (hbase : base ≤ w.heap.size)
    (h0 : 0 < ts.length) (hk : os.length + ts.length ≤ 2097152)
    (hfr : ∀ i j g, i < os.length → j < ts.length → (dvs i).ownBlock = some g → (dvs2 j).ownBlock ≠ some g)
    (h : ∀ v' w', (∃ g cap, v' = .slice (some ⟨g, 0, none⟩) (os.length + ts.length) cap) → (∃ cells' dvs', OwnOx w' base 47 5 v' (os ++ ts) cells' dvs') → Chg base w.heap.size w w' →
      (∀ (j : Nat) (cur : Array Value) (t : TypeId), t ≠ 47 → w.heap[j]? = some (.cells cur t (0, 0)) → w'.heap[j]? = some (.cells cur t (0, 0))) → K (a.put o.dst v') w') : o.wp Tryz.prog a w K Q := by
  obtain ⟨i, hi, hz0, hz1, hz2⟩ := info_parts Tryz.infoOp
  have hxr := hxo.row
  obtain ⟨g2, c2, rfl⟩ : ∃ g2 c2, xv = .slice (some ⟨g2, 0, none⟩) ts.length c2 := by
    rcases hxr.2 with ⟨_, h'⟩ | ⟨g2, c2, _, e, _⟩
    · omega
    · exact ⟨g2, c2, e⟩
  have hl2 : cells2.length = ts.length * 3 := hxr.1
  have hsrc : ∀ j u, cells2[j]? = some u → w.cell? ((⟨g2, 0, none⟩ : Addr).add j) = some u := by
    intro j u hj
    have hjl : j < cells2.length := (List.getElem?_eq_some_iff.1 hj).1
    rw [Addr.add_mid, Nat.zero_add, World.ownsRow.cellAt hxr j (by omega)]
    exact hj
  have hone : ∀ u ∈ cells2, u.oneCell' = true := by
    intro u hu
    obtain ⟨j, hj, rfl⟩ := List.mem_iff_getElem.1 hu
    have hd : j / 3 < ts.length := by omega
    have hm : j % 3 = 0 ∨ j % 3 = 1 ∨ j % 3 = 2 := by omega
    have hq : cells2[j]? = some cells2[j] := List.getElem?_eq_getElem hj
    rcases hm with hm | hm | hm
    · have := hxo.at0 (j / 3) hd
      rw [show j / 3 * 3 = j by omega, hq] at this
      rw [Option.some.inj this]; rfl
    · have := hxo.at1 (j / 3) hd
      rw [show j / 3 * 3 + 1 = j by omega, hq] at this
      rw [Option.some.inj this]; rfl
    · have := hxo.at2 (j / 3) hd
      rw [show j / 3 * 3 + 2 = j by omega, hq] at this
      rw [Option.some.inj this]
      rcases (hxo.data (j / 3) hd).2 with ⟨e, _⟩ | ⟨_, _, _, e, _⟩ <;> rw [e] <;> rfl
  refine wp_append_own w s x 29 ho base 47 i _ 3 40 Tryz.underlying29 hi hz0 hz1 hz2 rfl (by omega) v os.length _ hs hown.row ⟨g2, 0, none⟩ ts.length c2 cells2 hx hl2 hsrc hone (by unfold maxLen; omega) (by omega) hbase ?_
  intro v' w' h1 h2 _
  have K8 : ∀ j, j < w.heap.size → v.ownBlock ≠ some j → w'.heap[j]? = w.heap[j]? := fun j hj hne' => h2.block j hj (fun e => hne' e.symm)
  have hpE : ∀ j, v.ownBlock = some j → ∃ cur, w.heap[j]? = some (.cells cur 47 (0, 0)) := fun j hj => row_elem' hown.row hj
  have hS : ∀ {N' : Nat} {u : Value} {ys : List Int}, OwnB w N' 5 u ys → OwnB w' N' 5 u ys := fun hu => hu.same (fun j hj => K8 j (hu.lt j hj).2 (fun e => by obtain ⟨cur, hcur⟩ := hpE _ e; obtain ⟨cur', hcur'⟩ := hu.elem hj; exact cells_ne hcur hcur' (by decide) rfl))
  refine h v' w' ?_ ⟨_, _, hown.join hxo h1 (fun i hi => hS (hown.data i hi)) (fun i hi => (hS (hxo.data i hi)).base (fun g hg => Nat.le_trans hN ((hxo.data i hi).lt g hg).1)) hfr⟩ (Chg.ofGrown h2 (fun g hg hlt => ⟨(World.ownsRow.lt hown.row g hg).1, hlt⟩)) ?_
  · rcases h1.2 with ⟨_, h0'⟩ | ⟨g', cap', cur, e', _⟩
    · omega
    · exact ⟨g', cap', e'⟩
  · intro j cur t ht hj
    rw [K8 j (Array.getElem?_eq_some_iff.1 hj).1 (fun e => by obtain ⟨cur', hcur'⟩ := hpE _ e; exact cells_ne hj hcur' ht rfl)]
    exact hj

theorem wpList_app_ops {ops : Array Oper} {rest : List Oper} {o : Oper} {a : Act} {w : World} {Q : Exit → Act → World → Prop} (hgd : o.guard = none) (s x : Operand)
    (ho : o.op = .call { callee := .builtin .append, args := #[s, x], argTypes := #[29, 29] }) (base N : Nat) (v xv : Value) (os ts : List Opx) (cells cells2 : List Value) (dvs dvs2 : Nat → Value)
    (hs : a.eval s = v) (hown : OwnOx w base 47 5 v os cells dvs) (hx : a.eval x = xv) (hxo : OwnOx w N 47 5 xv ts cells2 dvs2) (hN : base ≤ N) (hbase : base ≤ w.heap.size)
    (h0 : 0 < ts.length) (hk : os.length + ts.length ≤ 2097152)
    (hfr : ∀ i j g, i < os.length → j < ts.length → (dvs i).ownBlock = some g → (dvs2 j).ownBlock ≠ some g)
    (h : ∀ v' w', Hid (∃ g cap, v' = .slice (some ⟨g, 0, none⟩) (os.length + ts.length) cap) → Hid (∃ cells' dvs', OwnOx w' base 47 5 v' (os ++ ts) cells' dvs') → Chg base w.heap.size w w' →
      Hid (∀ (j : Nat) (cur : Array Value) (t : TypeId), t ≠ 47 → w.heap[j]? = some (.cells cur t (0, 0)) → w'.heap[j]? = some (.cells cur t (0, 0))) → wpList Tryz.prog ops Q rest (a.put o.dst v') w') : wpList Tryz.prog ops Q (o :: rest) a w :=
  wpList_plain hgd fun _ hK => wp_app_ops s x ho base N v xv os ts cells cells2 dvs dvs2 hs hown hx hxo hN hbase h0 hk hfr fun v' w' h2 h3 h4 h5 => hK _ _ (h v' w' h2 h3 h4 h5)

theorem fill3 (A : Array Value) (hr : A.size = 3) (a b c : Value) : Instr.fill (fun i => some (i * 3, 3)) A [(0, .agg #[a, b, c])] = some #[a, b, c] := by
  obtain ⟨l⟩ := A
  match l, hr with
  | [x, y, z], _ => simp [Instr.fill, Value.cells]

/-- One operation, laid out. -/
theorem oneOp_own (w : World) (base : Nat) (q adr : Int) (dv : Value) (ys : List Int) (hb : base ≤ w.heap.size) (ho : OwnB w base 5 dv ys) :
    OwnOx (w.alloc (.cells #[.int .i64 q, .int .i64 adr, dv] 47)) base 47 5 (.slice (some ⟨w.heap.size, 0, none⟩) 1 1) [(q, adr, ys)] [.int .i64 q, .int .i64 adr, dv] (fun _ => dv) := by
  have hrow := World.ownsRow_lit (base := base) (e := 47) (size := 3) w #[.int .i64 q, .int .i64 adr, dv] 1 hb (by unfold maxLen; omega) rfl
  have c1 : Chg 0 0 w (w.alloc (.cells #[.int .i64 q, .int .i64 adr, dv] 47)) := Chg.alloc (Chg.refl 0 0 w) _
  have h1 : ∀ i, i < 1 → i = 0 := fun i h => by omega
  refine ⟨by simpa using hrow, ?_, ?_, ?_, ?_, ?_⟩
  · intro i hi; obtain rfl := h1 i hi; rfl
  · intro i hi; obtain rfl := h1 i hi; rfl
  · intro i hi; obtain rfl := h1 i hi; rfl
  · intro i hi; obtain rfl := h1 i hi; exact ho.chg c1 (by intro g _; omega)
  · intro i j g hij hj
    have := h1 j hj
    omega

end Go.Proofs.YtahjaejepkgfdaaGreatDoor

namespace Go.Proofs.YtahjaejepkgfdaaGreatDoor
open Go.RowKit

theorem app_where {P : Program} (w : World) (base : Nat) (t ty e : TypeId) (i : TypeInfo) (z : Value) (size bytes : Nat) (ht : P.underlying t = some (.slice e)) (hi : P.info? e = some i) (hz : i.zero = some z)
    (hsize : i.size = size) (hby : i.bytes = bytes) (hzs : z.cells.size = size) (hsz : 0 < size)
    (v : Value) (n : Nat) (xs : List Value) (hown : w.ownsRow base e size v n xs)
    (a : Addr) (m c : Nat) (news : List Value) (hl : news.length = m * size) (hnews : ∀ j u, news[j]? = some u → w.cell? (a.add j) = some u) (h1 : ∀ u ∈ news, u.oneCell' = true)
    (h63 : n + m ≤ maxLen) (hbytes : (n + m) * bytes ≤ 140737488355328) (hbase : base ≤ w.heap.size) (hm : 0 < m) :
    ∃ v' w', (Builtin.append_ #[t, t] ty #[v, .slice (some a) m c]).run P w = .ok v' w' ∧ w'.ownsRow base e size v' (n + m) (xs ++ news) ∧ w.grownBy w' v.ownBlock ∧ (∀ g, v'.ownBlock = some g → v.ownBlock = some g ∨ w.heap.size ≤ g) := by
  obtain ⟨v', w', hr, h2, h3, _⟩ := run_append_own (P := P) w base t ty e i z size bytes ht hi hz hsize hby hzs hsz v n xs hown a m c news hl hnews h1 h63 hbytes hbase
  refine ⟨v', w', hr, h2, h3, ?_⟩
  have hsmall : n + m ≤ 9223372036854775807 := by simp only [maxLen] at h63; omega
  rcases hown.2 with ⟨hv, hn⟩ | ⟨g, cap, cur, hv, hbg, hg, hnc, hcm, hcs, htake⟩
  · subst hsize
    subst hby
    subst hv
    subst hn
    rw [run_append_nil (P := P) w t ty e i z ht hi hz a m c news hl hnews (by omega) (by omega) (by have hb := hbytes; simp only [Nat.zero_add] at hb; omega)] at hr
    injection hr with e1 e2
    subst e1
    intro g hg
    simp [Value.ownBlock] at hg
    exact Or.inr (by omega)
  · subst hv
    by_cases hroom : n + m ≤ cap
    · obtain ⟨w2, hr2, _, _⟩ := run_append_own_spare (P := P) w base t ty e i size ht hi hsize g n cap xs hown a m c news hl hnews h1 hroom
      rw [hr2] at hr
      injection hr with e1 e2
      subst e1
      exact fun g' hg' => Or.inl hg'
    · subst hsize
      subst hby
      have holds : ∀ j u, xs[j]? = some u → w.cell? ((⟨g, 0, none⟩ : Addr).add j) = some u := hown.cells (g := g) rfl
      rw [run_append_grow (P := P) w t ty e i z ht hi hz ⟨g, 0, none⟩ n cap xs hown.1 holds a m c news hl hnews (by omega) (by omega) (growslice_fits (by omega) hbytes)] at hr
      injection hr with e1 e2
      subst e1
      intro g' hg'
      simp [Value.ownBlock] at hg'
      exact Or.inr (by omega)

/-- append(s, x...): s and x are one's own, x is not empty. -/
theorem wp_app_opsS {o : Oper} {a : Act} {w : World} {K : Act → World → Prop} {Q : Exit → Act → World → Prop} (s x : Operand)
    (ho : o.op = .call { callee := .builtin .append, args := #[s, x], argTypes := #[29, 29] }) (base N : Nat) (v xv : Value) (os ts : List Opx) (cells cells2 : List Value) (dvs dvs2 : Nat → Value)
    (hs : a.eval s = v) (hown : OwnOx w base 47 5 v os cells dvs) (hx : a.eval x = xv) (hxo : OwnOx w N 47 5 xv ts cells2 dvs2) (hN : base ≤ N) (hbase : base ≤ w.heap.size)
    (h0 : 0 < ts.length) (hk : os.length + ts.length ≤ 2097152)
    (hfr : ∀ i j g, i < os.length → j < ts.length → (dvs i).ownBlock = some g → (dvs2 j).ownBlock ≠ some g)
    (h : ∀ v' w', (∃ g cap, v' = .slice (some ⟨g, 0, none⟩) (os.length + ts.length) cap) → OwnOx w' base 47 5 v' (os ++ ts) (cells ++ cells2) (fun i => if i < os.length then dvs i else dvs2 (i - os.length)) → w.grownBy w' v.ownBlock →
      (∀ g, v'.ownBlock = some g → v.ownBlock = some g ∨ w.heap.size ≤ g) → K (a.put o.dst v') w') : o.wp Tryz.prog a w K Q := by
  obtain ⟨i, hi, hz0, hz1, hz2⟩ := info_parts Tryz.infoOp
  have hxr := hxo.row
  obtain ⟨g2, c2, rfl⟩ : ∃ g2 c2, xv = .slice (some ⟨g2, 0, none⟩) ts.length c2 := by
    rcases hxr.2 with ⟨_, h'⟩ | ⟨g2, c2, _, e, _⟩
    · omega
    · exact ⟨g2, c2, e⟩
  have hl2 : cells2.length = ts.length * 3 := hxr.1
  have hsrc : ∀ j u, cells2[j]? = some u → w.cell? ((⟨g2, 0, none⟩ : Addr).add j) = some u := by
    intro j u hj
    have hjl : j < cells2.length := (List.getElem?_eq_some_iff.1 hj).1
    rw [Addr.add_mid, Nat.zero_add, World.ownsRow.cellAt hxr j (by omega)]
    exact hj
  have hone : ∀ u ∈ cells2, u.oneCell' = true := by
    intro u hu
    obtain ⟨j, hj, rfl⟩ := List.mem_iff_getElem.1 hu
    have hd : j / 3 < ts.length := by omega
    have hm : j % 3 = 0 ∨ j % 3 = 1 ∨ j % 3 = 2 := by omega
    have hq : cells2[j]? = some cells2[j] := List.getElem?_eq_getElem hj
    rcases hm with hm | hm | hm
    · have := hxo.at0 (j / 3) hd
      rw [show j / 3 * 3 = j by omega, hq] at this
      rw [Option.some.inj this]; rfl
    · have := hxo.at1 (j / 3) hd
      rw [show j / 3 * 3 + 1 = j by omega, hq] at this
      rw [Option.some.inj this]; rfl
    · have := hxo.at2 (j / 3) hd
      rw [show j / 3 * 3 + 2 = j by omega, hq] at this
      rw [Option.some.inj this]
      rcases (hxo.data (j / 3) hd).2 with ⟨e, _⟩ | ⟨_, _, _, e, _⟩ <;> rw [e] <;> rfl
  obtain ⟨v', w', hr, h1, h2, h3⟩ := app_where (P := Tryz.prog) w base 29 o.type 47 i _ 3 40 Tryz.underlying29 hi hz0 hz1 hz2 rfl (by omega) v os.length _ hown.row ⟨g2, 0, none⟩ ts.length c2 cells2 hl2 hsrc hone (by unfold maxLen; omega) (by omega) hbase h0
  have K8 : ∀ j, j < w.heap.size → v.ownBlock ≠ some j → w'.heap[j]? = w.heap[j]? := fun j hj hne' => h2.block j hj (fun e => hne' e.symm)
  have hpE : ∀ j, v.ownBlock = some j → ∃ cur, w.heap[j]? = some (.cells cur 47 (0, 0)) := fun j hj => row_elem' hown.row hj
  have hS : ∀ {N' : Nat} {u : Value} {ys : List Int}, OwnB w N' 5 u ys → OwnB w' N' 5 u ys := fun hu => hu.same (fun j hj => K8 j (hu.lt j hj).2 (fun e => by obtain ⟨cur, hcur⟩ := hpE _ e; obtain ⟨cur', hcur'⟩ := hu.elem hj; exact cells_ne hcur hcur' (by decide) rfl))
  have hfin := h v' w' (by
    rcases h1.2 with ⟨_, h0'⟩ | ⟨g', cap', cur, e', _⟩
    · omega
    · exact ⟨g', cap', e'⟩) (hown.join hxo h1 (fun i hi => hS (hown.data i hi)) (fun i hi => (hS (hxo.data i hi)).base (fun g hg => Nat.le_trans hN ((hxo.data i hi).lt g hg).1)) hfr) h2 h3
  unfold Oper.wp execOp
  simp only [ho, resolve, invoke, builtin, Sem.run_bind, Sem.run_pure, Result.andThen_ok, List.map_toArray, List.map_cons, List.map_nil, hs, hx, hr]
  exact hfin

end Go.Proofs.YtahjaejepkgfdaaGreatDoor

namespace Go.Proofs.YtahjaejepkgfdaaGreatDoor
open Go.RowKit

/-- A part of a slice of numbers. -/
theorem View.part {w : World} {lo hi b off cap l n : Nat} {k : IntKind} {xs : List Int} (h : View w lo hi k (.slice (some ⟨b, off, none⟩) xs.length cap) xs) (hl : l + n ≤ xs.length) (hn : 0 < n) (c : Nat) (hc : n ≤ c) :
    View w lo hi k (.slice (some ⟨b, off + l, none⟩) n c) ((xs.drop l).take n) := by
  have hlen : ((xs.drop l).take n).length = n := by rw [List.length_take, List.length_drop]; omega
  obtain ⟨ao, cap', e, h0, _, h1⟩ := h
  simp only [Value.slice.injEq] at e
  obtain ⟨e1, _, _⟩ := e
  rcases h1 with h1 | ⟨b', off', e2, h2, h3, h4⟩
  · rw [h1] at hl; simp at hl; omega
  · rw [← e1] at e2
    cases e2
    refine ⟨_, c, by rw [hlen], by rw [hlen]; omega, ⟨by rw [hlen]; exact hc, by simp⟩, Or.inr ⟨b, off + l, rfl, h2, h3, fun i hi => ?_⟩⟩
    rw [hlen] at hi
    rw [Nat.add_assoc, h4 (l + i) (by omega)]
    simp only [List.getD_eq_getElem?_getD, List.getElem?_take, List.getElem?_drop]
    rw [if_pos hi]

end Go.Proofs.YtahjaejepkgfdaaGreatDoor

namespace Go.Proofs.YtahjaejepkgfdaaGreatDoor
open Go.RowKit

theorem OwnOx.nil (w : World) (base : Nat) (hb : base ≤ w.heap.size) : OwnOx (w.alloc (.cells #[] 47)) base 47 5 (.slice (some ⟨w.heap.size, 0, none⟩) 0 0) [] [] (fun _ => .slice none 0 0) := by
  have := World.ownsRow_lit (base := base) (e := 47) (size := 3) w #[] 0 hb (by unfold maxLen; omega) rfl
  exact ⟨by simpa using this, fun i h => absurd h (Nat.not_lt_zero i), fun i h => absurd h (Nat.not_lt_zero i), fun i h => absurd h (Nat.not_lt_zero i), fun i h => absurd h (Nat.not_lt_zero i), fun _ j _ _ h => absurd h (Nat.not_lt_zero j)⟩

/-- An operation more: its bytes are new. -/
theorem more_apart {N : Nat} {nv : Value} {os : List Opx} {dvs : Nat → Value} (hN : ∀ i g, i < os.length → (dvs i).ownBlock = some g → g < N) (hy : ∀ g, nv.ownBlock = some g → N ≤ g) :
    ∀ (i j : Nat) (g : Nat), i < os.length → j < 1 → (dvs i).ownBlock = some g → nv.ownBlock ≠ some g := fun i j g hi _ hg e => by have := hN i g hi hg; have := hy g e; omega

end Go.Proofs.YtahjaejepkgfdaaGreatDoor
