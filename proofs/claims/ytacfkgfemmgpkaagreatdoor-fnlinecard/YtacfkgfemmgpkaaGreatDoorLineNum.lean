/- Several short texts in one: RowM, TakeE, LineNum. -/
import Derived.Test.YtacfkgfemmgpkaaGreatDoorBytSeen
import Derived.Lib.ConvBytes
import Derived.Shelf.Strings.Builder1
import Derived.Test.YtacfkgfemmgpkaaGreatDoorTakeD
import Derived.Test.YtacfkgfemmgpkaaGreatDoorLineWord
import Derived.Test.YtacfkgfemmgpkaaGreatDoorDecL
import Derived.Test.YtacfkgfemmgpkaaGreatDoorNameSpec
namespace Go.Proofs.YtacfkgfemmgpkaaGreatDoor
open Go.RowKit

def RowM (w : World) (base : Nat) (v : Value) (xs : List Int) : Prop :=
  ∃ g cap cur fr, v = .slice (some ⟨g, 0, none⟩) xs.length cap ∧ base ≤ g ∧ w.heap[g]? = some (.cells cur 5 fr) ∧ cur.size ≤ fr.1 ∧ xs.length ≤ cap ∧ cap ≤ maxLen ∧ cur.size = cap ∧ ∀ i, i < xs.length → cur[i]? = some (.int .u8 (xs.getD i 0))
section
variable {w w' : World} {base : Nat} {v : Value} {xs : List Int}
theorem RowM.lt (h : RowM w base v xs) : ∀ g, v.ownBlock = some g → base ≤ g ∧ g < w.heap.size := by
  obtain ⟨g, cap, cur, fr, rfl, hb, hg, _⟩ := h
  intro g' e
  obtain rfl : g = g' := by simpa [Value.ownBlock] using e
  exact ⟨hb, (Array.getElem?_eq_some_iff.1 hg).1⟩
theorem RowM.elem (h : RowM w base v xs) {g : Nat} (e : v.ownBlock = some g) : ∃ cur fr, w.heap[g]? = some (.cells cur 5 fr) := by
  obtain ⟨g', cap, cur, fr, rfl, hb, hg, _⟩ := h
  obtain rfl : g' = g := by simpa [Value.ownBlock] using e
  exact ⟨_, _, hg⟩
theorem RowM.chg {l r : Nat} (h : RowM w base v xs) (c : Chg l r w w') (d : ∀ g, v.ownBlock = some g → g < l ∨ r ≤ g) : RowM w' base v xs := by
  obtain ⟨g, cap, cur, fr, rfl, hb, hg, rest⟩ := h
  exact ⟨g, cap, cur, fr, rfl, hb, (c.block g (Array.getElem?_eq_some_iff.1 hg).1 (d g rfl)).trans hg, rest⟩
theorem RowM.seen (h : RowM w base v xs) (hl : xs.length ≤ 1048576) : View w base w.heap.size .u8 v xs := by
  obtain ⟨g, cap, cur, fr, rfl, hb, hg, h1, h2, h3, h4, h5⟩ := h
  refine ⟨_, cap, rfl, by omega, ⟨h2, by simp⟩, ?_⟩
  refine Or.inr ⟨g, 0, rfl, hb, (Array.getElem?_eq_some_iff.1 hg).1, fun i hi => ?_⟩
  rw [Nat.zero_add, Lib.cell_of_heap hg]
  exact h5 i hi
theorem RowM.store {g n cap : Nat} (h : RowM w base (.slice (some ⟨g, 0, none⟩) n cap) xs) (hn : xs.length = n) (i : Nat) (hi : i < n) (x : Int) :
    (∃ u, w.cell? ⟨g, i, none⟩ = some u) ∧ w.frozen? ⟨g, i, none⟩ = false ∧ RowM (w.setCell ⟨g, i, none⟩ (.int .u8 x)) base (.slice (some ⟨g, 0, none⟩) n cap) (xs.set i x) := by
  subst hn
  obtain ⟨g', cap', cur, fr, e, hb, hg, h1, h2, h3, h4, h5⟩ := h
  simp only [Value.slice.injEq, Option.some.injEq, Addr.mk.injEq, true_and, and_true] at e
  obtain ⟨rfl, rfl⟩ := e
  refine ⟨⟨_, by rw [Lib.cell_of_heap hg]; exact h5 i hi⟩, ?_, ?_⟩
  · simp only [World.frozen?, hg]
    rw [decide_eq_false (by omega), Bool.false_and]
  · refine ⟨g, cap, cur.setIfInBounds i (.int .u8 x), fr, by rw [List.length_set], hb, ?_, by simpa using h1, by rw [List.length_set]; exact h2, h3, by simpa using h4, ?_⟩
    · rw [setCell_eq_setRow w g i cur 5 fr _ hg]
      exact setRow_heap w g cur _ 5 fr hg
    · intro j hj
      rw [List.length_set] at hj
      have hjc : j < cur.size := by omega
      rw [Array.getElem?_setIfInBounds]
      by_cases e : i = j
      · subst e
        rw [if_pos rfl, if_pos hjc]
        simp [List.getD_eq_getElem?_getD, hj]
      · rw [if_neg e, h5 j hj]
        simp [List.getD_eq_getElem?_getD, List.getElem?_set_ne e]
/-- []byte(s) -/
theorem RowM.conv (w : World) (s : ByteArray) (h : s.size ≤ 1048576) : RowM (Lib.bytesWorld w 5 s) w.heap.size (.slice (some ⟨w.heap.size, 0, none⟩) s.size (Go.grownCap w s.size 0 5)) (s.data.toList.map fun b => (b.toNat : Int)) := by
  have hl : (s.data.toList.map fun b => (b.toNat : Int)).length = s.size := by rw [List.length_map, ← Lib.size_eq]
  refine ⟨w.heap.size, _, _, _, by rw [hl], Nat.le_refl _, Lib.bytesWorld_at_new w _ s, Nat.le_refl _, by rw [hl]; exact grownCap_ge w _ _ _, grownCap_le_maxLen w _ _ _ (by unfold maxLen; omega), ?_, ?_⟩
  · have := grownCap_ge w s.size 0 5
    simp only [Lib.bytesCells, Array.size_append, Array.size_map, Array.size_replicate]
    have h2 : s.data.size = s.size := rfl
    omega
  · intro i hi
    rw [hl] at hi
    have hc := Lib.bytesWorld_cell w 5 s i hi
    rw [Lib.cell_of_heap (Lib.bytesWorld_at_new w 5 s)] at hc
    rw [hc]
    have hi2 : i < s.data.size := hi
    have hi3 : s.data[i]? = some s.data[i] := Array.getElem?_eq_getElem hi2
    simp [List.getD_eq_getElem?_getD, hi3]
/-- append(b, x): one byte. -/
theorem run_appM {g n cap : Nat} (h : RowM w base (.slice (some ⟨g, 0, none⟩) n cap) xs) (hn : xs.length = n) (hl : n < 1048576) (hb : base ≤ w.heap.size) (ty : TypeId) (d : Nat) (x : Int) (hd : w.cell? ⟨d, 0, none⟩ = some (.int .u8 x)) :
    ∃ v' w', (Builtin.append_ #[22, 22] ty #[.slice (some ⟨g, 0, none⟩) n cap, .slice (some ⟨d, 0, none⟩) 1 1]).run Tryz.prog w = .ok v' w' ∧ (∃ a c, v' = .slice a (n + 1) c) ∧ View w' base w'.heap.size .u8 v' (xs ++ [x]) ∧ Chg base w.heap.size w w' := by
  obtain ⟨i, hi, hz0, hz1, hz2⟩ := info_parts Tryz.infoU1
  subst hn
  have h' := h
  obtain ⟨g', cap', cur, fr, e, hbg, hg, h1, h2, h3, h4, h5⟩ := h
  simp only [Value.slice.injEq, Option.some.injEq, Addr.mk.injEq, true_and, and_true] at e
  obtain ⟨rfl, rfl⟩ := e
  have hlt := (Array.getElem?_eq_some_iff.1 hg).1
  have hnews : ∀ j u, [Value.int .u8 x][j]? = some u → w.cell? ((⟨d, 0, none⟩ : Addr).add j) = some u := by
    intro j u hj
    match j, hj with
    | 0, hj => simp at hj; subst hj; simpa [Addr.add] using hd
  by_cases hroom : xs.length + 1 ≤ cap
  · have hin : xs.length < cur.size := by omega
    have hcell : w.cell? ⟨g, xs.length, none⟩ = some cur[xs.length] := by simp [World.cell?, hg, hin]
    have hfro : w.frozen? ⟨g, xs.length, none⟩ = false := by
      simp only [World.frozen?, hg]
      rw [decide_eq_false (by omega), Bool.false_and]
    have hst : (store ⟨g, xs.length, none⟩ (.int .u8 x)).run Tryz.prog w = .ok () (w.setCell ⟨g, xs.length, none⟩ (.int .u8 x)) := by
      rw [run_store Tryz.prog w _ _ _ rfl, hcell]
      simp [hfro]
    have hf := run_firstCells_some (P := Tryz.prog) w 1 1 ⟨d, 0, none⟩ 1 1 [.int .u8 x] rfl hnews
    refine ⟨.slice (some ⟨g, 0, none⟩) (xs.length + 1) cap, w.setCell ⟨g, xs.length, none⟩ (.int .u8 x), ?_, ⟨_, _, rfl⟩, ?_, Chg.setCell (Chg.refl _ _ _) (p := ⟨g, xs.length, none⟩) (Or.inl ⟨hbg, hlt⟩) _⟩
    · simp [Builtin.append_, run_underlying Tryz.underlying22, Go.sizeOf, typeInfo, hi, hz1, Builtin.lenOf, hroom, hf, Addr.add_lit, storeCells, hst]
    · have key : RowM (w.setCell ⟨g, xs.length, none⟩ (.int .u8 x)) base (.slice (some ⟨g, 0, none⟩) (xs.length + 1) cap) (xs ++ [x]) := by
        refine ⟨g, cap, cur.setIfInBounds xs.length (.int .u8 x), fr, by simp, hbg, ?_, by simpa using h1, by simpa using hroom, h3, by simpa using h4, ?_⟩
        · rw [setCell_eq_setRow w g _ cur 5 fr _ hg]
          exact setRow_heap w g cur _ 5 fr hg
        · intro j hj
          rw [List.length_append, List.length_singleton] at hj
          rw [Array.getElem?_setIfInBounds]
          by_cases e : xs.length = j
          · subst e
            rw [if_pos rfl, if_pos hin]
            simp [List.getD_eq_getElem?_getD]
          · rw [if_neg e, h5 j (by omega)]
            simp [List.getD_eq_getElem?_getD, List.getElem?_append_left (show j < xs.length by omega)]
      exact key.seen (by simp; omega)
  · have holds : ∀ j u, (xs.map (Value.int .u8))[j]? = some u → w.cell? ((⟨g, 0, none⟩ : Addr).add j) = some u := by
      intro j u hj
      have hjl : j < xs.length := by have := (List.getElem?_eq_some_iff.1 hj).1; simpa using this
      rw [Addr.add_mid, Nat.zero_add, Lib.cell_of_heap hg, ← hj]
      rw [h5 j hjl]
      simp [List.getD_eq_getElem?_getD, hjl]
    have hr := run_append_grow (P := Tryz.prog) w 22 ty 5 i _ Tryz.underlying22 hi hz0 ⟨g, 0, none⟩ xs.length cap (xs.map (Value.int .u8)) (by rw [hz1]; simp) holds ⟨d, 0, none⟩ 1 1 [.int .u8 x] (by rw [hz1]; rfl) hnews (by omega) (by omega) (growslice_fits (by omega) (by rw [hz2]; omega))
    have hge := grownCap_ge w (xs.length + 1) cap 5
    refine ⟨_, _, hr, ⟨_, _, rfl⟩, ?_, (Chg.drew (Chg.refl _ _ w)).alloc _⟩
    refine ⟨_, _, by rw [List.length_append, List.length_singleton], by simp; omega, ⟨by simpa using hge, by simp⟩, ?_⟩
    refine Or.inr ⟨w.heap.size, 0, rfl, hb, by simp, fun j hj => ?_⟩
    rw [List.length_append, List.length_singleton] at hj
    have hh := Lib.cell_of_heap (j := j) (show (w.drew.alloc (.cells ((xs.map (Value.int .u8)).toArray ++ [Value.int .u8 x].toArray ++ Builtin.zeroCells (Value.int .u8 0).cells (grownCap w (xs.length + 1) cap 5 - (xs.length + 1))) 5)).heap[w.heap.size]? = _ from heap_new w.drew _)
    rw [Nat.zero_add]
    refine hh.trans ?_
    rw [← Array.getElem?_toList]
    simp only [Array.toList_append, List.append_assoc]
    rw [← List.append_assoc, List.getElem?_append_left (by simp; omega)]
    rw [show (List.map (Value.int IntKind.u8) xs ++ [Value.int IntKind.u8 x]) = (xs ++ [x]).map (Value.int .u8) by simp, List.getElem?_map, List.getD_eq_getElem?_getD, List.getElem?_eq_getElem (show j < (xs ++ [x]).length by simp; omega)]
    rfl
theorem wpList_appM {ops : Array Oper} {rest : List Oper} {o : Oper} {a : Act} {Q : Exit → Act → World → Prop} (hgd : o.guard = none) (s x : Operand)
    (ho : o.op = .call { callee := .builtin .append, args := #[s, x], argTypes := #[22, 22] }) {g n cap : Nat} (h : RowM w base (.slice (some ⟨g, 0, none⟩) n cap) xs) (hn : xs.length = n) (hl : n < 1048576) (hb : base ≤ w.heap.size) (d : Nat) (y : Int) (hd : w.cell? ⟨d, 0, none⟩ = some (.int .u8 y))
    (hs : a.eval s = .slice (some ⟨g, 0, none⟩) n cap) (hx : a.eval x = .slice (some ⟨d, 0, none⟩) 1 1)
    (hK : ∀ v' w', (∃ a c, v' = .slice a (n + 1) c) → View w' base w'.heap.size .u8 v' (xs ++ [y]) → Chg base w.heap.size w w' → wpList Tryz.prog ops Q rest (a.put o.dst v') w') : wpList Tryz.prog ops Q (o :: rest) a w := by
  refine wpList_plain hgd fun _ hK' => ?_
  obtain ⟨v', w', hr, h2, h3, h4⟩ := run_appM h hn hl hb o.type d y hd
  unfold Oper.wp execOp
  simp only [ho, resolve, invoke, builtin, Sem.run_bind, Sem.run_pure, Result.andThen_ok, List.map_toArray, List.map_cons, List.map_nil, hs, hx, hr]
  exact hK' _ _ (hK v' w' h2 h3 h4)
end

end Go.Proofs.YtacfkgfemmgpkaaGreatDoor

namespace Go.Proofs.YtacfkgfemmgpkaaGreatDoor
open Go.RowKit Go.Lib

/-- k letters from c on. -/
def letL (c k : Nat) : List Int := (List.range k).map fun i => ((97 + (c - 97 + i) % 26 : Nat) : Int)
def letF (s : Lst) (x : ByteArray) : Option Lst :=
  if x.size = 1 ∧ 97 ≤ chr x 0 ∧ chr x 0 ≤ 122 then some { s with data := strOfNums (letL (chr x 0) s.data.size) } else none

theorem letL_set (c n k : Nat) (h : k < n) (xs : List Int) (hl : xs.length = n) (hp : ∀ i, i < k → xs.getD i 0 = ((97 + (c - 97 + i) % 26 : Nat) : Int)) :
    ∀ i, i < k + 1 → (xs.set k ((97 + (c - 97 + k) % 26 : Nat) : Int)).getD i 0 = ((97 + (c - 97 + i) % 26 : Nat) : Int) := by
  intro i hi
  by_cases e : i = k
  · subst e
    simp [List.getD_eq_getElem?_getD, hl, h]
  · rw [← hp i (by omega)]
    simp [List.getD_eq_getElem?_getD, List.getElem?_set_ne (fun h => e h.symm)]
theorem letL_all (c n : Nat) (xs : List Int) (hl : xs.length = n) (hp : ∀ i, i < n → xs.getD i 0 = ((97 + (c - 97 + i) % 26 : Nat) : Int)) : xs = letL c n := by
  apply List.ext_getElem?
  intro i
  by_cases hi : i < n
  · have h1 := hp i hi
    rw [List.getD_eq_getElem?_getD, List.getElem?_eq_getElem (by omega)] at h1
    rw [List.getElem?_eq_getElem (by omega)]
    unfold letL
    simp only [List.getElem?_map, List.getElem?_range hi, Option.map_some]
    congr 1
  · rw [List.getElem?_eq_none (by omega), List.getElem?_eq_none (by unfold letL; simp; omega)]

set_option maxRecDepth 20000 in
set_option maxHeartbeats 2000000 in
theorem takeLetter_ok : TakeOk 37 letF := by
  intro W b s x hx _ hdz _ _ _ hL
  have hb := hL.lt
  have hW := fun V v => isWithin_calls V v 97 122
  by_cases h1 : x.size = 1
  case neg =>
    have HF : Hid (letF s x = none) := by show _ = _; unfold letF; rw [if_neg (fun h => h1 h.1)]
    rw [HF.out]
    have hb1 : ((x.size : Int) != 1) = true := by rw [bne_iff_ne]; omega
    have HC : Hid (Chg b W.heap.size W W ∧ Oth b W W) := ⟨Chg.refl _ _ _, oth_of (Chg.refl _ _ _)⟩
    clear h1
    go_enter Tryz.func37, Tryz.ntmps37
    go_wp2
    go_ret
    exact ⟨rfl, fun s' e => by (cases e), HC.out⟩
  have hsz : (0 : Int) < (x.size : Int) := by omega
  have h0 : 0 < x.size := by omega
  have hcs : x[0].toNat = chr x 0 := (chr_lt h0).symm
  have hc2 := chr_256 x 0
  have hb1 : ((x.size : Int) != 1) = false := by rw [h1]; rfl
  have e0 : IntKind.i64.wrap ((chr x 0 : Nat) : Int) = ((chr x 0 : Nat) : Int) := by rw [IntKind.wrap_i64]; omega
  by_cases hin : 97 ≤ chr x 0 ∧ chr x 0 ≤ 122
  case neg =>
    have HF : Hid (letF s x = none) := by show _ = _; unfold letF; rw [if_neg (fun h => hin h.2)]
    rw [HF.out]
    have HC : Hid (Chg b W.heap.size W W ∧ Oth b W W) := ⟨Chg.refl _ _ _, oth_of (Chg.refl _ _ _)⟩
    have hd : (decide ((97 : Int) ≤ ((chr x 0 : Nat) : Int)) && decide (((chr x 0 : Nat) : Int) ≤ 122)) = false := by
      rw [Bool.and_eq_false_iff, decide_eq_false_iff_not, decide_eq_false_iff_not]; omega
    generalize chr x 0 = c at *
    go_enter Tryz.func37, Tryz.ntmps37
    go_wp2_with fail
    refine (hW _ _).mono ?_
    rintro e w3 ⟨rfl, rfl⟩
    rw [hd]
    go_wp2
    go_ret
    exact ⟨rfl, fun s' e => by (cases e), HC.out⟩
  have HF : Hid (letF s x = some { s with data := strOfNums (letL (chr x 0) s.data.size) }) := by show _ = _; unfold letF; rw [if_pos ⟨h1, hin⟩]
  rw [HF.out]
  have hd : (decide ((97 : Int) ≤ ((chr x 0 : Nat) : Int)) && decide (((chr x 0 : Nat) : Int) ≤ 122)) = true := by simp; omega
  clear HF
  generalize chr x 0 = c at *
  have e1 : IntKind.u8.wrap ((c : Int) - 97) = (c : Int) - 97 := by rw [IntKind.wrap_u8]; omega
  have e2 : IntKind.i64.wrap ((c : Int) - 97) = (c : Int) - 97 := by rw [IntKind.wrap_i64]; omega
  have hcv := Lib.run_convert_string_bytes (P := Tryz.prog) W 9 22 5 s.data (u := .string) Tryz.underlying9 Tryz.underlying22 Tryz.underlying5
  have hR := RowM.conv W s.data (by omega)
  have cB : Chg 0 0 W (Lib.bytesWorld W 5 s.data) := bytesWorld_chg W s.data
  have hql : (s.data.data.toList.map fun b => (b.toNat : Int)).length = s.data.size := by rw [List.length_map, ← Lib.size_eq]
  have sB : (Lib.bytesWorld W 5 s.data).heap.size = W.heap.size + 1 := Lib.bytesWorld_size _ _ _
  have H0 : Hid (LineAt W b s) := hL
  obtain ⟨nv, hh, _⟩ := hL
  have y : W.cell? ⟨b, 7, none⟩ = some (.string s.data) := by rw [Lib.cell_of_heap hh]; rfl
  generalize Lib.bytesWorld W 5 s.data = w1 at *
  generalize (s.data.data.toList.map fun b => (b.toNat : Int)) = xs at *
  generalize grownCap W s.data.size 0 5 = cq at *
  have HR : Hid (RowM w1 W.heap.size (.slice (some ⟨W.heap.size, 0, none⟩) s.data.size cq) xs) := hR
  have HC : Hid (Chg 0 0 W w1) := cB
  clear hR cB hh
  generalize hn : s.data.size = n at *
  have Hn : Hid (s.data.size = n) := hn
  clear hn
  go_enter Tryz.func37, Tryz.ntmps37
  go_wp2_with fail
  refine (hW _ _).mono ?_
  rintro e w3 ⟨rfl, rfl⟩
  rw [hd]
  clear hW
  go_wp2
  go_loopw [30] (fun i wr => ∃ (k : Nat) (ys : List Int), k ≤ n ∧ i = .int .i64 k ∧ ys.length = n ∧ (∀ i, i < k → ys.getD i 0 = ((97 + (c - 97 + i) % 26 : Nat) : Int)) ∧ RowM wr w3.heap.size (.slice (some ⟨w3.heap.size, 0, none⟩) n cq) ys ∧ Chg 0 0 w3 wr) (fun i _ => n - (RowKit.intOf i).toNat)
  case atStart => exact ⟨0, xs, Nat.zero_le _, rfl, hql, fun i hi => absurd hi (Nat.not_lt_zero i), HR.out, HC.out⟩
  case round =>
    obtain ⟨k, ys, hk, rfl, hyl, hp, hr, hch⟩ := hrel
    have HR2 : Hid (RowM wr w3.heap.size (.slice (some ⟨w3.heap.size, 0, none⟩) n cq) ys) := hr
    have HC2 : Hid (Chg 0 0 w3 wr) := hch
    have Hp : Hid (∀ i, i < k → ys.getD i 0 = ((97 + (c - 97 + i) % 26 : Nat) : Int)) := hp
    clear hr hch hp HR HC hcv
    by_cases hlt : k < n
    · have hi1 : (k : Int) < (n : Int) := by omega
      obtain ⟨⟨u, hu⟩, hfz, hr3⟩ := HR2.out.store hyl k hlt ((97 + (c - 97 + k) % 26 : Nat) : Int)
      have e3 : IntKind.i64.wrap ((c : Int) - 97 + (k : Int)) = (c : Int) - 97 + (k : Int) := by rw [IntKind.wrap_i64]; omega
      have e4 : ((c : Int) - 97 + (k : Int)).tmod 26 = (((c - 97 + k) % 26 : Nat) : Int) := by rw [Int.tmod_eq_emod_of_nonneg (by omega)]; omega
      have e5 : IntKind.i64.wrap (((c - 97 + k) % 26 : Nat) : Int) = (((c - 97 + k) % 26 : Nat) : Int) := by rw [IntKind.wrap_i64]; omega
      have e6 : IntKind.i64.wrap (97 + (((c - 97 + k) % 26 : Nat) : Int)) = ((97 + (c - 97 + k) % 26 : Nat) : Int) := by rw [IntKind.wrap_i64]; omega
      have e7 : IntKind.u8.wrap ((97 + (c - 97 + k) % 26 : Nat) : Int) = ((97 + (c - 97 + k) % 26 : Nat) : Int) := by rw [IntKind.wrap_u8]; omega
      have HP2 : Hid (∀ i, i < k + 1 → (ys.set k ((97 + (c - 97 + k) % 26 : Nat) : Int)).getD i 0 = ((97 + (c - 97 + i) % 26 : Nat) : Int)) := letL_set c n k hlt ys hyl Hp.out
      have HR3 : Hid (RowM (wr.setCell ⟨w3.heap.size, k, none⟩ (.int .u8 ((97 + (c - 97 + k) % 26 : Nat) : Int))) w3.heap.size (.slice (some ⟨w3.heap.size, 0, none⟩) n cq) (ys.set k ((97 + (c - 97 + k) % 26 : Nat) : Int))) := hr3
      have HC3 : Hid (Chg 0 0 w3 (wr.setCell ⟨w3.heap.size, k, none⟩ (.int .u8 ((97 + (c - 97 + k) % 26 : Nat) : Int)))) := HC2.out.setCell (p := ⟨w3.heap.size, k, none⟩) (Or.inr (Nat.le_refl _)) _
      clear hr3
      generalize hvv : ((97 + (c - 97 + k) % 26 : Nat) : Int) = vv at *
      generalize hmm : (((c - 97 + k) % 26 : Nat) : Int) = mm at *
      go_wp2
      go_roundw
      case rel => exact ⟨k + 1, _, by omega, by go_num, by rw [List.length_set]; exact hyl, HP2.out, HR3.out, HC3.out⟩
      case measure => simp [RowKit.intOf]; omega
    · obtain rfl : k = n := by omega
      have hi1 : ¬ (k : Int) < (k : Int) := by omega
      have hst := (HR2.out.seen (by omega)).str
      have hys := letL_all c k ys hyl Hp.out
      have hL2 := H0.out.keep HC2.out
      obtain ⟨_, fz, hL3, c3⟩ := hL2.put 7 (.string (strOfNums ys)) (s' := { s with data := strOfNums ys }) (fun nv => rfl) rfl
      obtain ⟨nv', hh, _⟩ := hL2
      have y7 : wr.cell? ⟨b, 7, none⟩ = some (.string s.data) := by rw [Lib.cell_of_heap hh]; rfl
      have HL : Hid (LineAt (wr.setCell ⟨b, 7, none⟩ (.string (strOfNums ys))) b { s with data := strOfNums (letL c k) }) := by rw [← hys]; exact hL3
      have HCz : Hid (Chg b w3.heap.size w3 (wr.setCell ⟨b, 7, none⟩ (.string (strOfNums ys))) ∧ Oth b w3 (wr.setCell ⟨b, 7, none⟩ (.string (strOfNums ys)))) := ⟨chg_into HC2.out c3, oth_put HC2.out 7 _⟩
      clear hL3 c3 hh hys
      go_wp2
      go_ret
      first
        | exact ⟨rfl, HL.out, HCz.out⟩
        | exact ⟨rfl, fun s' e => by injection e with e; rw [← e]; exact HL.out, HCz.out⟩

end Go.Proofs.YtacfkgfemmgpkaaGreatDoor

namespace Go.Proofs.YtacfkgfemmgpkaaGreatDoor
open Go.RowKit Go.Lib

/-- append of one number to numbers of one's own, nothing else told. -/
theorem wpList_app_i {ops : Array Oper} {rest : List Oper} {o : Oper} {a : Act} {w : World} {Q : Exit → Act → World → Prop} (hgd : o.guard = none) (s x : Operand)
    (ho : o.op = .call { callee := .builtin .append, args := #[s, x], argTypes := #[33, 33] })
    (base : Nat) (sv : Value) (xs : List Int) (hs : a.eval s = sv) (hO : OwnN w base sv xs) (hbase : base ≤ w.heap.size) (d : Nat) (n : Int) (hx : a.eval x = .slice (some ⟨d, 0, none⟩) 1 1) (hd : w.cell? ⟨d, 0, none⟩ = some (.int .i64 n)) (hl : xs.length ≤ 1048576)
    (h : ∀ g cp w', OwnN w' base (.slice (some ⟨g, 0, none⟩) (xs.length + 1) cp) (xs ++ [n]) → Chg base w.heap.size w w' → wpList Tryz.prog ops Q rest (a.put o.dst (.slice (some ⟨g, 0, none⟩) (xs.length + 1) cp)) w') : wpList Tryz.prog ops Q (o :: rest) a w := by
  obtain ⟨i, hi, hz0, hz1, hz2⟩ := info_parts Tryz.infoN
  have hrow : w.ownsRow base 2 1 sv xs.length (xs.map (Value.int .i64)) := hO
  have HNW : ∀ j u, [Value.int .i64 n][j]? = some u → w.cell? ((⟨d, 0, none⟩ : Addr).add j) = some u := by
    intro j u hj
    match j, hj with
    | 0, hj => simp at hj; subst hj; simpa [Addr.add] using hd
  refine wpList_append_own _ hgd s x 33 ho base 2 i (.int .i64 0) 1 8 Tryz.underlying33 hi hz0 hz1 hz2 rfl (by decide) sv xs.length (xs.map (Value.int .i64)) hs hrow ⟨d, 0, none⟩ 1 1 [.int .i64 n] hx rfl HNW (fun u hu => by simp at hu; subst hu; rfl) (by unfold maxLen; omega) (by omega) hbase ?_
  intro v' w2 hown hgrow _
  obtain ⟨g, cp, rfl⟩ : ∃ g cp, v' = .slice (some ⟨g, 0, none⟩) (xs.length + 1) cp := by
    rcases hown.2 with ⟨_, h0⟩ | ⟨g, cap, cur, hv, _⟩
    · omega
    · exact ⟨g, cap, hv⟩
  refine h g cp w2 ?_ (Chg.ofGrown hgrow (fun k hk _ => World.ownsRow.lt hrow k hk))
  unfold OwnN
  rw [List.length_append, List.map_append]
  exact hown

def numsG : List Int → List ByteArray → List Int × Bool
  | acc, [] => (acc, true)
  | acc, x :: r => match numF x with
    | none => (acc, false)
    | some n => numsG (acc ++ [n]) r

theorem OwnN.nil' (w : World) : OwnN (w.alloc (.cells #[] 2)) w.heap.size (.slice (some ⟨w.heap.size, 0, none⟩) 0 0) [] := by
  have := World.ownsRow_lit (base := w.heap.size) (e := 2) (size := 1) w #[] 0 (Nat.le_refl _) (by unfold maxLen; omega) (by simp)
  simpa [OwnN] using this

theorem letL_succ (c k : Nat) : letL c (k + 1) = letL c k ++ [((97 + (c - 97 + k) % 26 : Nat) : Int)] := by
  unfold letL; rw [List.range_succ, List.map_append]; rfl
theorem letL_len (c k : Nat) : (letL c k).length = k := by unfold letL; simp

end Go.Proofs.YtacfkgfemmgpkaaGreatDoor
