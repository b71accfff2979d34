/- Several short texts in one: ShelfRep, TakeD, RowM. -/
import Derived.Shelf.Strings.Repeat
import Derived.Test.YteaeikmgkmpkiaaGreatDoorRows
import Derived.Test.YteaeikmgkmpkiaaGreatDoorTakeB
import Derived.Test.YteaeikmgkmpkiaaGreatDoorBytSeen
import Derived.Lib.ConvBytes
import Derived.Shelf.Strings.Builder1
namespace Go.Proofs.YteaeikmgkmpkiaaGreatDoor
open Go.Shelf

def Tryz.lays105_ren : Go.Shelf.Ren := ⟨fun | 105 => 49 | 212 => 58 | 99 => 59 | 165 => 60 | 166 => 61 | 170 => 62 | 169 => 63 | 263 => 74 | 264 => 75 | 206 => 76 | 240 => 77 | 241 => 78 | 276 => 93 | 277 => 94 | n => n, fun | 9 => 9 | 3 => 3 | 4 => 4 | 20 => 20 | 0 => 0 | 46 => 81 | 109 => 82 | 5 => 5 | 72 => 87 | 76 => 89 | 51 => 103 | 146 => 104 | 53 => 97 | 148 => 106 | 70 => 85 | 37 => 22 | 75 => 77 | 127 => 108 | 164 => 120 | 80 => 92 | n => n, fun | n => n⟩

theorem Tryz.lays105 : Go.Proofs.Lays.n105 Tryz.prog Tryz.lays105_ren := {
  mixed := by kernel_rfl
  f99 := Tryz.func59.trans (congrArg some (by kernel_rfl))
  f105 := Tryz.func49.trans (congrArg some (by kernel_rfl))
  f165 := Tryz.func60.trans (congrArg some (by kernel_rfl))
  f166 := Tryz.func61.trans (congrArg some (by kernel_rfl))
  f169 := Tryz.func63.trans (congrArg some (by kernel_rfl))
  f170 := Tryz.func62.trans (congrArg some (by kernel_rfl))
  f206 := Tryz.func76.trans (congrArg some (by kernel_rfl))
  f212 := Tryz.func58.trans (congrArg some (by kernel_rfl))
  f240 := Tryz.func77.trans (congrArg some (by kernel_rfl))
  f241 := Tryz.func78.trans (congrArg some (by kernel_rfl))
  f263 := Tryz.func74.trans (congrArg some (by kernel_rfl))
  f264 := Tryz.func75.trans (congrArg some (by kernel_rfl))
  f276 := Tryz.func93.trans (congrArg some (by kernel_rfl))
  f277 := Tryz.func94.trans (congrArg some (by kernel_rfl))
  t0 := Tryz.underlying0
  a0 := Tryz.isAgg0
  z0 := Tryz.sizeOf0
  v0 := Tryz.zeroValue0
  t3 := Tryz.underlying3
  a3 := Tryz.isAgg3
  z3 := Tryz.sizeOf3
  v3 := Tryz.zeroValue3
  t4 := Tryz.underlying4
  a4 := Tryz.isAgg4
  z4 := Tryz.sizeOf4
  v4 := Tryz.zeroValue4
  t5 := Tryz.underlying5
  a5 := Tryz.isAgg5
  z5 := Tryz.sizeOf5
  v5 := Tryz.zeroValue5
  t9 := Tryz.underlying9
  a9 := Tryz.isAgg9
  z9 := Tryz.sizeOf9
  v9 := Tryz.zeroValue9
  t20 := Tryz.underlying20
  a20 := Tryz.isAgg20
  z20 := Tryz.sizeOf20
  v20 := Tryz.zeroValue20
  t37 := Tryz.underlying22
  a37 := Tryz.isAgg22
  z37 := Tryz.sizeOf22
  v37 := Tryz.zeroValue22
  t46 := Tryz.underlying81
  a46 := Tryz.isAgg81
  z46 := Tryz.sizeOf81
  v46 := Tryz.zeroValue81
  t51 := Tryz.underlying103
  a51 := Tryz.isAgg103
  z51 := Tryz.sizeOf103
  v51 := Tryz.zeroValue103
  t53 := Tryz.underlying97
  a53 := Tryz.isAgg97
  z53 := Tryz.sizeOf97
  v53 := Tryz.zeroValue97
  t70 := Tryz.underlying85
  a70 := Tryz.isAgg85
  z70 := Tryz.sizeOf85
  v70 := Tryz.zeroValue85
  t72 := Tryz.underlying87
  a72 := Tryz.isAgg87
  z72 := Tryz.sizeOf87
  v72 := Tryz.zeroValue87
  t75 := Tryz.underlying77
  a75 := Tryz.isAgg77
  z75 := Tryz.sizeOf77
  v75 := Tryz.zeroValue77
  t76 := Tryz.underlying89
  a76 := Tryz.isAgg89
  z76 := Tryz.sizeOf89
  v76 := Tryz.zeroValue89
  t109 := Tryz.underlying82
  a109 := Tryz.isAgg82
  z109 := Tryz.sizeOf82
  v109 := Tryz.zeroValue82
  t127 := Tryz.underlying108
  a127 := Tryz.isAgg108
  z127 := Tryz.sizeOf108
  v127 := Tryz.zeroValue108
  t146 := Tryz.underlying104
  a146 := Tryz.isAgg104
  z146 := Tryz.sizeOf104
  v146 := Tryz.zeroValue104
  t148 := Tryz.underlying106
  a148 := Tryz.isAgg106
  z148 := Tryz.sizeOf106
  v148 := Tryz.zeroValue106
  t164 := Tryz.underlying120
  a164 := Tryz.isAgg120
  z164 := Tryz.sizeOf120
  v164 := Tryz.zeroValue120 }

theorem Tryz.Builder_Extra_105 : Builder.Extra Tryz.prog Tryz.lays105_ren := {
  sizeBuilder := by kernel_rfl
  liesBuilder := by kernel_rfl
  t5 := Tryz.underlying5
  a5 := Tryz.isAgg5
  z5 := Tryz.sizeOf5
  v5 := Tryz.zeroValue5
  infoByte := by kernel_rfl
  cellsByte := by kernel_rfl
  sizeByte := by kernel_rfl
  neB5 := by decide }

end Go.Proofs.YteaeikmgkmpkiaaGreatDoor

namespace Go.Proofs.YteaeikmgkmpkiaaGreatDoor
open Go.RowKit Go.Lib

def aN (k : Nat) : ByteArray := ⟨(Lib.repeatL [97] k).toArray⟩
def lenF (s : Lst) (x : ByteArray) : Option Lst := match numF x with
  | none => none
  | some n => if 0 ≤ n ∧ n ≤ 3000 then some { s with data := aN n.toNat } else none

set_option maxHeartbeats 1000000 in
theorem takeLength_ok : TakeOk 35 lenF := by
  intro W b s x hx _ _ hS hR hP hL
  have hb := hL.lt
  have hN := numberOf_calls W x hx hS hR hP
  cases hn : numF x with
  | none =>
    rw [hn] at hN
    have HF : Hid (lenF s x = none) := by show _ = _; unfold lenF; rw [hn]
    rw [HF.out]
    go_enter Tryz.func35, Tryz.ntmps35
    go_wp2_with fail
    refine hN.mono ?_
    rintro e w2 ⟨rfl, c2⟩
    have HC : Hid (Chg b W.heap.size W w2) := c2.widen (Or.inr (Nat.le_refl 0)) (Or.inr (Nat.le_refl 0))
    have HO : Hid (Oth b W w2) := oth_of c2
    clear c2 hN
    go_wp2
    go_ret
    exact ⟨rfl, fun s' e => by (cases e), HC.out, HO.out⟩
  | some n =>
    rw [hn] at hN
    have hW := fun V => isWithin_calls V n 0 3000
    by_cases hin : 0 ≤ n ∧ n ≤ 3000
    · have HF : Hid (lenF s x = some { s with data := aN n.toNat }) := by show _ = _; unfold lenF; rw [hn]; exact if_pos hin
      rw [HF.out]
      have hd : (decide ((0 : Int) ≤ n) && decide (n ≤ 3000)) = true := by simp; omega
      obtain ⟨k, rfl⟩ : ∃ k : Nat, n = (k : Int) := ⟨n.toNat, by omega⟩
      have hRp := fun V => Any.strings_Repeat Tryz.lays105 Tryz.Builder_Extra_105 ⟨#[97]⟩ k V (by omega) (by have : (⟨#[97]⟩ : ByteArray).size = 1 := rfl; rw [this]; omega)
      have hk : ((k : Int)).toNat = k := by omega
      rw [hk]
      have ew : IntKind.i64.wrap (k : Int) = (k : Int) := by rw [IntKind.wrap_i64]; omega
      have ha : (⟨(Lib.repeatL (⟨#[97]⟩ : ByteArray).data.toList k).toArray⟩ : ByteArray) = aN k := rfl
      rw [ha] at hRp
      clear HF hk ha
      generalize aN k = dt at *
      go_enter Tryz.func35, Tryz.ntmps35
      go_wp2_with fail
      refine hN.mono ?_
      rintro e w2 ⟨rfl, c2⟩
      go_wp2_with fail
      refine (hW _).mono ?_
      rintro e w3 ⟨rfl, rfl⟩
      rw [hd]
      go_wp2_with fail
      refine (hRp _).mono ?_
      rintro e w4 ⟨rfl, c4⟩
      have c5 : Chg 0 0 W w4 := c2.trans (Chg.ofBelow c4 0 0)
      obtain ⟨_, fz, hL3, c3⟩ := (hL.keep c5).put 7 (.string dt) (s' := { s with data := dt }) (fun nv => rfl) rfl
      obtain ⟨nv, h1, _⟩ := hL.keep c5
      have y : w4.cell? ⟨b, 7, none⟩ = some (.string s.data) := by rw [Lib.cell_of_heap h1]; rfl
      have HL : Hid (LineAt (w4.setCell ⟨b, 7, none⟩ (.string dt)) b { s with data := dt }) := hL3
      have HC : Hid (Chg b W.heap.size W (w4.setCell ⟨b, 7, none⟩ (.string dt))) := chg_into c5 c3
      have HO : Hid (Oth b W (w4.setCell ⟨b, 7, none⟩ (.string dt))) := oth_put c5 7 _
      clear hL3 c3 h1 c2 hN hL c4 c5 hRp hW hd
      go_wp2
      go_ret
      exact ⟨rfl, fun s' e => by injection e with e; rw [← e]; exact HL.out, HC.out, HO.out⟩
    · have HF : Hid (lenF s x = none) := by show _ = _; unfold lenF; rw [hn]; exact if_neg hin
      rw [HF.out]
      have hd : (decide ((0 : Int) ≤ n) && decide (n ≤ 3000)) = false := by
        rw [Bool.and_eq_false_iff, decide_eq_false_iff_not, decide_eq_false_iff_not]; omega
      go_enter Tryz.func35, Tryz.ntmps35
      go_wp2_with fail
      refine hN.mono ?_
      rintro e w2 ⟨rfl, c2⟩
      have HC : Hid (Chg b W.heap.size W w2) := c2.widen (Or.inr (Nat.le_refl 0)) (Or.inr (Nat.le_refl 0))
      have HO : Hid (Oth b W w2) := oth_of c2
      clear c2 hN
      go_wp2_with fail
      refine (hW _).mono ?_
      rintro e w3 ⟨rfl, rfl⟩
      rw [hd]
      go_wp2
      go_ret
      exact ⟨rfl, fun s' e => by (cases e), HC.out, HO.out⟩

end Go.Proofs.YteaeikmgkmpkiaaGreatDoor

namespace Go.Proofs.YteaeikmgkmpkiaaGreatDoor
open Go.RowKit

def RowM (w : World) (base : Nat) (v : Value) (xs : List Int) : Prop :=
  ∃ g cap cur fr, v = .slice (some ⟨g, 0, none⟩) xs.length cap ∧ base ≤ g ∧ w.heap[g]? = some (.cells cur 5 fr) ∧ cur.size ≤ fr.1 ∧ xs.length ≤ cap ∧ cap ≤ maxLen ∧ cur.size = cap ∧ ∀ i, i < xs.length → cur[i]? = some (.int .u8 (xs.getD i 0))
section
variable {w w' : World} {base : Nat} {v : Value} {xs : List Int}
theorem RowM.lt (h : RowM w base v xs) : ∀ g, v.ownBlock = some g → base ≤ g ∧ g < w.heap.size := by
  obtain ⟨g, cap, cur, fr, rfl, hb, hg, _⟩ := h
  intro g' e
  obtain rfl : g = g' := by simpa [Value.ownBlock] using e
  exact ⟨hb, (Array.getElem?_eq_some_iff.1 hg).1⟩
theorem RowM.elem (h : RowM w base v xs) {g : Nat} (e : v.ownBlock = some g) : ∃ cur fr, w.heap[g]? = some (.cells cur 5 fr) := by
  obtain ⟨g', cap, cur, fr, rfl, hb, hg, _⟩ := h
  obtain rfl : g' = g := by simpa [Value.ownBlock] using e
  exact ⟨_, _, hg⟩
theorem RowM.chg {l r : Nat} (h : RowM w base v xs) (c : Chg l r w w') (d : ∀ g, v.ownBlock = some g → g < l ∨ r ≤ g) : RowM w' base v xs := by
  obtain ⟨g, cap, cur, fr, rfl, hb, hg, rest⟩ := h
  exact ⟨g, cap, cur, fr, rfl, hb, (c.block g (Array.getElem?_eq_some_iff.1 hg).1 (d g rfl)).trans hg, rest⟩
theorem RowM.seen (h : RowM w base v xs) (hl : xs.length ≤ 1048576) : View w base w.heap.size .u8 v xs := by
  obtain ⟨g, cap, cur, fr, rfl, hb, hg, h1, h2, h3, h4, h5⟩ := h
  refine ⟨_, cap, rfl, by omega, ⟨h2, by simp⟩, ?_⟩
  refine Or.inr ⟨g, 0, rfl, hb, (Array.getElem?_eq_some_iff.1 hg).1, fun i hi => ?_⟩
  rw [Nat.zero_add, Lib.cell_of_heap hg]
  exact h5 i hi
theorem RowM.store {g n cap : Nat} (h : RowM w base (.slice (some ⟨g, 0, none⟩) n cap) xs) (hn : xs.length = n) (i : Nat) (hi : i < n) (x : Int) :
    (∃ u, w.cell? ⟨g, i, none⟩ = some u) ∧ w.frozen? ⟨g, i, none⟩ = false ∧ RowM (w.setCell ⟨g, i, none⟩ (.int .u8 x)) base (.slice (some ⟨g, 0, none⟩) n cap) (xs.set i x) := by
  subst hn
  obtain ⟨g', cap', cur, fr, e, hb, hg, h1, h2, h3, h4, h5⟩ := h
  simp only [Value.slice.injEq, Option.some.injEq, Addr.mk.injEq, true_and, and_true] at e
  obtain ⟨rfl, rfl⟩ := e
  refine ⟨⟨_, by rw [Lib.cell_of_heap hg]; exact h5 i hi⟩, ?_, ?_⟩
  · simp only [World.frozen?, hg]
    rw [decide_eq_false (by omega), Bool.false_and]
  · refine ⟨g, cap, cur.setIfInBounds i (.int .u8 x), fr, by rw [List.length_set], hb, ?_, by simpa using h1, by rw [List.length_set]; exact h2, h3, by simpa using h4, ?_⟩
    · rw [setCell_eq_setRow w g i cur 5 fr _ hg]
      exact setRow_heap w g cur _ 5 fr hg
    · intro j hj
      rw [List.length_set] at hj
      have hjc : j < cur.size := by omega
      rw [Array.getElem?_setIfInBounds]
      by_cases e : i = j
      · subst e
        rw [if_pos rfl, if_pos hjc]
        simp [List.getD_eq_getElem?_getD, hj]
      · rw [if_neg e, h5 j hj]
        simp [List.getD_eq_getElem?_getD, List.getElem?_set_ne e]
/-- []byte(s) -/
theorem RowM.conv (w : World) (s : ByteArray) (h : s.size ≤ 1048576) : RowM (Lib.bytesWorld w 5 s) w.heap.size (.slice (some ⟨w.heap.size, 0, none⟩) s.size (Go.grownCap w s.size 0 5)) (s.data.toList.map fun b => (b.toNat : Int)) := by
  have hl : (s.data.toList.map fun b => (b.toNat : Int)).length = s.size := by rw [List.length_map, ← Lib.size_eq]
  refine ⟨w.heap.size, _, _, _, by rw [hl], Nat.le_refl _, Lib.bytesWorld_at_new w _ s, Nat.le_refl _, by rw [hl]; exact grownCap_ge w _ _ _, grownCap_le_maxLen w _ _ _ (by unfold maxLen; omega), ?_, ?_⟩
  · have := grownCap_ge w s.size 0 5
    simp only [Lib.bytesCells, Array.size_append, Array.size_map, Array.size_replicate]
    have h2 : s.data.size = s.size := rfl
    omega
  · intro i hi
    rw [hl] at hi
    have hc := Lib.bytesWorld_cell w 5 s i hi
    rw [Lib.cell_of_heap (Lib.bytesWorld_at_new w 5 s)] at hc
    rw [hc]
    have hi2 : i < s.data.size := hi
    have hi3 : s.data[i]? = some s.data[i] := Array.getElem?_eq_getElem hi2
    simp [List.getD_eq_getElem?_getD, hi3]
/-- append(b, x): one byte. -/
theorem run_appM {g n cap : Nat} (h : RowM w base (.slice (some ⟨g, 0, none⟩) n cap) xs) (hn : xs.length = n) (hl : n < 1048576) (hb : base ≤ w.heap.size) (ty : TypeId) (d : Nat) (x : Int) (hd : w.cell? ⟨d, 0, none⟩ = some (.int .u8 x)) :
    ∃ v' w', (Builtin.append_ #[22, 22] ty #[.slice (some ⟨g, 0, none⟩) n cap, .slice (some ⟨d, 0, none⟩) 1 1]).run Tryz.prog w = .ok v' w' ∧ (∃ a c, v' = .slice a (n + 1) c) ∧ View w' base w'.heap.size .u8 v' (xs ++ [x]) ∧ Chg base w.heap.size w w' := by
  obtain ⟨i, hi, hz0, hz1, hz2⟩ := info_parts Tryz.infoU1
  subst hn
  have h' := h
  obtain ⟨g', cap', cur, fr, e, hbg, hg, h1, h2, h3, h4, h5⟩ := h
  simp only [Value.slice.injEq, Option.some.injEq, Addr.mk.injEq, true_and, and_true] at e
  obtain ⟨rfl, rfl⟩ := e
  have hlt := (Array.getElem?_eq_some_iff.1 hg).1
  have hnews : ∀ j u, [Value.int .u8 x][j]? = some u → w.cell? ((⟨d, 0, none⟩ : Addr).add j) = some u := by
    intro j u hj
    match j, hj with
    | 0, hj => simp at hj; subst hj; simpa [Addr.add] using hd
  by_cases hroom : xs.length + 1 ≤ cap
  · have hin : xs.length < cur.size := by omega
    have hcell : w.cell? ⟨g, xs.length, none⟩ = some cur[xs.length] := by simp [World.cell?, hg, hin]
    have hfro : w.frozen? ⟨g, xs.length, none⟩ = false := by
      simp only [World.frozen?, hg]
      rw [decide_eq_false (by omega), Bool.false_and]
    have hst : (store ⟨g, xs.length, none⟩ (.int .u8 x)).run Tryz.prog w = .ok () (w.setCell ⟨g, xs.length, none⟩ (.int .u8 x)) := by
      rw [run_store Tryz.prog w _ _ _ rfl, hcell]
      simp [hfro]
    have hf := run_firstCells_some (P := Tryz.prog) w 1 1 ⟨d, 0, none⟩ 1 1 [.int .u8 x] rfl hnews
    refine ⟨.slice (some ⟨g, 0, none⟩) (xs.length + 1) cap, w.setCell ⟨g, xs.length, none⟩ (.int .u8 x), ?_, ⟨_, _, rfl⟩, ?_, Chg.setCell (Chg.refl _ _ _) (p := ⟨g, xs.length, none⟩) (Or.inl ⟨hbg, hlt⟩) _⟩
    · simp [Builtin.append_, run_underlying Tryz.underlying22, Go.sizeOf, typeInfo, hi, hz1, Builtin.lenOf, hroom, hf, Addr.add_lit, storeCells, hst]
    · have key : RowM (w.setCell ⟨g, xs.length, none⟩ (.int .u8 x)) base (.slice (some ⟨g, 0, none⟩) (xs.length + 1) cap) (xs ++ [x]) := by
        refine ⟨g, cap, cur.setIfInBounds xs.length (.int .u8 x), fr, by simp, hbg, ?_, by simpa using h1, by simpa using hroom, h3, by simpa using h4, ?_⟩
        · rw [setCell_eq_setRow w g _ cur 5 fr _ hg]
          exact setRow_heap w g cur _ 5 fr hg
        · intro j hj
          rw [List.length_append, List.length_singleton] at hj
          rw [Array.getElem?_setIfInBounds]
          by_cases e : xs.length = j
          · subst e
            rw [if_pos rfl, if_pos hin]
            simp [List.getD_eq_getElem?_getD]
          · rw [if_neg e, h5 j (by omega)]
            simp [List.getD_eq_getElem?_getD, List.getElem?_append_left (show j < xs.length by omega)]
      exact key.seen (by simp; omega)
  · have holds : ∀ j u, (xs.map (Value.int .u8))[j]? = some u → w.cell? ((⟨g, 0, none⟩ : Addr).add j) = some u := by
      intro j u hj
      have hjl : j < xs.length := by have := (List.getElem?_eq_some_iff.1 hj).1; simpa using this
      rw [Addr.add_mid, Nat.zero_add, Lib.cell_of_heap hg, ← hj]
      rw [h5 j hjl]
      simp [List.getD_eq_getElem?_getD, hjl]
    have hr := run_append_grow (P := Tryz.prog) w 22 ty 5 i _ Tryz.underlying22 hi hz0 ⟨g, 0, none⟩ xs.length cap (xs.map (Value.int .u8)) (by rw [hz1]; simp) holds ⟨d, 0, none⟩ 1 1 [.int .u8 x] (by rw [hz1]; rfl) hnews (by omega) (by omega) (growslice_fits (by omega) (by rw [hz2]; omega))
    have hge := grownCap_ge w (xs.length + 1) cap 5
    refine ⟨_, _, hr, ⟨_, _, rfl⟩, ?_, (Chg.drew (Chg.refl _ _ w)).alloc _⟩
    refine ⟨_, _, by rw [List.length_append, List.length_singleton], by simp; omega, ⟨by simpa using hge, by simp⟩, ?_⟩
    refine Or.inr ⟨w.heap.size, 0, rfl, hb, by simp, fun j hj => ?_⟩
    rw [List.length_append, List.length_singleton] at hj
    have hh := Lib.cell_of_heap (j := j) (show (w.drew.alloc (.cells ((xs.map (Value.int .u8)).toArray ++ [Value.int .u8 x].toArray ++ Builtin.zeroCells (Value.int .u8 0).cells (grownCap w (xs.length + 1) cap 5 - (xs.length + 1))) 5)).heap[w.heap.size]? = _ from heap_new w.drew _)
    rw [Nat.zero_add]
    refine hh.trans ?_
    rw [← Array.getElem?_toList]
    simp only [Array.toList_append, List.append_assoc]
    rw [← List.append_assoc, List.getElem?_append_left (by simp; omega)]
    rw [show (List.map (Value.int IntKind.u8) xs ++ [Value.int IntKind.u8 x]) = (xs ++ [x]).map (Value.int .u8) by simp, List.getElem?_map, List.getD_eq_getElem?_getD, List.getElem?_eq_getElem (show j < (xs ++ [x]).length by simp; omega)]
    rfl
theorem wpList_appM {ops : Array Oper} {rest : List Oper} {o : Oper} {a : Act} {Q : Exit → Act → World → Prop} (hgd : o.guard = none) (s x : Operand)
    (ho : o.op = .call { callee := .builtin .append, args := #[s, x], argTypes := #[22, 22] }) {g n cap : Nat} (h : RowM w base (.slice (some ⟨g, 0, none⟩) n cap) xs) (hn : xs.length = n) (hl : n < 1048576) (hb : base ≤ w.heap.size) (d : Nat) (y : Int) (hd : w.cell? ⟨d, 0, none⟩ = some (.int .u8 y))
    (hs : a.eval s = .slice (some ⟨g, 0, none⟩) n cap) (hx : a.eval x = .slice (some ⟨d, 0, none⟩) 1 1)
    (hK : ∀ v' w', (∃ a c, v' = .slice a (n + 1) c) → View w' base w'.heap.size .u8 v' (xs ++ [y]) → Chg base w.heap.size w w' → wpList Tryz.prog ops Q rest (a.put o.dst v') w') : wpList Tryz.prog ops Q (o :: rest) a w := by
  refine wpList_plain hgd fun _ hK' => ?_
  obtain ⟨v', w', hr, h2, h3, h4⟩ := run_appM h hn hl hb o.type d y hd
  unfold Oper.wp execOp
  simp only [ho, resolve, invoke, builtin, Sem.run_bind, Sem.run_pure, Result.andThen_ok, List.map_toArray, List.map_cons, List.map_nil, hs, hx, hr]
  exact hK' _ _ (hK v' w' h2 h3 h4)
end

end Go.Proofs.YteaeikmgkmpkiaaGreatDoor
