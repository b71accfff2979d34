/- Several short texts in one: TakeB, ShelfRep, TakeD. -/
import Derived.Test.YtacfkgfemmgpkaaGreatDoorDrawFill
import Derived.Great.BuildSlice
import Derived.Shelf.Strings.Repeat
import Derived.Test.YtacfkgfemmgpkaaGreatDoorRows
namespace Go.Proofs.YtacfkgfemmgpkaaGreatDoor
open Go.RowKit Go.Lib

theorem Tryz.infoN : (Tryz.prog.info? 2).map (fun i => (i.zero, i.size, i.bytes)) = some (some (.int .i64 0), 1, 8) := by kernel_rfl

/-- append of one number to numbers of one's own. -/
theorem wpList_app_int {ops : Array Oper} {rest : List Oper} {o : Oper} {a : Act} {w : World} {Q : Exit → Act → World → Prop} (hgd : o.guard = none) (s x : Operand)
    (ho : o.op = .call { callee := .builtin .append, args := #[s, x], argTypes := #[33, 33] })
    (base : Nat) (sv : Value) (xs : List Int) (hs : a.eval s = sv) (hO : OwnN w base sv xs) (hbase : base ≤ w.heap.size) (d : Nat) (n : Int) (hx : a.eval x = .slice (some ⟨d, 0, none⟩) 1 1) (hd : w.cell? ⟨d, 0, none⟩ = some (.int .i64 n)) (hl : xs.length ≤ 1048576)
    {b i0 : Nat} {cs : Array Value} {T : TypeId} (hb : w.heap[b]? = some (.cells cs T (0, 0))) (hne : sv.ownBlock ≠ some b) (hci : cs[i0]? = some sv)
    (h : ∀ g cp w', OwnN w' base (.slice (some ⟨g, 0, none⟩) (xs.length + 1) cp) (xs ++ [n]) → Chg base w.heap.size w w' → w'.heap[b]? = some (.cells cs T (0, 0)) → w'.cell? ⟨b, i0, none⟩ = some sv → w'.frozen? ⟨b, i0, none⟩ = false → (∀ k, k < w.heap.size → (∀ cs fr, w.heap[k]? ≠ some (.cells cs 2 fr)) → w'.heap[k]? = w.heap[k]?) → wpList Tryz.prog ops Q rest (a.put o.dst (.slice (some ⟨g, 0, none⟩) (xs.length + 1) cp)) w') : wpList Tryz.prog ops Q (o :: rest) a w := by
  obtain ⟨i, hi, hz0, hz1, hz2⟩ := info_parts Tryz.infoN
  have hrow : w.ownsRow base 2 1 sv xs.length (xs.map (Value.int .i64)) := hO
  have HNW : ∀ j u, [Value.int .i64 n][j]? = some u → w.cell? ((⟨d, 0, none⟩ : Addr).add j) = some u := by
    intro j u hj
    match j, hj with
    | 0, hj => simp at hj; subst hj; simpa [Addr.add] using hd
  refine wpList_append_own _ hgd s x 33 ho base 2 i (.int .i64 0) 1 8 Tryz.underlying33 hi hz0 hz1 hz2 rfl (by decide) sv xs.length (xs.map (Value.int .i64)) hs hrow ⟨d, 0, none⟩ 1 1 [.int .i64 n] hx rfl HNW (fun u hu => by simp at hu; subst hu; rfl) (by unfold maxLen; omega) (by omega) hbase ?_
  intro v' w2 hown hgrow _
  obtain ⟨g, cp, rfl⟩ : ∃ g cp, v' = .slice (some ⟨g, 0, none⟩) (xs.length + 1) cp := by
    rcases hown.2 with ⟨_, h0⟩ | ⟨g, cap, cur, hv, _⟩
    · omega
    · exact ⟨g, cap, hv⟩
  have hlt : b < w.heap.size := (Array.getElem?_eq_some_iff.1 hb).1
  have hb2 : w2.heap[b]? = some (.cells cs T (0, 0)) := by
    rw [hgrow.block b hlt (fun e => hne e.symm)]
    exact hb
  refine h g cp w2 ?_ (Chg.ofGrown hgrow (fun k hk _ => World.ownsRow.lt hrow k hk)) hb2 (by rw [Lib.cell_of_heap hb2]; exact hci) (Lib.frozen_of_heap hb2 i0) (fun k hk hno => hgrow.block k hk (fun e => by
    rcases hrow.2 with ⟨rfl, _⟩ | ⟨g', cap', cur', rfl, _, hh, _⟩
    · simp [Value.ownBlock] at e
    · obtain rfl : k = g' := by simpa [Value.ownBlock] using e
      exact hno _ _ hh))
  unfold OwnN
  rw [List.length_append, List.map_append]
  exact hown

set_option maxRecDepth 20000 in
set_option maxHeartbeats 1000000 in
theorem takeNumber_ok : TakeOk 46 (fun s x => (numF x).map fun n => { s with nums := s.nums ++ [n] }) := by
  intro W b s x hx hnl _ hS hR hP hL
  have hb := hL.lt
  have hN := numberOf_calls W x hx hS hR hP
  have HE : Hid (∀ s', ((numF x).map fun n => { s with nums := s.nums ++ [n] }) = some s' → s' = { s with nums := s.nums ++ [(numF x).getD 0] }) := fun s' e => by
    cases hn : numF x with
    | none => rw [hn] at e; cases e
    | some n => rw [hn] at e; injection e with e; rw [← e]; rfl
  have e2 : ((numF x).map fun n => { s with nums := s.nums ++ [n] }).isSome = (numF x).isSome := by cases numF x <;> rfl
  rw [e2]
  generalize (numF x).getD 0 = n at *
  generalize (numF x).isSome = g at *
  go_enter Tryz.func46, Tryz.ntmps46
  go_wp2_with fail
  refine hN.mono ?_
  rintro e w2 ⟨rfl, c2⟩
  obtain ⟨nv, h1, ho⟩ := hL.keep c2
  have hs2 := c2.size
  have y : w2.cell? ⟨b, 8, none⟩ = some nv := by rw [Lib.cell_of_heap h1]; rfl
  have HC2 : Hid (Chg 0 0 W w2) := c2
  have cA : Chg 0 0 w2 (w2.alloc (.cells #[.int .i64 n] 2)) := Chg.alloc (Chg.refl 0 0 w2) _
  have hd : (w2.alloc (.cells #[.int .i64 n] 2)).cell? ⟨w2.heap.size, 0, none⟩ = some (.int .i64 n) := by rw [Lib.cell_of_heap (heap_new w2 _)]; rfl
  have HOA : Hid (OwnN (w2.alloc (.cells #[.int .i64 n] 2)) (b + 1) nv s.nums) := ho.chg cA (by omega)
  have HBA : Hid ((w2.alloc (.cells #[.int .i64 n] 2)).heap[b]? = some (.cells (cLine s nv) 35 (0, 0))) := (cA.block b (by omega) (by omega)).trans h1
  have HCA : Hid (Chg 0 0 W (w2.alloc (.cells #[.int .i64 n] 2))) := c2.trans cA
  have sA : w2.heap.size + 1 = (w2.alloc (.cells #[.int .i64 n] 2)).heap.size := by simp
  have hne : nv.ownBlock ≠ some b := fun e => by have := (World.ownsRow.lt ho b e).1; omega
  clear cA c2 hN hL ho h1
  go_wp2_with (refine wpList_app_int rfl (.tmp 16) (.tmp 18) rfl (b + 1) nv s.nums rfl HOA.out (by omega) w2.heap.size n rfl hd hnl HBA.out hne (i0 := 8) rfl ?_; intro g8 cp8 w8 o8 c8 hb8 y8 f8 q8)
  have HL : Hid (LineAt (w8.setCell ⟨b, 8, none⟩ (.slice (some ⟨g8, 0, none⟩) (s.nums.length + 1) cp8)) b { s with nums := s.nums ++ [n] }) := by
    have c1 : Chg b (b + 1) w8 (w8.setCell ⟨b, 8, none⟩ (.slice (some ⟨g8, 0, none⟩) (s.nums.length + 1) cp8)) := (Chg.refl _ _ w8).setCell (p := ⟨b, 8, none⟩) (Or.inl ⟨Nat.le_refl _, Nat.lt_succ_self _⟩) _
    refine ⟨.slice (some ⟨g8, 0, none⟩) (s.nums.length + 1) cp8, ?_, OwnN.chg o8 c1 (Or.inl (Nat.le_refl _))⟩
    rw [setCell_eq_setRow w8 b 8 _ 35 (0, 0) _ hb8, setRow_heap w8 b _ _ 35 (0, 0) hb8]
    rfl
  have hs8 := c8.size
  have HC : Hid (Chg b W.heap.size W (w8.setCell ⟨b, 8, none⟩ (.slice (some ⟨g8, 0, none⟩) (s.nums.length + 1) cp8))) := by
    have k1 : Chg b (w2.alloc (.cells #[.int .i64 n] 2)).heap.size (w2.alloc (.cells #[.int .i64 n] 2)) w8 := c8.widen (Or.inl (by omega)) (Or.inl (Nat.le_refl _))
    have k2 := chg_into HCA.out k1
    exact k2.setCell (p := ⟨b, 8, none⟩) (Or.inl ⟨Nat.le_refl _, hb⟩) _
  have HO : Hid (Oth b W (w8.setCell ⟨b, 8, none⟩ (.slice (some ⟨g8, 0, none⟩) (s.nums.length + 1) cp8))) := fun k hk hne hno => by
    have c1 : Chg b (b + 1) w8 (w8.setCell ⟨b, 8, none⟩ (.slice (some ⟨g8, 0, none⟩) (s.nums.length + 1) cp8)) := (Chg.refl _ _ w8).setCell (p := ⟨b, 8, none⟩) (Or.inl ⟨Nat.le_refl _, Nat.lt_succ_self _⟩) _
    have hA := HCA.out.block k hk (by omega)
    have hsA := HCA.out.size
    rw [c1.block k (by omega) (by omega), q8 k (by omega) (fun cs fr e => hno cs fr (hA.symm.trans e)), hA]
  clear o8 c8 hb8 q8
  go_wp2
  go_ret
  exact ⟨rfl, fun s' e => by rw [HE.out s' e]; exact HL.out, HC.out, HO.out⟩

/-- The first of the numbers. -/
theorem LineAt.first {W : World} {b : Nat} {s : Lst} (h : LineAt W b s) (hn : 0 < s.nums.length) : ∃ g cp, W.cell? ⟨b, 8, none⟩ = some (.slice (some ⟨g, 0, none⟩) s.nums.length cp) ∧ W.cell? ⟨g, 0, none⟩ = some (.int .i64 (s.nums.getD 0 0)) := by
  obtain ⟨nv, h1, h2⟩ := h
  have h3 := h2
  rcases h2.2 with ⟨_, h0⟩ | ⟨g, cp, cur, rfl, _⟩
  · omega
  · refine ⟨g, cp, by rw [Lib.cell_of_heap h1]; rfl, ?_⟩
    have := World.ownsRow.cellAt h3 0 (by omega)
    rw [this, List.getElem?_map, List.getElem?_eq_getElem hn]
    simp [List.getD_eq_getElem?_getD, hn]

def countF (s : Lst) (x : ByteArray) : Option Lst := match numF x with
  | none => none
  | some n => if 1 ≤ (s.nums ++ [n]).getD 0 0 then some { s with nums := s.nums ++ [n] } else none

set_option maxHeartbeats 1000000 in
theorem takeCount_ok : TakeOk 40 countF := by
  intro W b s x hx hnl hdz hS hR hP hL
  have hN := takeNumber_ok W b s x hx hnl hdz hS hR hP hL
  dsimp only at hN
  cases hn : numF x with
  | none =>
    rw [hn] at hN
    have HF : Hid (countF s x = none) := by show _ = _; unfold countF; rw [hn]
    rw [HF.out]
    go_enter Tryz.func40, Tryz.ntmps40
    go_wp2_with fail
    refine hN.mono ?_
    rintro e w2 ⟨rfl, _, c2, o2⟩
    have HC : Hid (Chg b W.heap.size W w2) := c2
    have HO : Hid (Oth b W w2) := o2
    clear c2 hN
    go_wp2
    go_ret
    exact ⟨rfl, fun s' e => by (cases e), HC.out, HO.out⟩
  | some n =>
    rw [hn] at hN
    by_cases hf : 1 ≤ (s.nums ++ [n]).getD 0 0
    · have HF : Hid (countF s x = some { s with nums := s.nums ++ [n] }) := by show _ = _; unfold countF; rw [hn]; exact if_pos hf
      rw [HF.out]
      go_enter Tryz.func40, Tryz.ntmps40
      go_wp2_with fail
      refine hN.mono ?_
      rintro e w2 ⟨rfl, hl2, c2, o2⟩
      have HO : Hid (Oth b W w2) := o2
      have hL2 := hl2 _ rfl
      obtain ⟨g, cp, y0, y1⟩ := hL2.first (by simp)
      have HL : Hid (LineAt w2 b { s with nums := s.nums ++ [n] }) := hL2
      have HC : Hid (Chg b W.heap.size W w2) := c2
      have hlen : (0 : Int) < ((s.nums ++ [n]).length : Int) := by simp
      have y0' : w2.cell? ⟨b, 8, none⟩ = some (.slice (some ⟨g, 0, none⟩) (s.nums ++ [n]).length cp) := y0
      have y1' : w2.cell? ⟨g, 0, none⟩ = some (.int .i64 ((s.nums ++ [n]).getD 0 0)) := y1
      clear c2 hN hl2 hL2 y0 y1 HF
      generalize (s.nums ++ [n]).getD 0 0 = fst at *
      generalize (s.nums ++ [n]).length = len at *
      go_wp2
      go_ret
      exact ⟨rfl, fun s' e => by injection e with e; rw [← e]; exact HL.out, HC.out, HO.out⟩
    · have HF : Hid (countF s x = none) := by show _ = _; unfold countF; rw [hn]; exact if_neg hf
      rw [HF.out]
      go_enter Tryz.func40, Tryz.ntmps40
      go_wp2_with fail
      refine hN.mono ?_
      rintro e w2 ⟨rfl, hl2, c2, o2⟩
      have HO : Hid (Oth b W w2) := o2
      have hL2 := hl2 _ rfl
      obtain ⟨g, cp, y0, y1⟩ := hL2.first (by simp)
      have HL : Hid (LineAt w2 b { s with nums := s.nums ++ [n] }) := hL2
      have HC : Hid (Chg b W.heap.size W w2) := c2
      have hlen : (0 : Int) < ((s.nums ++ [n]).length : Int) := by simp
      have y0' : w2.cell? ⟨b, 8, none⟩ = some (.slice (some ⟨g, 0, none⟩) (s.nums ++ [n]).length cp) := y0
      have y1' : w2.cell? ⟨g, 0, none⟩ = some (.int .i64 ((s.nums ++ [n]).getD 0 0)) := y1
      clear c2 hN hl2 hL2 y0 y1 HF
      generalize (s.nums ++ [n]).getD 0 0 = fst at *
      generalize (s.nums ++ [n]).length = len at *
      go_wp2
      go_ret
      exact ⟨by first | rfl | (show Ending.returned (Value.bool (decide (1 ≤ fst))) = _; rw [decide_eq_false (by omega)]; rfl), fun s' e => by (cases e), HC.out, HO.out⟩

end Go.Proofs.YtacfkgfemmgpkaaGreatDoor

namespace Go.Proofs.YtacfkgfemmgpkaaGreatDoor
open Go.Shelf

def Tryz.lays105_ren : Go.Shelf.Ren := ⟨fun | 105 => 50 | 212 => 61 | 99 => 62 | 165 => 63 | 166 => 64 | 170 => 65 | 169 => 66 | 263 => 77 | 264 => 78 | 206 => 79 | 240 => 80 | 241 => 81 | 276 => 96 | 277 => 97 | n => n, fun | 9 => 9 | 3 => 3 | 4 => 4 | 20 => 20 | 0 => 0 | 46 => 90 | 109 => 91 | 5 => 5 | 72 => 96 | 76 => 98 | 51 => 112 | 146 => 113 | 53 => 106 | 148 => 115 | 70 => 94 | 37 => 22 | 75 => 86 | 127 => 117 | 164 => 129 | 80 => 101 | n => n, fun | n => n⟩

theorem Tryz.lays105 : Go.Proofs.Lays.n105 Tryz.prog Tryz.lays105_ren := {
  mixed := by kernel_rfl
  f99 := Tryz.func62.trans (congrArg some (by kernel_rfl))
  f105 := Tryz.func50.trans (congrArg some (by kernel_rfl))
  f165 := Tryz.func63.trans (congrArg some (by kernel_rfl))
  f166 := Tryz.func64.trans (congrArg some (by kernel_rfl))
  f169 := Tryz.func66.trans (congrArg some (by kernel_rfl))
  f170 := Tryz.func65.trans (congrArg some (by kernel_rfl))
  f206 := Tryz.func79.trans (congrArg some (by kernel_rfl))
  f212 := Tryz.func61.trans (congrArg some (by kernel_rfl))
  f240 := Tryz.func80.trans (congrArg some (by kernel_rfl))
  f241 := Tryz.func81.trans (congrArg some (by kernel_rfl))
  f263 := Tryz.func77.trans (congrArg some (by kernel_rfl))
  f264 := Tryz.func78.trans (congrArg some (by kernel_rfl))
  f276 := Tryz.func96.trans (congrArg some (by kernel_rfl))
  f277 := Tryz.func97.trans (congrArg some (by kernel_rfl))
  t0 := Tryz.underlying0
  a0 := Tryz.isAgg0
  z0 := Tryz.sizeOf0
  v0 := Tryz.zeroValue0
  t3 := Tryz.underlying3
  a3 := Tryz.isAgg3
  z3 := Tryz.sizeOf3
  v3 := Tryz.zeroValue3
  t4 := Tryz.underlying4
  a4 := Tryz.isAgg4
  z4 := Tryz.sizeOf4
  v4 := Tryz.zeroValue4
  t5 := Tryz.underlying5
  a5 := Tryz.isAgg5
  z5 := Tryz.sizeOf5
  v5 := Tryz.zeroValue5
  t9 := Tryz.underlying9
  a9 := Tryz.isAgg9
  z9 := Tryz.sizeOf9
  v9 := Tryz.zeroValue9
  t20 := Tryz.underlying20
  a20 := Tryz.isAgg20
  z20 := Tryz.sizeOf20
  v20 := Tryz.zeroValue20
  t37 := Tryz.underlying22
  a37 := Tryz.isAgg22
  z37 := Tryz.sizeOf22
  v37 := Tryz.zeroValue22
  t46 := Tryz.underlying90
  a46 := Tryz.isAgg90
  z46 := Tryz.sizeOf90
  v46 := Tryz.zeroValue90
  t51 := Tryz.underlying112
  a51 := Tryz.isAgg112
  z51 := Tryz.sizeOf112
  v51 := Tryz.zeroValue112
  t53 := Tryz.underlying106
  a53 := Tryz.isAgg106
  z53 := Tryz.sizeOf106
  v53 := Tryz.zeroValue106
  t70 := Tryz.underlying94
  a70 := Tryz.isAgg94
  z70 := Tryz.sizeOf94
  v70 := Tryz.zeroValue94
  t72 := Tryz.underlying96
  a72 := Tryz.isAgg96
  z72 := Tryz.sizeOf96
  v72 := Tryz.zeroValue96
  t75 := Tryz.underlying86
  a75 := Tryz.isAgg86
  z75 := Tryz.sizeOf86
  v75 := Tryz.zeroValue86
  t76 := Tryz.underlying98
  a76 := Tryz.isAgg98
  z76 := Tryz.sizeOf98
  v76 := Tryz.zeroValue98
  t109 := Tryz.underlying91
  a109 := Tryz.isAgg91
  z109 := Tryz.sizeOf91
  v109 := Tryz.zeroValue91
  t127 := Tryz.underlying117
  a127 := Tryz.isAgg117
  z127 := Tryz.sizeOf117
  v127 := Tryz.zeroValue117
  t146 := Tryz.underlying113
  a146 := Tryz.isAgg113
  z146 := Tryz.sizeOf113
  v146 := Tryz.zeroValue113
  t148 := Tryz.underlying115
  a148 := Tryz.isAgg115
  z148 := Tryz.sizeOf115
  v148 := Tryz.zeroValue115
  t164 := Tryz.underlying129
  a164 := Tryz.isAgg129
  z164 := Tryz.sizeOf129
  v164 := Tryz.zeroValue129 }

theorem Tryz.Builder_Extra_105 : Builder.Extra Tryz.prog Tryz.lays105_ren := {
  sizeBuilder := by kernel_rfl
  liesBuilder := by kernel_rfl
  t5 := Tryz.underlying5
  a5 := Tryz.isAgg5
  z5 := Tryz.sizeOf5
  v5 := Tryz.zeroValue5
  infoByte := by kernel_rfl
  cellsByte := by kernel_rfl
  sizeByte := by kernel_rfl
  neB5 := by decide }

end Go.Proofs.YtacfkgfemmgpkaaGreatDoor

namespace Go.Proofs.YtacfkgfemmgpkaaGreatDoor
open Go.RowKit Go.Lib

def aN (k : Nat) : ByteArray := ⟨(Lib.repeatL [97] k).toArray⟩
def lenF (s : Lst) (x : ByteArray) : Option Lst := match numF x with
  | none => none
  | some n => if 0 ≤ n ∧ n ≤ 3000 then some { s with data := aN n.toNat } else none

set_option maxHeartbeats 1000000 in
theorem takeLength_ok : TakeOk 36 lenF := by
  intro W b s x hx _ _ hS hR hP hL
  have hb := hL.lt
  have hN := numberOf_calls W x hx hS hR hP
  cases hn : numF x with
  | none =>
    rw [hn] at hN
    have HF : Hid (lenF s x = none) := by show _ = _; unfold lenF; rw [hn]
    rw [HF.out]
    go_enter Tryz.func36, Tryz.ntmps36
    go_wp2_with fail
    refine hN.mono ?_
    rintro e w2 ⟨rfl, c2⟩
    have HC : Hid (Chg b W.heap.size W w2) := c2.widen (Or.inr (Nat.le_refl 0)) (Or.inr (Nat.le_refl 0))
    have HO : Hid (Oth b W w2) := oth_of c2
    clear c2 hN
    go_wp2
    go_ret
    exact ⟨rfl, fun s' e => by (cases e), HC.out, HO.out⟩
  | some n =>
    rw [hn] at hN
    have hW := fun V => isWithin_calls V n 0 3000
    by_cases hin : 0 ≤ n ∧ n ≤ 3000
    · have HF : Hid (lenF s x = some { s with data := aN n.toNat }) := by show _ = _; unfold lenF; rw [hn]; exact if_pos hin
      rw [HF.out]
      have hd : (decide ((0 : Int) ≤ n) && decide (n ≤ 3000)) = true := by simp; omega
      obtain ⟨k, rfl⟩ : ∃ k : Nat, n = (k : Int) := ⟨n.toNat, by omega⟩
      have hRp := fun V => Any.strings_Repeat Tryz.lays105 Tryz.Builder_Extra_105 ⟨#[97]⟩ k V (by omega) (by have : (⟨#[97]⟩ : ByteArray).size = 1 := rfl; rw [this]; omega)
      have hk : ((k : Int)).toNat = k := by omega
      rw [hk]
      have ew : IntKind.i64.wrap (k : Int) = (k : Int) := by rw [IntKind.wrap_i64]; omega
      have ha : (⟨(Lib.repeatL (⟨#[97]⟩ : ByteArray).data.toList k).toArray⟩ : ByteArray) = aN k := rfl
      rw [ha] at hRp
      clear HF hk ha
      generalize aN k = dt at *
      go_enter Tryz.func36, Tryz.ntmps36
      go_wp2_with fail
      refine hN.mono ?_
      rintro e w2 ⟨rfl, c2⟩
      go_wp2_with fail
      refine (hW _).mono ?_
      rintro e w3 ⟨rfl, rfl⟩
      rw [hd]
      go_wp2_with fail
      refine (hRp _).mono ?_
      rintro e w4 ⟨rfl, c4⟩
      have c5 : Chg 0 0 W w4 := c2.trans (Chg.ofBelow c4 0 0)
      obtain ⟨_, fz, hL3, c3⟩ := (hL.keep c5).put 7 (.string dt) (s' := { s with data := dt }) (fun nv => rfl) rfl
      obtain ⟨nv, h1, _⟩ := hL.keep c5
      have y : w4.cell? ⟨b, 7, none⟩ = some (.string s.data) := by rw [Lib.cell_of_heap h1]; rfl
      have HL : Hid (LineAt (w4.setCell ⟨b, 7, none⟩ (.string dt)) b { s with data := dt }) := hL3
      have HC : Hid (Chg b W.heap.size W (w4.setCell ⟨b, 7, none⟩ (.string dt))) := chg_into c5 c3
      have HO : Hid (Oth b W (w4.setCell ⟨b, 7, none⟩ (.string dt))) := oth_put c5 7 _
      clear hL3 c3 h1 c2 hN hL c4 c5 hRp hW hd
      go_wp2
      go_ret
      exact ⟨rfl, fun s' e => by injection e with e; rw [← e]; exact HL.out, HC.out, HO.out⟩
    · have HF : Hid (lenF s x = none) := by show _ = _; unfold lenF; rw [hn]; exact if_neg hin
      rw [HF.out]
      have hd : (decide ((0 : Int) ≤ n) && decide (n ≤ 3000)) = false := by
        rw [Bool.and_eq_false_iff, decide_eq_false_iff_not, decide_eq_false_iff_not]; omega
      go_enter Tryz.func36, Tryz.ntmps36
      go_wp2_with fail
      refine hN.mono ?_
      rintro e w2 ⟨rfl, c2⟩
      have HC : Hid (Chg b W.heap.size W w2) := c2.widen (Or.inr (Nat.le_refl 0)) (Or.inr (Nat.le_refl 0))
      have HO : Hid (Oth b W w2) := oth_of c2
      clear c2 hN
      go_wp2_with fail
      refine (hW _).mono ?_
      rintro e w3 ⟨rfl, rfl⟩
      rw [hd]
      go_wp2
      go_ret
      exact ⟨rfl, fun s' e => by (cases e), HC.out, HO.out⟩

end Go.Proofs.YtacfkgfemmgpkaaGreatDoor
