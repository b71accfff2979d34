/- Several short texts in one: TakeC, ShelfRep, TakeD. -/
import Derived.Test.YteaeikmgkmpkiaaGreatDoorTakeA
import Derived.Test.YteaeikmgkmpkiaaGreatDoorImplUnq
import Derived.Shelf.Strings.Repeat
import Derived.Test.YteaeikmgkmpkiaaGreatDoorRows
namespace Go.Proofs.YteaeikmgkmpkiaaGreatDoor
open Go.RowKit Go.Lib

/-- What is unquoted. -/
noncomputable def unqD (x : ByteArray) : Option ByteArray := match unqR x with
  | none => none
  | some acc => some (strOfNums acc)
theorem unqD_none {x : ByteArray} (h : unqD x = none) : unqV x = unqO false ⟨#[]⟩ := by
  unfold unqD at h
  unfold unqV
  split at h
  · rename_i hr; rw [hr]
  · cases h
theorem unqD_some {x d : ByteArray} (h : unqD x = some d) : unqV x = unqO true d := by
  unfold unqD at h
  unfold unqV
  split at h
  · cases h
  · rename_i hr; injection h with h; rw [hr, ← h]

set_option maxHeartbeats 1000000 in
theorem takeData_ok : TakeOk 33 (fun s x => (unqD x).map fun d => { s with data := d }) := by
  intro W b s x hx _ _ hS _ _ hL
  have hb := hL.lt
  have hU := implUnquote_calls W x hx hS
  obtain ⟨g, d, e1, e2, HE⟩ : ∃ g d, unqV x = unqO g d ∧ ((unqD x).map fun d => { s with data := d }).isSome = g ∧ Hid (∀ s', ((unqD x).map fun d => { s with data := d }) = some s' → s' = { s with data := d }) := by
    cases hd : unqD x with
    | none => exact ⟨false, _, unqD_none hd, rfl, fun s' e => by cases e⟩
    | some d => exact ⟨true, d, unqD_some hd, rfl, fun s' e => by injection e with e; exact e.symm⟩
  rw [e1] at hU
  rw [e2]
  clear e1 e2
  go_enter Tryz.func33, Tryz.ntmps33
  go_wp2_with fail
  refine hU.mono ?_
  rintro e w2 ⟨rfl, c2⟩
  have c3 : Chg 0 0 W (w2.alloc (.cells #[.bool g, .string d] 51)) := c2.trans (Chg.alloc (Chg.refl 0 0 w2) _)
  have hs2 := c2.size
  obtain ⟨_, fz, hL4, c4⟩ := (hL.keep c3).put 7 (.string d) (s' := { s with data := d }) (fun nv => rfl) rfl
  obtain ⟨nv, h1, _⟩ := hL.keep c3
  have y : (w2.alloc (.cells #[.bool g, .string d] 51)).cell? ⟨b, 7, none⟩ = some (.string s.data) := by rw [Lib.cell_of_heap h1]; rfl
  have HL : Hid (LineAt ((w2.alloc (.cells #[.bool g, .string d] 51)).setCell ⟨b, 7, none⟩ (.string d)) b { s with data := d }) := hL4
  have HC : Hid (Chg b W.heap.size W ((w2.alloc (.cells #[.bool g, .string d] 51)).setCell ⟨b, 7, none⟩ (.string d))) := chg_into c3 c4
  have HO : Hid (Oth b W ((w2.alloc (.cells #[.bool g, .string d] 51)).setCell ⟨b, 7, none⟩ (.string d))) := oth_put c3 7 _
  have hne : b ≠ w2.heap.size := by omega
  obtain ⟨q0, q1, _, _⟩ := two_cells (heap_new w2 (.cells #[.bool g, .string d] 51))
  clear hL4 c4 h1 c3 c2 hU hL
  go_wp2
  go_ret
  exact ⟨rfl, fun s' e => by rw [HE.out s' e]; exact HL.out, HC.out, HO.out⟩

end Go.Proofs.YteaeikmgkmpkiaaGreatDoor

namespace Go.Proofs.YteaeikmgkmpkiaaGreatDoor
open Go.Shelf

def Tryz.lays105_ren : Go.Shelf.Ren := ⟨fun | 105 => 49 | 212 => 58 | 99 => 59 | 165 => 60 | 166 => 61 | 170 => 62 | 169 => 63 | 263 => 74 | 264 => 75 | 206 => 76 | 240 => 77 | 241 => 78 | 276 => 93 | 277 => 94 | n => n, fun | 9 => 9 | 3 => 3 | 4 => 4 | 20 => 20 | 0 => 0 | 46 => 81 | 109 => 82 | 5 => 5 | 72 => 87 | 76 => 89 | 51 => 103 | 146 => 104 | 53 => 97 | 148 => 106 | 70 => 85 | 37 => 22 | 75 => 77 | 127 => 108 | 164 => 120 | 80 => 92 | n => n, fun | n => n⟩

theorem Tryz.lays105 : Go.Proofs.Lays.n105 Tryz.prog Tryz.lays105_ren := {
  mixed := by kernel_rfl
  f99 := Tryz.func59.trans (congrArg some (by kernel_rfl))
  f105 := Tryz.func49.trans (congrArg some (by kernel_rfl))
  f165 := Tryz.func60.trans (congrArg some (by kernel_rfl))
  f166 := Tryz.func61.trans (congrArg some (by kernel_rfl))
  f169 := Tryz.func63.trans (congrArg some (by kernel_rfl))
  f170 := Tryz.func62.trans (congrArg some (by kernel_rfl))
  f206 := Tryz.func76.trans (congrArg some (by kernel_rfl))
  f212 := Tryz.func58.trans (congrArg some (by kernel_rfl))
  f240 := Tryz.func77.trans (congrArg some (by kernel_rfl))
  f241 := Tryz.func78.trans (congrArg some (by kernel_rfl))
  f263 := Tryz.func74.trans (congrArg some (by kernel_rfl))
  f264 := Tryz.func75.trans (congrArg some (by kernel_rfl))
  f276 := Tryz.func93.trans (congrArg some (by kernel_rfl))
  f277 := Tryz.func94.trans (congrArg some (by kernel_rfl))
  t0 := Tryz.underlying0
  a0 := Tryz.isAgg0
  z0 := Tryz.sizeOf0
  v0 := Tryz.zeroValue0
  t3 := Tryz.underlying3
  a3 := Tryz.isAgg3
  z3 := Tryz.sizeOf3
  v3 := Tryz.zeroValue3
  t4 := Tryz.underlying4
  a4 := Tryz.isAgg4
  z4 := Tryz.sizeOf4
  v4 := Tryz.zeroValue4
  t5 := Tryz.underlying5
  a5 := Tryz.isAgg5
  z5 := Tryz.sizeOf5
  v5 := Tryz.zeroValue5
  t9 := Tryz.underlying9
  a9 := Tryz.isAgg9
  z9 := Tryz.sizeOf9
  v9 := Tryz.zeroValue9
  t20 := Tryz.underlying20
  a20 := Tryz.isAgg20
  z20 := Tryz.sizeOf20
  v20 := Tryz.zeroValue20
  t37 := Tryz.underlying22
  a37 := Tryz.isAgg22
  z37 := Tryz.sizeOf22
  v37 := Tryz.zeroValue22
  t46 := Tryz.underlying81
  a46 := Tryz.isAgg81
  z46 := Tryz.sizeOf81
  v46 := Tryz.zeroValue81
  t51 := Tryz.underlying103
  a51 := Tryz.isAgg103
  z51 := Tryz.sizeOf103
  v51 := Tryz.zeroValue103
  t53 := Tryz.underlying97
  a53 := Tryz.isAgg97
  z53 := Tryz.sizeOf97
  v53 := Tryz.zeroValue97
  t70 := Tryz.underlying85
  a70 := Tryz.isAgg85
  z70 := Tryz.sizeOf85
  v70 := Tryz.zeroValue85
  t72 := Tryz.underlying87
  a72 := Tryz.isAgg87
  z72 := Tryz.sizeOf87
  v72 := Tryz.zeroValue87
  t75 := Tryz.underlying77
  a75 := Tryz.isAgg77
  z75 := Tryz.sizeOf77
  v75 := Tryz.zeroValue77
  t76 := Tryz.underlying89
  a76 := Tryz.isAgg89
  z76 := Tryz.sizeOf89
  v76 := Tryz.zeroValue89
  t109 := Tryz.underlying82
  a109 := Tryz.isAgg82
  z109 := Tryz.sizeOf82
  v109 := Tryz.zeroValue82
  t127 := Tryz.underlying108
  a127 := Tryz.isAgg108
  z127 := Tryz.sizeOf108
  v127 := Tryz.zeroValue108
  t146 := Tryz.underlying104
  a146 := Tryz.isAgg104
  z146 := Tryz.sizeOf104
  v146 := Tryz.zeroValue104
  t148 := Tryz.underlying106
  a148 := Tryz.isAgg106
  z148 := Tryz.sizeOf106
  v148 := Tryz.zeroValue106
  t164 := Tryz.underlying120
  a164 := Tryz.isAgg120
  z164 := Tryz.sizeOf120
  v164 := Tryz.zeroValue120 }

theorem Tryz.Builder_Extra_105 : Builder.Extra Tryz.prog Tryz.lays105_ren := {
  sizeBuilder := by kernel_rfl
  liesBuilder := by kernel_rfl
  t5 := Tryz.underlying5
  a5 := Tryz.isAgg5
  z5 := Tryz.sizeOf5
  v5 := Tryz.zeroValue5
  infoByte := by kernel_rfl
  cellsByte := by kernel_rfl
  sizeByte := by kernel_rfl
  neB5 := by decide }

end Go.Proofs.YteaeikmgkmpkiaaGreatDoor

namespace Go.Proofs.YteaeikmgkmpkiaaGreatDoor
open Go.RowKit Go.Lib

def aN (k : Nat) : ByteArray := ⟨(Lib.repeatL [97] k).toArray⟩
noncomputable def lenF (s : Lst) (x : ByteArray) : Option Lst := match numF x with
  | none => none
  | some n => if 0 ≤ n ∧ n ≤ 3000 then some { s with data := aN n.toNat } else none

set_option maxHeartbeats 1000000 in
theorem takeLength_ok : TakeOk 35 lenF := by
  intro W b s x hx _ _ hS hR hP hL
  have hb := hL.lt
  have hN := numberOf_calls W x hx hS hR hP
  cases hn : numF x with
  | none =>
    rw [hn] at hN
    have HF : Hid (lenF s x = none) := by show _ = _; unfold lenF; rw [hn]
    rw [HF.out]
    go_enter Tryz.func35, Tryz.ntmps35
    go_wp2_with fail
    refine hN.mono ?_
    rintro e w2 ⟨rfl, c2⟩
    have HC : Hid (Chg b W.heap.size W w2) := c2.widen (Or.inr (Nat.le_refl 0)) (Or.inr (Nat.le_refl 0))
    have HO : Hid (Oth b W w2) := oth_of c2
    clear c2 hN
    go_wp2
    go_ret
    exact ⟨rfl, fun s' e => by (cases e), HC.out, HO.out⟩
  | some n =>
    rw [hn] at hN
    have hW := fun V => isWithin_calls V n 0 3000
    by_cases hin : 0 ≤ n ∧ n ≤ 3000
    · have HF : Hid (lenF s x = some { s with data := aN n.toNat }) := by show _ = _; unfold lenF; rw [hn]; exact if_pos hin
      rw [HF.out]
      have hd : (decide ((0 : Int) ≤ n) && decide (n ≤ 3000)) = true := by simp; omega
      obtain ⟨k, rfl⟩ : ∃ k : Nat, n = (k : Int) := ⟨n.toNat, by omega⟩
      have hRp := fun V => Any.strings_Repeat Tryz.lays105 Tryz.Builder_Extra_105 ⟨#[97]⟩ k V (by omega) (by have : (⟨#[97]⟩ : ByteArray).size = 1 := rfl; rw [this]; omega)
      have hk : ((k : Int)).toNat = k := by omega
      rw [hk]
      have ew : IntKind.i64.wrap (k : Int) = (k : Int) := by rw [IntKind.wrap_i64]; omega
      have ha : (⟨(Lib.repeatL (⟨#[97]⟩ : ByteArray).data.toList k).toArray⟩ : ByteArray) = aN k := rfl
      rw [ha] at hRp
      clear HF hk ha
      generalize aN k = dt at *
      go_enter Tryz.func35, Tryz.ntmps35
      go_wp2_with fail
      refine hN.mono ?_
      rintro e w2 ⟨rfl, c2⟩
      go_wp2_with fail
      refine (hW _).mono ?_
      rintro e w3 ⟨rfl, rfl⟩
      rw [hd]
      go_wp2_with fail
      refine (hRp _).mono ?_
      rintro e w4 ⟨rfl, c4⟩
      have c5 : Chg 0 0 W w4 := c2.trans (Chg.ofBelow c4 0 0)
      obtain ⟨_, fz, hL3, c3⟩ := (hL.keep c5).put 7 (.string dt) (s' := { s with data := dt }) (fun nv => rfl) rfl
      obtain ⟨nv, h1, _⟩ := hL.keep c5
      have y : w4.cell? ⟨b, 7, none⟩ = some (.string s.data) := by rw [Lib.cell_of_heap h1]; rfl
      have HL : Hid (LineAt (w4.setCell ⟨b, 7, none⟩ (.string dt)) b { s with data := dt }) := hL3
      have HC : Hid (Chg b W.heap.size W (w4.setCell ⟨b, 7, none⟩ (.string dt))) := chg_into c5 c3
      have HO : Hid (Oth b W (w4.setCell ⟨b, 7, none⟩ (.string dt))) := oth_put c5 7 _
      clear hL3 c3 h1 c2 hN hL c4 c5 hRp hW hd
      go_wp2
      go_ret
      exact ⟨rfl, fun s' e => by injection e with e; rw [← e]; exact HL.out, HC.out, HO.out⟩
    · have HF : Hid (lenF s x = none) := by show _ = _; unfold lenF; rw [hn]; exact if_neg hin
      rw [HF.out]
      have hd : (decide ((0 : Int) ≤ n) && decide (n ≤ 3000)) = false := by
        rw [Bool.and_eq_false_iff, decide_eq_false_iff_not, decide_eq_false_iff_not]; omega
      go_enter Tryz.func35, Tryz.ntmps35
      go_wp2_with fail
      refine hN.mono ?_
      rintro e w2 ⟨rfl, c2⟩
      have HC : Hid (Chg b W.heap.size W w2) := c2.widen (Or.inr (Nat.le_refl 0)) (Or.inr (Nat.le_refl 0))
      have HO : Hid (Oth b W w2) := oth_of c2
      clear c2 hN
      go_wp2_with fail
      refine (hW _).mono ?_
      rintro e w3 ⟨rfl, rfl⟩
      rw [hd]
      go_wp2
      go_ret
      exact ⟨rfl, fun s' e => by (cases e), HC.out, HO.out⟩

end Go.Proofs.YteaeikmgkmpkiaaGreatDoor
