/- getPointers of the program. -/
import Derived.Test.YtdfpllijijaeiaaArrKit
import Derived.Test.YtdfpllijijaeiaaByt
import Derived.Test.YtdfpllijijaeiaaGetN
import Derived.Test.YtdfpllijijaeiaaViewPart
import Derived.Test.YtdfpllijijaeiaaCells
import Derived.Laws.CopyOwn
import Derived.Deep.DeepCutAuto
namespace Go.Proofs.Ytdfpllijijaeiaa
open Go.RowKit

/-- The number at place k of bytes. -/
def gpAt (xs : List Int) (k : Nat) : Int := getN ((xs.drop (2 * k)).take 2)
def gps (xs : List Int) (k : Nat) : List Int := (List.range k).map (gpAt xs)
theorem gps_len (xs : List Int) (k : Nat) : (gps xs k).length = k := by simp [gps]
theorem gps_succ (xs : List Int) (k : Nat) : gps xs (k + 1) = gps xs k ++ [gpAt xs k] := by simp [gps, List.range_succ]
theorem splice_one {c : List Value} {o : Nat} {A : List Value} {v : Value} (h : o + A.length < c.length) : (splice c o A).set (o + A.length) v = splice c o (A ++ [v]) := by
  have e0 : (c.take o).length = o := by rw [List.length_take]; omega
  unfold splice
  rw [List.set_append, if_neg (by omega), e0, Nat.add_sub_cancel_left, List.set_append, if_neg (by omega), Nat.sub_self, List.length_append]
  have hd : c.drop (o + A.length) = c[o + A.length] :: c.drop (o + A.length + 1) := List.drop_eq_getElem_cons h
  rw [hd, List.set_cons_zero, List.append_assoc]
  rfl

set_option maxRecDepth 20000 in
set_option maxHeartbeats 2000000 in
theorem getPointers_calls (w : World) (B o m c2 : Nat) (T : TypeId) (cs : List Value) (hA : ArrC w B T cs) (xs : List Int) (lo hi b off cap : Nat) (hbB : hi ≤ B ∨ B < lo) (hB : Byt xs) (hm : 2 * m ≤ xs.length) (_hxl : xs.length ≤ 1000) (hcap : xs.length ≤ cap) (hcap2 : cap ≤ 1048576) (hmc : m ≤ c2) (hon : o + m ≤ cs.length)
    (hV : View w lo hi .u8 (.slice (some ⟨b, off, none⟩) xs.length cap) xs) :
    Calls Try.prog 15 #[.slice (some ⟨b, off, none⟩) xs.length cap, .slice (some ⟨B, o, none⟩) m c2] w fun e w' => (∃ v, e = .returned v) ∧ ArrC w' B T (splice cs o ((gps xs m).map (Value.int .i64))) ∧ Chg B (B + 1) w w' := by
  go_enter Try.func15, Try.ntmps15
  go_wp2
  go_loopw [7] (fun x wr => ∃ k : Nat, k ≤ m ∧ x = .int .i64 k ∧ ArrC wr B T (splice cs o ((gps xs k).map (Value.int .i64))) ∧ Chg B (B + 1) w wr) (fun x _ => m - (intOf x).toNat)
  case atStart => exact ⟨0, Nat.zero_le _, rfl, by show ArrC _ _ _ (splice cs o []); rw [show splice cs o [] = cs from by unfold splice; simp]; exact hA, Chg.refl _ _ _⟩
  case round =>
    obtain ⟨k, hk, rfl, ho, hc⟩ := hrel
    by_cases hlt : k < m
    · have hi' : (k : Int) < (m : Int) := by omega
      have hN := implGet_calls (xs := (xs.drop (2 * k)).take 2) wr (fun x hx => hB x (List.mem_of_mem_drop (List.mem_of_mem_take hx))) ((hV.chg hc (by omega)).part (l := 2 * k) (n := 2) (by omega) (by omega) (cap - 2 * k) (by omega))
      rw [show getN ((xs.drop (2 * k)).take 2) = gpAt xs k from rfl] at hN
      have hgl : ((gps xs k).map (Value.int .i64)).length = k := by rw [List.length_map, gps_len]
      have HT : Hid ((splice cs o ((gps xs k).map (Value.int .i64))).set (o + k) (.int .i64 (gpAt xs k)) = splice cs o ((gps xs (k + 1)).map (Value.int .i64))) := by
        show _ = _
        have := splice_one (c := cs) (o := o) (A := (gps xs k).map (Value.int .i64)) (v := .int .i64 (gpAt xs k)) (by rw [hgl]; omega)
        rw [hgl] at this
        rw [this, gps_succ, List.map_append]; rfl
      have HL : Hid ((splice cs o ((gps xs k).map (Value.int .i64))).length = cs.length) := length_splice _ _ _ (by rw [hgl]; omega)
      have HO : Hid (ArrC wr B T (splice cs o ((gps xs k).map (Value.int .i64)))) := ho
      have HC : Hid (Chg B (B + 1) w wr) := hc
      generalize splice cs o ((gps xs k).map (Value.int .i64)) = cur at *
      generalize gpAt xs k = x at *
      have q1 : (0 : Int) ≤ (k : Int) * 2 := by omega
      have q3 : ((k : Int) * 2).toNat = 2 * k := by omega
      have q4 : IntKind.i64.wrap ((k : Int) * 2) = (k : Int) * 2 := by rw [IntKind.wrap_i64]; omega
      have q5 : ¬ cap = 2 * k := by omega
      have q6 : IntKind.i64.wrap ((k : Int) + 1) = (k : Int) + 1 := by rw [IntKind.wrap_i64]; omega
      have q7 : IntKind.i64.wrap (((k : Int) + 1) * 2) = ((k : Int) + 1) * 2 := by rw [IntKind.wrap_i64]; omega
      have q8 : (0 : Int) ≤ ((k : Int) + 1) * 2 := by omega
      have q9 : ((k : Int) + 1) * 2 ≤ (cap : Int) := by omega
      have q10 : (k : Int) * 2 ≤ ((k : Int) + 1) * 2 := by omega
      have q11 : (((k : Int) + 1) * 2).toNat = 2 * k + 2 := by omega
      have q12 : 2 * k + 2 - 2 * k = 2 := by omega
      clear hgl ho hc hA hV
      go_wp2_with fail
      refine hN.mono ?_
      rintro e w2 ⟨rfl, h2⟩
      have HO2 : Hid (ArrC w2 B T cur) := HO.out.chg (h2.chg 0 0) (by omega)
      have HC2 : Hid (Chg B (B + 1) w w2) := HC.out.step (h2.chg 0 0) (Or.inr (Or.inr (Nat.le_refl _)))
      obtain ⟨v0, hv0⟩ : ∃ v0, w2.cell? ⟨B, o + k, none⟩ = some v0 := ⟨_, HO2.out.cell (o + k) (List.getElem?_eq_getElem (by rw [HL.out]; omega))⟩
      have hf0 := HO2.out.frozen (o + k)
      have HO3 : Hid (ArrC (w2.setCell ⟨B, o + k, none⟩ (.int .i64 x)) B T (splice cs o ((gps xs (k + 1)).map (Value.int .i64)))) := by show ArrC _ _ _ _; rw [← HT.out]; exact HO2.out.put (o + k) _
      have HC3 : Hid (Chg B (B + 1) w (w2.setCell ⟨B, o + k, none⟩ (.int .i64 x))) := HC2.out.setCell (Or.inl ⟨Nat.le_refl _, Nat.lt_succ_self _⟩) _
      clear hN h2 HO HC HO2 HC2 HT HL
      go_wp2
      go_roundw
      case rel => exact ⟨k + 1, by omega, by go_num, HO3.out, HC3.out⟩
      case measure => simp [intOf]; omega
    · obtain rfl : k = m := by omega
      have HO : Hid (ArrC wr B T (splice cs o ((gps xs k).map (Value.int .i64)))) := ho
      clear ho hV
      go_wp2
      refine bodyPost_end (results_none rfl _ _ _) rfl ?_
      exact ⟨⟨_, rfl⟩, HO.out, hc⟩

end Go.Proofs.Ytdfpllijijaeiaa
