/- ValidInode of the model. -/
import Derived.Test.YtmfkgnifkkkkiaaDoorAppInts
namespace Go.Proofs.YtmfkgnifkkkkiaaDoor
open Go.RowKit

def goodI (x : Int) : Bool := decide (0 ≤ x) && decide (x < 2048)
theorem goodI_iff {x : Int} : goodI x = true ↔ 0 ≤ x ∧ x < 2048 := by unfold goodI; simp
/-- All its blocks. -/
def allI (i : Ino) : List Int := i.dir ++ [i.ind]
/-- Place k is as it must be. -/
def BodyAt (i : Ino) (k : Nat) : Prop := if i.size ≤ (k : Int) * 64 then (allI i).getD k 0 = 0 else i.kind = 1 ∨ (allI i).getD k 0 ≠ 0
def sumTo (xs : List Int) : Nat → Int
  | 0 => 0
  | k + 1 => sumTo xs k + xs.getD k 0
def InoHead (i : Ino) : Prop := i.dir.length = 8 ∧ 0 ≤ i.size ∧ i.size ≤ 2560 ∧ 0 ≤ i.links ∧ i.links ≤ 8
def InoRest (i : Ino) : Prop := (i.kind = 1 ∨ (i.kind = 2 ∧ i.links = 1 ∧ i.size % 16 = 0) ∨ (i.kind = 3 ∧ 1 ≤ i.size ∧ i.size ≤ 240)) ∧ (∀ k, k < 9 → BodyAt i k) ∧ (1 ≤ i.links ∨ i.kind = 1)
def InoP (i : Ino) : Prop := InoHead i ∧ (∀ x ∈ allI i, goodI x = true) ∧ if i.kind = 0 then i.size + i.links + sumTo (allI i) 9 = 0 else InoRest i
def inoB (i : Ino) : Bool := decide ((i.dir.length = 8 ∧ 0 ≤ i.size ∧ i.size ≤ 2560 ∧ 0 ≤ i.links ∧ i.links ≤ 8) ∧ (∀ x ∈ allI i, goodI x = true) ∧ if i.kind = 0 then i.size + i.links + sumTo (allI i) 9 = 0 else (i.kind = 1 ∨ (i.kind = 2 ∧ i.links = 1 ∧ i.size % 16 = 0) ∨ (i.kind = 3 ∧ 1 ≤ i.size ∧ i.size ≤ 240)) ∧ (∀ k : Nat, k < 9 → if i.size ≤ (k : Int) * 64 then (allI i).getD k 0 = 0 else i.kind = 1 ∨ (allI i).getD k 0 ≠ 0) ∧ (1 ≤ i.links ∨ i.kind = 1))
theorem inoB_iff {i : Ino} : inoB i = true ↔ InoP i := decide_eq_true_iff
theorem inoB_false {i : Ino} (h : ¬ InoP i) : inoB i = false := by rw [Bool.eq_false_iff]; exact fun e => h (inoB_iff.1 e)
theorem sumTo_bd {xs : List Int} (h : ∀ x ∈ xs, goodI x = true) : ∀ k, k ≤ xs.length → 0 ≤ sumTo xs k ∧ sumTo xs k ≤ 2048 * k := by
  intro k
  induction k with
  | zero => intro _; exact ⟨Int.le_refl _, Int.le_refl _⟩
  | succ k ih =>
    intro hk
    have h1 := ih (by omega)
    have h2 := goodI_iff.1 (h (xs.getD k 0) (by rw [List.getD_eq_getElem?_getD, List.getElem?_eq_getElem (by omega)]; exact List.getElem_mem (by omega)))
    unfold sumTo
    omega

set_option maxRecDepth 20000 in
set_option maxHeartbeats 1000000 in
theorem specIno_head (w : World) (i : Ino) (ao : Option Addr) (cap : Nat) (hl : i.dir.length ≤ 1048576) (hx : ¬ (i.dir.length = 8 ∧ 0 ≤ i.size ∧ i.size ≤ 2560 ∧ 0 ≤ i.links ∧ i.links ≤ 8)) :
    Calls Tryd.prog 44 #[inoV i ao cap] w fun e w' => e = .returned (.bool false) ∧ Chg 0 0 w w' := by
  have HA : Hid (Chg 0 0 w (w.alloc (inoO 51 i ao cap))) := Chg.alloc (Chg.refl 0 0 w) _
  obtain ⟨K, L, Z, ds, I⟩ := i
  simp only at *
  by_cases e1 : ds.length = 8
  · have hb : ((ds.length : Int) != 8) = false := by simp; omega
    have hx' : ¬ (0 ≤ Z ∧ Z ≤ 2560 ∧ 0 ≤ L ∧ L ≤ 8) := fun h => hx ⟨e1, h⟩
    clear hx e1
    by_cases e2 : Z < 0
    · clear hx'
      go_enter Tryd.func44, Tryd.ntmps44
      go_wp2
      go_ret
      exact ⟨rfl, HA.out⟩
    by_cases e3 : 2560 < Z
    · clear hx'
      go_enter Tryd.func44, Tryd.ntmps44
      go_wp2
      go_ret
      exact ⟨rfl, HA.out⟩
    by_cases e4 : L < 0
    · clear hx'
      go_enter Tryd.func44, Tryd.ntmps44
      go_wp2
      go_ret
      exact ⟨rfl, HA.out⟩
    have e5 : 8 < L := by omega
    go_enter Tryd.func44, Tryd.ntmps44
    go_wp2
    go_ret
    exact ⟨rfl, HA.out⟩
  · have hb : ((ds.length : Int) != 8) = true := by simp; omega
    go_enter Tryd.func44, Tryd.ntmps44
    go_wp2
    go_ret
    exact ⟨rfl, HA.out⟩

set_option maxRecDepth 20000 in
set_option maxHeartbeats 4000000 in
theorem specIno_in (w : World) {lo hi : Nat} (i : Ino) (ao : Option Addr) (cap : Nat) (hh : InoHead i) (hV : View w lo hi .i64 (.slice ao i.dir.length cap) i.dir) :
    Calls Tryd.prog 44 #[inoV i ao cap] w fun e w' => e = .returned (.bool (inoB i)) ∧ Chg 0 0 w w' := by
  obtain ⟨d8, z0, z1, l0, l1⟩ := id hh
  have HH : Hid (InoHead i) := hh
  have HLa : Hid ((allI i).length = 9) := by show _ = _; unfold allI; simp [d8]
  have HAll : Hid (allI i = i.dir ++ [i.ind]) := rfl
  have HP : Hid (InoP i ↔ InoHead i ∧ (∀ x ∈ allI i, goodI x = true) ∧ if i.kind = 0 then i.size + i.links + sumTo (allI i) 9 = 0 else InoRest i) := Iff.rfl
  have HRest : Hid (InoRest i ↔ (i.kind = 1 ∨ (i.kind = 2 ∧ i.links = 1 ∧ i.size % 16 = 0) ∨ (i.kind = 3 ∧ 1 ≤ i.size ∧ i.size ≤ 240)) ∧ (∀ k, k < 9 → BodyAt i k) ∧ (1 ≤ i.links ∨ i.kind = 1)) := Iff.rfl
  have HBody : Hid (∀ k, BodyAt i k ↔ if i.size ≤ (k : Int) * 64 then (allI i).getD k 0 = 0 else i.kind = 1 ∨ (allI i).getD k 0 ≠ 0) := fun k => Iff.rfl
  have HB : Hid ((w.alloc (inoO 51 i ao cap)).heap[w.heap.size]? = some (.cells #[.int .i64 i.kind, .int .i64 i.links, .int .i64 i.size, .slice ao i.dir.length cap, .int .i64 i.ind] 51 (0, 0))) := heap_new w _
  have s0 : (w.alloc (inoO 51 i ao cap)).heap.size = w.heap.size + 1 := by simp
  have HC0 : Hid (Chg 0 0 w ((w.alloc (inoO 51 i ao cap)).alloc (.cells #[] 2))) := (Chg.alloc (Chg.refl 0 0 w) _).alloc _
  have HO0 : Hid (OwnI ((w.alloc (inoO 51 i ao cap)).alloc (.cells #[] 2)) (w.heap.size + 1) 2 (.slice (some ⟨w.heap.size + 1, 0, none⟩) 0 0) []) := by
    have := OwnI.none0 (w.alloc (inoO 51 i ao cap))
    rw [s0] at this; exact this
  have HB0 : Hid _ := ((Chg.alloc (Chg.refl 0 0 (w.alloc (inoO 51 i ao cap))) (.cells #[] 2)).block w.heap.size (by omega) (by omega)).trans HB.out
  have HV0 : Hid (View ((w.alloc (inoO 51 i ao cap)).alloc (.cells #[] 2)) lo hi .i64 (.slice ao i.dir.length cap) i.dir) := hV.chg HC0.out (by omega)
  have s1 : ((w.alloc (inoO 51 i ao cap)).alloc (.cells #[] 2)).heap.size = w.heap.size + 2 := by simp
  have Hd8 : Hid (i.dir.length = 8) := d8
  have hb8 : ((i.dir.length : Int) != 8) = false := by simp; omega
  have e2 : ¬ i.size < 0 := by omega
  have e3 : ¬ 2560 < i.size := by omega
  have e4 : ¬ i.links < 0 := by omega
  have e5 : ¬ 8 < i.links := by omega
  have hdl : i.dir.length ≤ 8 := by omega
  clear hV d8 hh
  go_enter Tryd.func44, Tryd.ntmps44
  go_wp2_with (at_builtin; refine wpList_app_ints rfl (.tmp 33) (.tmp 35) rfl (w.heap.size + 1) _ [] rfl HO0.out (by simp) _ _ _ i.dir rfl HV0.out (by rw [Hd8.out]; omega) (by rw [Hd8.out]; simp) ?_)
  intro v1 w1 o1 c1
  have B1 : w1.heap[w.heap.size]? = some (.cells #[.int .i64 i.kind, .int .i64 i.links, .int .i64 i.size, .slice ao i.dir.length cap, .int .i64 i.ind] 51 (0, 0)) := (c1.block w.heap.size (by simp; omega) (by omega)).trans HB0.out
  have HC1 : Hid _ := HC0.out.step c1 (Or.inr (Or.inl (by omega)))
  have z1' := HC1.out.size
  have zz := (Array.getElem?_eq_some_iff.1 B1).1
  obtain ⟨g1, cp1, rfl, hg1, hg1'⟩ := o1.at (by rw [Hd8.out]; omega)
  obtain ⟨⟨x0, x1, x2, x3, x4⟩, _⟩ := ino_all B1
  have HCA : Hid (Chg 0 0 w (w1.alloc (.cells #[.int .i64 i.ind] 2))) := HC1.out.alloc _
  have HOA : Hid (OwnI (w1.alloc (.cells #[.int .i64 i.ind] 2)) (w.heap.size + 1) 2 (.slice (some ⟨g1, 0, none⟩) i.dir.length cp1) i.dir) := o1.chg ((Chg.refl 0 0 w1).alloc _) (by intro g _; omega)
  have HBA : Hid ((w1.alloc (.cells #[.int .i64 i.ind] 2)).heap[w.heap.size]? = some (.cells #[.int .i64 i.kind, .int .i64 i.links, .int .i64 i.size, .slice ao i.dir.length cap, .int .i64 i.ind] 51 (0, 0))) := ((Chg.alloc (Chg.refl 0 0 w1) _).block w.heap.size zz (by omega)).trans B1
  have HVA : Hid (View (w1.alloc (.cells #[.int .i64 i.ind] 2)) 0 (w1.heap.size + 1) .i64 (.slice (some ⟨w1.heap.size, 0, none⟩) 1 1) [i.ind]) := by
    refine ⟨_, 1, rfl, by simp, ⟨by simp, by simp⟩, Or.inr ⟨w1.heap.size, 0, rfl, Nat.zero_le _, by omega, fun j hj => ?_⟩⟩
    obtain rfl : j = 0 := by simpa using hj
    have hh := heap_new w1 (.cells #[.int .i64 i.ind] 2)
    simp only [World.cell?, hh]; rfl
  go_wp2_with (at_builtin; refine wpList_app_ints rfl (.tmp 37) (.tmp 40) rfl (w.heap.size + 1) _ i.dir rfl HOA.out (by simp; omega) _ _ _ [i.ind] rfl HVA.out (by simp) (by rw [Hd8.out]; simp) ?_)
  intro v2 w2 o2 c2
  have B2 : w2.heap[w.heap.size]? = some (.cells #[.int .i64 i.kind, .int .i64 i.links, .int .i64 i.size, .slice ao i.dir.length cap, .int .i64 i.ind] 51 (0, 0)) := (c2.block w.heap.size (by simp; omega) (by omega)).trans HBA.out
  have HC2 : Hid _ := HCA.out.step c2 (Or.inr (Or.inl (by omega)))
  rw [← HAll.out] at o2
  obtain ⟨g2, cp2, rfl, hg2, hg2'⟩ := o2.at (by rw [HLa.out]; omega)
  have HCell : Hid (∀ j, j < 9 → w2.cell? ⟨g2, j, none⟩ = some (.int .i64 ((allI i).getD j 0))) := fun j hj => o2.cell rfl j (by rw [HLa.out]; exact hj)
  have HMem : Hid (∀ j, j < 9 → (allI i).getD j 0 ∈ allI i) := fun j hj => by rw [List.getD_eq_getElem?_getD, List.getElem?_eq_getElem (by rw [HLa.out]; exact hj)]; exact List.getElem_mem _
  have HB2 : Hid _ := B2
  obtain ⟨⟨x0, x1, x2, x3, x4⟩, _⟩ := ino_all B2
  rw [HLa.out]
  go_wp2
  go_loopw [4, 5] (fun sm x wr => wr = w2 ∧ ∃ k : Nat, k ≤ 9 ∧ x = .int .i64 k ∧ sm = .int .i64 (i.size + i.links + sumTo (allI i) k) ∧ ∀ j, j < k → goodI ((allI i).getD j 0) = true) (fun _ x _ => 9 - (intOf x).toNat)
  case atStart => exact ⟨rfl, 0, by omega, rfl, by simp [sumTo], by omega⟩
  case round =>
    obtain ⟨rfl, k, hk, rfl, rfl, hR⟩ := hrel
    by_cases hlt : k < 9
    · have c1 := HCell.out k hlt
      have hi : (k : Int) < 9 := by omega
      by_cases hg : goodI ((allI i).getD k 0) = true
      · have HI : Hid (∀ j, j < k + 1 → goodI ((allI i).getD j 0) = true) := by
          intro j hj
          by_cases e : j = k
          · subst e; exact hg
          · exact hR j (by omega)
        have HS : Hid (sumTo (allI i) (k + 1) = sumTo (allI i) k + (allI i).getD k 0) := rfl
        have hN := l3GoodBlock_calls wr ((allI i).getD k 0)
        rw [show (decide (0 ≤ (allI i).getD k 0) && decide ((allI i).getD k 0 < 2048)) = true from hg] at hN
        obtain ⟨g0, g1⟩ := goodI_iff.1 hg
        have hsb : 0 ≤ sumTo (allI i) k ∧ sumTo (allI i) k ≤ 2048 * 9 := by
          have : ∀ m, m ≤ k → 0 ≤ sumTo (allI i) m ∧ sumTo (allI i) m ≤ 2048 * m := by
            intro m
            induction m with
            | zero => intro _; exact ⟨Int.le_refl _, Int.le_refl _⟩
            | succ m ih =>
              intro hm
              have h1 := ih (by omega)
              have h2 := goodI_iff.1 (hR m (by omega))
              unfold sumTo
              omega
          have := this k (Nat.le_refl _)
          omega
        generalize (allI i).getD k 0 = y at *
        generalize sumTo (allI i) k = sm at *
        go_wp2_with fail
        refine hN.mono ?_
        rintro e w3 ⟨rfl, rfl⟩
        go_wp2
        go_roundw
        case rel => exact ⟨trivial, k + 1, by omega, by go_num, by rw [HS.out]; congr 1; omega, HI.out⟩
        case measure => simp [intOf]; omega
      · have Hn : Hid (inoB i = false) := inoB_false (fun h => hg (h.2.1 _ (HMem.out k hlt)))
        have hN := l3GoodBlock_calls wr ((allI i).getD k 0)
        rw [show (decide (0 ≤ (allI i).getD k 0) && decide ((allI i).getD k 0 < 2048)) = false from by rw [Bool.not_eq_true] at hg; exact hg] at hN
        generalize (allI i).getD k 0 = y at *
        go_wp2_with fail
        refine hN.mono ?_
        rintro e w3 ⟨rfl, rfl⟩
        go_wp2
        go_ret
        exact ⟨by rw [Hn.out]; rfl, HC2.out⟩
    · obtain rfl : k = 9 := by omega
      have hgood : ∀ x ∈ allI i, goodI x = true := by
        intro x hx
        obtain ⟨j, hj, rfl⟩ := List.mem_iff_getElem.1 hx
        have := hR j (by rw [HLa.out] at hj; exact hj)
        rw [List.getD_eq_getElem?_getD, List.getElem?_eq_getElem hj] at this
        exact this
      have HX : Hid (inoB i = true ↔ if i.kind = 0 then i.size + i.links + sumTo (allI i) 9 = 0 else InoRest i) := by
        show _ ↔ _
        rw [inoB_iff, HP.out]
        exact ⟨fun h => h.2.2, fun h => ⟨HH.out, hgood, h⟩⟩
      have hsb := sumTo_bd hgood 9 (by rw [HLa.out]; omega)
      by_cases hk0 : i.kind = 0
      · rw [if_pos hk0] at HX
        have hb0 : (i.kind == 0) = true := by simpa using hk0
        generalize sumTo (allI i) 9 = sm at *
        by_cases hz : i.size + i.links + sm = 0
        · have Hn : Hid _ := HX.out.2 hz
          have hzb : (i.size + i.links + sm == 0) = true := by simpa using hz
          go_wp2
          go_ret
          exact ⟨by rw [Hn.out]; rfl, HC2.out⟩
        · have Hn : Hid (inoB i = false) := by show _ = _; rw [Bool.eq_false_iff]; exact fun h => hz (HX.out.1 h)
          have hzb : (i.size + i.links + sm == 0) = false := by simpa using hz
          go_wp2
          go_ret
          exact ⟨by rw [Hn.out]; rfl, HC2.out⟩
      · rw [if_neg hk0] at HX
        have hb0 : (i.kind == 0) = false := by simpa using hk0
        generalize sumTo (allI i) 9 = sm at *
        by_cases hk1 : i.kind = 1
        · have HK : Hid (i.kind = 1) := hk1
          have hb1 : (i.kind == 1) = true := by simpa using hk1
          have hn1 : (i.kind != 1) = false := by simpa using hk1
          have HT : Hid (inoB i = true ↔ (∀ k, k < 9 → BodyAt i k) ∧ (1 ≤ i.links ∨ i.kind = 1)) := by
            show _ ↔ _
            rw [HX.out, HRest.out]
            exact ⟨fun h => h.2, fun h => ⟨Or.inl hk1, h⟩⟩
          go_wp2
          go_loopw [7] (fun x w3 => w3 = wr ∧ ∃ k : Nat, k ≤ 9 ∧ x = .int .i64 k ∧ ∀ j, j < k → BodyAt i j) (fun x _ => 9 - (intOf x).toNat)
          case atStart => exact ⟨rfl, 0, by omega, rfl, by omega⟩
          case round =>
            obtain ⟨rfl, k, hk, rfl, hR⟩ := hrel
            by_cases hlt : k < 9
            · have c1 := HCell.out k hlt
              have hi : (k : Int) ≤ 8 := by omega
              have HBk := HBody.out k
              have HNx : Hid (BodyAt i k → ∀ j, j < k + 1 → BodyAt i j) := by
                intro h j hj
                by_cases e : j = k
                · subst e; exact h
                · exact hR j (by omega)
              have HNo : Hid (¬ BodyAt i k → inoB i = false) := fun h => by rw [Bool.eq_false_iff]; exact fun h' => h ((HT.out.1 h').1 k hlt)
              generalize (allI i).getD k 0 = y at *
              by_cases hbz : i.size ≤ (k : Int) * 64
              · rw [if_pos hbz] at HBk
                by_cases hy : y = 0
                · have HX2 : Hid _ := HNx.out (HBk.2 hy)
                  subst hy
                  go_wp2
                  go_roundw
                  case rel => exact ⟨trivial, k + 1, by omega, by go_num, HX2.out⟩
                  case measure => simp [intOf]; omega
                · have Hn : Hid _ := HNo.out (fun h => hy (HBk.1 h))
                  have hyb : (y != 0) = true := by simpa using hy
                  go_wp2
                  go_ret
                  exact ⟨by rw [Hn.out]; rfl, HC2.out⟩
              · rw [if_neg hbz] at HBk
                have HX2 : Hid _ := HNx.out (HBk.2 (Or.inl HK.out))
                go_wp2
                go_roundw
                case rel => exact ⟨trivial, k + 1, by omega, by go_num, HX2.out⟩
                case measure => simp [intOf]; omega
            · obtain rfl : k = 9 := by omega
              have HF : Hid (inoB i = true ↔ (1 ≤ i.links ∨ i.kind = 1)) := ⟨fun h => (HT.out.1 h).2, fun h => HT.out.2 ⟨fun j hj => hR j hj, h⟩⟩
              have Hn : Hid _ := HF.out.2 (Or.inr HK.out)
              by_cases hL : 1 ≤ i.links
              · go_wp2
                go_ret
                exact ⟨by rw [Hn.out]; rfl, HC2.out⟩
              · go_wp2
                go_ret
                exact ⟨by rw [Hn.out]; rfl, HC2.out⟩
        · have HK : Hid _ := hk1
          have hb1 : (i.kind == 1) = false := by simpa using hk1
          have hn1 : (i.kind != 1) = true := by simpa using hk1
          by_cases hk2 : i.kind = 2
          · have hb2 : (i.kind == 2) = true := by simpa using hk2
            by_cases hL1 : i.links = 1
            · have hlb : (i.links != 1) = false := by simpa using hL1
              by_cases hm : i.size % 16 = 0
              · have hmb : (i.size % 16 != 0) = false := by simpa using hm
                have HT : Hid (inoB i = true ↔ (∀ k, k < 9 → BodyAt i k) ∧ (1 ≤ i.links ∨ i.kind = 1)) := by
                  show _ ↔ _
                  rw [HX.out, HRest.out]
                  exact ⟨fun h => h.2, fun h => ⟨Or.inr (Or.inl ⟨hk2, hL1, hm⟩), h⟩⟩
                clear hk1 hk2 hL1 hm
                go_wp2
                go_loopw [7] (fun x w3 => w3 = wr ∧ ∃ k : Nat, k ≤ 9 ∧ x = .int .i64 k ∧ ∀ j, j < k → BodyAt i j) (fun x _ => 9 - (intOf x).toNat)
                case atStart => exact ⟨rfl, 0, by omega, rfl, by omega⟩
                case round =>
                  obtain ⟨rfl, k, hk, rfl, hR⟩ := hrel
                  by_cases hlt : k < 9
                  · have c1 := HCell.out k hlt
                    have hi : (k : Int) ≤ 8 := by omega
                    have HBk := HBody.out k
                    have HNx : Hid (BodyAt i k → ∀ j, j < k + 1 → BodyAt i j) := by
                      intro h j hj
                      by_cases e : j = k
                      · subst e; exact h
                      · exact hR j (by omega)
                    have HNo : Hid (¬ BodyAt i k → inoB i = false) := fun h => by rw [Bool.eq_false_iff]; exact fun h' => h ((HT.out.1 h').1 k hlt)
                    generalize (allI i).getD k 0 = y at *
                    clear hR
                    by_cases hbz : i.size ≤ (k : Int) * 64
                    · rw [if_pos hbz] at HBk
                      by_cases hy : y = 0
                      · have HX2 : Hid (∀ j, j < k + 1 → BodyAt i j) := HNx.out (HBk.2 hy)
                        subst hy
                        clear HBk HNx HNo
                        go_wp2
                        go_roundw
                        case rel => exact ⟨trivial, k + 1, by omega, by go_num, HX2.out⟩
                        case measure => simp [intOf]; omega
                      · have Hn : Hid (inoB i = false) := HNo.out (fun h => hy (HBk.1 h))
                        have hyb : (y != 0) = true := by simpa using hy
                        clear HBk HNx HNo hy
                        go_wp2
                        go_ret
                        exact ⟨by rw [Hn.out]; rfl, HC2.out⟩
                    · rw [if_neg hbz] at HBk
                      by_cases hy : y = 0
                      · have Hn : Hid (inoB i = false) := HNo.out (fun h => (HBk.1 h).elim (fun h => HK.out h) (fun h => h hy))
                        subst hy
                        clear HBk HNx HNo
                        go_wp2
                        go_ret
                        exact ⟨by rw [Hn.out]; rfl, HC2.out⟩
                      · have HX2 : Hid (∀ j, j < k + 1 → BodyAt i j) := HNx.out (HBk.2 (Or.inr hy))
                        have hyb : (y == 0) = false := by simpa using hy
                        clear HBk HNx HNo hy
                        go_wp2
                        go_roundw
                        case rel => exact ⟨trivial, k + 1, by omega, by go_num, HX2.out⟩
                        case measure => simp [intOf]; omega
                  · obtain rfl : k = 9 := by omega
                    have HF : Hid (inoB i = true ↔ (1 ≤ i.links ∨ i.kind = 1)) := ⟨fun h => (HT.out.1 h).2, fun h => HT.out.2 ⟨fun j hj => hR j hj, h⟩⟩
                    clear hR
                    by_cases hL : 1 ≤ i.links
                    · have Hn : Hid (inoB i = true) := HF.out.2 (Or.inl hL)
                      go_wp2
                      go_ret
                      exact ⟨by rw [Hn.out]; rfl, HC2.out⟩
                    · have Hn : Hid (inoB i = false) := by show _ = _; rw [Bool.eq_false_iff]; exact fun h => (HF.out.1 h).elim hL HK.out
                      go_wp2
                      go_ret
                      exact ⟨by rw [Hn.out]; rfl, HC2.out⟩
              · have Hn : Hid (inoB i = false) := by
                  show _ = _; rw [Bool.eq_false_iff]
                  intro h
                  rcases (HRest.out.1 (HX.out.1 h)).1 with h | ⟨_, _, h⟩ | ⟨h, _⟩
                  · exact hk1 h
                  · exact hm h
                  · omega
                have hmb : (i.size % 16 != 0) = true := by simpa using hm
                go_wp2
                go_ret
                exact ⟨by rw [Hn.out]; rfl, HC2.out⟩
            · have Hn : Hid (inoB i = false) := by
                show _ = _; rw [Bool.eq_false_iff]
                intro h
                rcases (HRest.out.1 (HX.out.1 h)).1 with h | ⟨_, h, _⟩ | ⟨h, _⟩
                · exact hk1 h
                · exact hL1 h
                · omega
              have hlb : (i.links != 1) = true := by simpa using hL1
              go_wp2
              go_ret
              exact ⟨by rw [Hn.out]; rfl, HC2.out⟩
          · have hb2 : (i.kind == 2) = false := by simpa using hk2
            by_cases hk3 : i.kind = 3
            · have hb3 : (i.kind == 3) = true := by simpa using hk3
              by_cases hs1 : i.size < 1
              · have Hn : Hid (inoB i = false) := by
                  show _ = _; rw [Bool.eq_false_iff]
                  intro h
                  rcases (HRest.out.1 (HX.out.1 h)).1 with h | ⟨h, _⟩ | ⟨_, h, _⟩
                  · exact hk1 h
                  · exact hk2 h
                  · omega
                go_wp2
                go_ret
                exact ⟨by rw [Hn.out]; rfl, HC2.out⟩
              by_cases hs2 : 240 < i.size
              · have Hn : Hid (inoB i = false) := by
                  show _ = _; rw [Bool.eq_false_iff]
                  intro h
                  rcases (HRest.out.1 (HX.out.1 h)).1 with h | ⟨h, _⟩ | ⟨_, _, h⟩
                  · exact hk1 h
                  · exact hk2 h
                  · omega
                go_wp2
                go_ret
                exact ⟨by rw [Hn.out]; rfl, HC2.out⟩
              have HT : Hid (inoB i = true ↔ (∀ k, k < 9 → BodyAt i k) ∧ (1 ≤ i.links ∨ i.kind = 1)) := by
                show _ ↔ _
                rw [HX.out, HRest.out]
                exact ⟨fun h => h.2, fun h => ⟨Or.inr (Or.inr ⟨hk3, by omega, by omega⟩), h⟩⟩
              go_wp2
              go_loopw [7] (fun x w3 => w3 = wr ∧ ∃ k : Nat, k ≤ 9 ∧ x = .int .i64 k ∧ ∀ j, j < k → BodyAt i j) (fun x _ => 9 - (intOf x).toNat)
              case atStart => exact ⟨rfl, 0, by omega, rfl, by omega⟩
              case round =>
                obtain ⟨rfl, k, hk, rfl, hR⟩ := hrel
                by_cases hlt : k < 9
                · have c1 := HCell.out k hlt
                  have hi : (k : Int) ≤ 8 := by omega
                  have HBk := HBody.out k
                  have HNx : Hid (BodyAt i k → ∀ j, j < k + 1 → BodyAt i j) := by
                    intro h j hj
                    by_cases e : j = k
                    · subst e; exact h
                    · exact hR j (by omega)
                  have HNo : Hid (¬ BodyAt i k → inoB i = false) := fun h => by rw [Bool.eq_false_iff]; exact fun h' => h ((HT.out.1 h').1 k hlt)
                  generalize (allI i).getD k 0 = y at *
                  by_cases hbz : i.size ≤ (k : Int) * 64
                  · rw [if_pos hbz] at HBk
                    by_cases hy : y = 0
                    · have HX2 : Hid _ := HNx.out (HBk.2 hy)
                      subst hy
                      go_wp2
                      go_roundw
                      case rel => exact ⟨trivial, k + 1, by omega, by go_num, HX2.out⟩
                      case measure => simp [intOf]; omega
                    · have Hn : Hid _ := HNo.out (fun h => hy (HBk.1 h))
                      have hyb : (y != 0) = true := by simpa using hy
                      go_wp2
                      go_ret
                      exact ⟨by rw [Hn.out]; rfl, HC2.out⟩
                  · rw [if_neg hbz] at HBk
                    by_cases hy : y = 0
                    · have Hn : Hid _ := HNo.out (fun h => (HBk.1 h).elim (fun h => HK.out h) (fun h => h hy))
                      subst hy
                      go_wp2
                      go_ret
                      exact ⟨by rw [Hn.out]; rfl, HC2.out⟩
                    · have HX2 : Hid _ := HNx.out (HBk.2 (Or.inr hy))
                      have hyb : (y == 0) = false := by simpa using hy
                      go_wp2
                      go_roundw
                      case rel => exact ⟨trivial, k + 1, by omega, by go_num, HX2.out⟩
                      case measure => simp [intOf]; omega
                · obtain rfl : k = 9 := by omega
                  have HF : Hid (inoB i = true ↔ (1 ≤ i.links ∨ i.kind = 1)) := ⟨fun h => (HT.out.1 h).2, fun h => HT.out.2 ⟨fun j hj => hR j hj, h⟩⟩
                  by_cases hL : 1 ≤ i.links
                  · have Hn : Hid _ := HF.out.2 (Or.inl hL)
                    go_wp2
                    go_ret
                    exact ⟨by rw [Hn.out]; rfl, HC2.out⟩
                  · have Hn : Hid (inoB i = false) := by show _ = _; rw [Bool.eq_false_iff]; exact fun h => (HF.out.1 h).elim hL HK.out
                    go_wp2
                    go_ret
                    exact ⟨by rw [Hn.out]; rfl, HC2.out⟩
            · have Hn : Hid (inoB i = false) := by
                show _ = _; rw [Bool.eq_false_iff]
                intro h
                rcases (HRest.out.1 (HX.out.1 h)).1 with h | ⟨h, _⟩ | ⟨h, _⟩
                · exact hk1 h
                · exact hk2 h
                · exact hk3 h
              have hb3 : (i.kind == 3) = false := by simpa using hk3
              go_wp2
              go_ret
              exact ⟨by rw [Hn.out]; rfl, HC2.out⟩

theorem specValidInode_calls (w : World) {lo hi : Nat} (i : Ino) (ao : Option Addr) (cap : Nat) (hl : i.dir.length ≤ 1048576) (hV : View w lo hi .i64 (.slice ao i.dir.length cap) i.dir) :
    Calls Tryd.prog 44 #[inoV i ao cap] w fun e w' => e = .returned (.bool (inoB i)) ∧ Chg 0 0 w w' := by
  by_cases h : InoHead i
  · exact specIno_in w i ao cap h hV
  · rw [inoB_false (fun h' => h h'.1)]
    exact specIno_head w i ao cap hl h

end Go.Proofs.YtmfkgnifkkkkiaaDoor
