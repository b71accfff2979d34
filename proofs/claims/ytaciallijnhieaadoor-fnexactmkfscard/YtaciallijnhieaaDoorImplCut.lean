/- Several short texts in one: BitSpec, BitPutSpec, IntsP, Ints, SzB, SzI, Flat, GoodBlk, InoSpec, InoValid, InoEnc, ViewPart, ImplBM, ImplPut1, ImplNext, ImplFill, ImplMaps, MkMath, RangeOwn, ImplPieces, ImplCut. -/
import Derived.Test.YtaciallijnhieaaDoorByt
import Derived.Test.YtaciallijnhieaaDoorCopy
import Derived.Test.YtaciallijnhieaaDoorRows
import Derived.Test.YtaciallijnhieaaDoorMem
import Derived.Deep.DeepCutAuto
import Derived.Test.YtaciallijnhieaaDoorJoin2
import Derived.Test.YtaciallijnhieaaDoorPutLen
import Derived.Test.YtaciallijnhieaaDoorBytSeen
import Derived.Test.YtaciallijnhieaaDoorHeld
import Derived.Test.YtaciallijnhieaaDoorWeak
import Derived.Great.BuildSlice
import Derived.BigQuiet
import Derived.Lib.BitFns
import Derived.Test.YtaciallijnhieaaDoorGeoSpec
import Derived.Test.YtaciallijnhieaaDoorBytesOf
import Derived.Test.YtaciallijnhieaaDoorSmall
import Derived.RangeFuncNested
import Derived.RangeFuncBound
import Derived.RangeFuncCalls
import Derived.RangeFuncLeaves
import Derived.RangeFuncFrom
import Derived.RangeFuncWrites
import Derived.RangeFuncBox
import Derived.Shelf.Abstract
import Derived.Shelf.RegionOpen
import Derived.OwnWalkIn
import Derived.TacticsInMore
import Derived.LoopNIn
import Derived.LoopIn
import Derived.Deep.MidRow
namespace Go.Proofs.YtaciallijnhieaaDoor
open Go.RowKit

/-- Bit m of a map. -/
def bitN (xs : List Int) (m : Nat) : Bool := decide ((xs.getD (m / 8) 0).toNat / 2 ^ (m % 8) % 2 = 1)
/-- i is a place in a map. -/
def InMap (xs : List Int) (i : Int) : Prop := xs.length ≤ 2048 ∧ 0 ≤ i ∧ i < 8 * (xs.length : Int)
instance (xs : List Int) (i : Int) : Decidable (InMap xs i) := by unfold InMap; infer_instance
def bitG (xs : List Int) (i : Int) : Bool := decide (InMap xs i) && bitN xs i.toNat

theorem bitG_in {xs : List Int} {m : Nat} (h : InMap xs m) : bitG xs m = bitN xs m := by unfold bitG; rw [decide_eq_true h]; simp
theorem bitG_out {xs : List Int} {i : Int} (h : ¬ InMap xs i) : bitG xs i = false := by unfold bitG; rw [decide_eq_false h]; simp

set_option maxRecDepth 20000 in
set_option maxHeartbeats 400000 in
theorem specBitGet_some (w : World) (xs : List Int) (m : Nat) (b off cap : Nat) (hB : Byt xs) (hl : xs.length ≤ 2048) (hm : m < 8 * xs.length)
    (h1 : ∀ i, i < xs.length → w.cell? ⟨b, off + i, none⟩ = some (.int .u8 (xs.getD i 0))) :
    Calls Tryd.prog 43 #[.slice (some ⟨b, off, none⟩) xs.length cap, .int .i64 m] w fun e w' => e = .returned (.bool (bitN xs m)) ∧ w' = w := by
  have c1 := h1 (m / 8) (by omega)
  have hb := hB.getD (m / 8)
  have Hfin : Hid (∀ y : Nat, xs.getD (m / 8) 0 = y → bitN xs m = decide (y / 2 ^ (m % 8) % 2 = 1)) := by intro y hy; unfold bitN; rw [hy]; rfl
  obtain ⟨y, hy⟩ : ∃ y : Nat, xs.getD (m / 8) 0 = y := ⟨(xs.getD (m / 8) 0).toNat, by omega⟩
  have HF : Hid (bitN xs m = decide (y / 2 ^ (m % 8) % 2 = 1)) := Hfin.out y hy
  rw [hy] at c1 hb
  have hq : ((m / 8 : Nat) : Int) < (xs.length : Int) := by omega
  have e1 : ¬ (2048 : Int) < (xs.length : Int) := by omega
  have e2 : ¬ ((m : Int)) < 0 := by omega
  have e3 : ¬ 8 * (xs.length : Int) ≤ (m : Int) := by omega
  have hr : m % 8 < 8 := by omega
  clear h1 hy Hfin hB
  go_enter Tryd.func43, Tryd.ntmps43
  go_wp2
  obtain ⟨r, Hr⟩ : ∃ r : Nat, Hid (m % 8 = r) := ⟨_, rfl⟩
  have hmr : ((m : Int) % 8) = (r : Int) := by have := Hr.out; omega
  rw [hmr]
  rw [Hr.out] at HF hr
  clear hmr
  go_loopw [5, 6] (fun v k wr => wr = w ∧ ∃ j : Nat, j ≤ r ∧ k = .int .i64 ((r - j : Nat) : Int) ∧ v = .int .u8 ((y / 2 ^ j : Nat) : Int)) (fun _ k _ => (intOf k).toNat)
  case atStart => exact ⟨rfl, 0, Nat.zero_le _, by simp, by simp⟩
  case round =>
    obtain ⟨rfl, j, hj, rfl, rfl⟩ := hrel
    have hy2 : y / 2 ^ j < 256 := Nat.lt_of_le_of_lt (Nat.div_le_self _ _) (by omega)
    have hs : y / 2 ^ j / 2 = y / 2 ^ (j + 1) := by rw [Nat.div_div_eq_div_mul, Nat.pow_succ]
    by_cases hlt : j < r
    · have hp : (0 : Int) < ((r - j : Nat) : Int) := by omega
      have Hs : Hid (y / 2 ^ j / 2 = y / 2 ^ (j + 1)) := hs
      clear hs
      generalize y / 2 ^ j = z at *
      generalize hrj : r - j = d at *
      have Hd : Hid (r - j = d) := hrj
      have hdb : d ≤ 8 := by omega
      clear hrj
      go_wp2
      go_roundw
      case rel => exact ⟨trivial, j + 1, by omega, by have := Hd.out; congr 1; omega, by rw [← Hs.out]; go_num⟩
      case measure => simp [intOf]; omega
    · obtain rfl : j = r := by omega
      rw [Nat.sub_self] at *
      clear hs
      generalize y / 2 ^ j = z at *
      by_cases hz : z % 2 = 1
      · have hz1 : ((z : Int) % 2 == 1) = true := by simp; omega
        rw [decide_eq_true hz] at HF
        clear hz
        go_wp2
        go_ret
        exact ⟨by rw [HF.out]; rfl, rfl⟩
      · have hz1 : ((z : Int) % 2 == 1) = false := by simp; omega
        rw [decide_eq_false hz] at HF
        clear hz
        go_wp2
        go_ret
        exact ⟨by rw [HF.out]; rfl, rfl⟩

set_option maxRecDepth 20000 in
set_option maxHeartbeats 400000 in
theorem specBitGet_out (w : World) (n : Nat) (ao : Option Addr) (cap : Nat) (i : Int) (hl : n ≤ 1048576) (ho : ¬ (n ≤ 2048 ∧ 0 ≤ i ∧ i < 8 * (n : Int))) :
    Calls Tryd.prog 43 #[.slice ao n cap, .int .i64 i] w fun e w' => e = .returned (.bool false) ∧ w' = w := by
  by_cases h0 : n ≤ 2048
  · by_cases h1 : i < 0
    · go_enter Tryd.func43, Tryd.ntmps43
      go_wp2
      go_ret
      exact ⟨rfl, rfl⟩
    · have h2 : 8 * (n : Int) ≤ i := by omega
      clear ho
      go_enter Tryd.func43, Tryd.ntmps43
      go_wp2
      go_ret
      exact ⟨rfl, rfl⟩
  · have h1 : (2048 : Int) < (n : Int) := by omega
    clear ho
    go_enter Tryd.func43, Tryd.ntmps43
    go_wp2
    go_ret
    exact ⟨rfl, rfl⟩

theorem specBitGet_calls (w : World) {lo hi : Nat} {a : Value} {xs : List Int} (i : Int) (hB : Byt xs) (hl : xs.length ≤ 1048576) (h1 : View w lo hi .u8 a xs) :
    Calls Tryd.prog 43 #[a, .int .i64 i] w fun e w' => e = .returned (.bool (bitG xs i)) ∧ w' = w := by
  obtain ⟨ao, cap, rfl, _, _, h1⟩ := h1
  by_cases ho : InMap xs i
  · obtain ⟨m, rfl⟩ : ∃ m : Nat, i = m := ⟨i.toNat, by have := ho.2.1; omega⟩
    rw [bitG_in ho]
    have h3 := ho.2.2
    rcases h1 with rfl | ⟨x, off, rfl, _, _, h1⟩
    · simp at h3; omega
    · exact specBitGet_some w xs m x off cap hB ho.1 (by omega) h1
  · rw [bitG_out ho]
    exact specBitGet_out w xs.length ao cap i hl ho

end Go.Proofs.YtaciallijnhieaaDoor

namespace Go.Proofs.YtaciallijnhieaaDoor
open Go.RowKit

/-- A byte with bit r on or off. -/
def putBit (x : Int) (r : Nat) (on : Bool) : Int :=
  if decide (x.toNat / 2 ^ r % 2 = 1) = on then x else if on then x + 2 ^ r else x - 2 ^ r
def bitP (xs : List Int) (i : Int) (on : Bool) : List Int := if InMap xs i then xs.set (i.toNat / 8) (putBit (xs.getD (i.toNat / 8) 0) (i.toNat % 8) on) else []

theorem bitP_in {xs : List Int} {m : Nat} {on : Bool} (h : InMap xs m) : bitP xs m on = xs.set (m / 8) (putBit (xs.getD (m / 8) 0) (m % 8) on) := by unfold bitP; rw [if_pos h]; simp
theorem bitP_out {xs : List Int} {i : Int} {on : Bool} (h : ¬ InMap xs i) : bitP xs i on = [] := by unfold bitP; rw [if_neg h]
theorem bitP_len (xs : List Int) (i : Int) (on : Bool) : (bitP xs i on).length ≤ xs.length := by unfold bitP; split <;> simp

theorem up_bound {x r : Nat} (hx : x < 256) (hr : r < 8) (h : ¬ x / 2 ^ r % 2 = 1) : x + 2 ^ r < 256 := by
  match r, hr with
  | 0, _ | 1, _ | 2, _ | 3, _ | 4, _ | 5, _ | 6, _ | 7, _ => simp at h ⊢; omega
theorem down_bound {x r : Nat} (hr : r < 8) (h : x / 2 ^ r % 2 = 1) : 2 ^ r ≤ x := by
  match r, hr with
  | 0, _ | 1, _ | 2, _ | 3, _ | 4, _ | 5, _ | 6, _ | 7, _ => simp at h ⊢; omega
theorem pow_bound {r : Nat} (hr : r < 8) : 2 ^ r ≤ 128 := by
  match r, hr with
  | 0, _ | 1, _ | 2, _ | 3, _ | 4, _ | 5, _ | 6, _ | 7, _ => simp

theorem putBit_up {x r : Nat} (h : ¬ x / 2 ^ r % 2 = 1) : putBit x r true = ((x + 2 ^ r : Nat) : Int) := by unfold putBit; rw [if_neg (by simpa using h)]; simp
theorem putBit_down {x r : Nat} (hr : r < 8) (h : x / 2 ^ r % 2 = 1) : putBit x r false = ((x - 2 ^ r : Nat) : Int) := by
  have := down_bound hr h
  unfold putBit; rw [if_neg (by simpa using h), Int.ofNat_sub this]; simp
theorem putBit_same {x r : Nat} {on : Bool} (h : decide (x / 2 ^ r % 2 = 1) = on) : putBit x r on = x := by unfold putBit; rw [if_pos (by simpa using h)]

theorem OwnB.at {w : World} {base : Nat} {e : TypeId} {v : Value} {xs : List Int} (h : OwnB w base e v xs) (hn : 0 < xs.length) : ∃ g cap, v = .slice (some ⟨g, 0, none⟩) xs.length cap ∧ base ≤ g ∧ g < w.heap.size := by
  have hb := h.lt
  obtain ⟨_, h2⟩ := h
  rcases h2 with ⟨_, h0⟩ | ⟨g, cap, cur, rfl, hg, _⟩
  · omega
  · exact ⟨g, cap, rfl, hg, (hb g rfl).2⟩

theorem OwnB.putAt {w : World} {base g n cap : Nat} {e : TypeId} {xs : List Int} (h : OwnB w base e (.slice (some ⟨g, 0, none⟩) n cap) xs) (hn : xs.length = n) (i : Nat) (x : Int) :
    OwnB (w.setCell ⟨g, i, none⟩ (.int .u8 x)) base e (.slice (some ⟨g, 0, none⟩) n cap) (xs.set i x) := by
  subst hn
  have := (World.ownsRow.stored h i (.int .u8 x)).1
  unfold OwnB at *
  rw [List.length_set, List.map_set]
  exact this

set_option maxRecDepth 20000 in
set_option maxHeartbeats 1000000 in
theorem specBitPut_some (w : World) (xs : List Int) (m : Nat) (on : Bool) (lo hi b off cap : Nat) (hB : Byt xs) (hl : xs.length ≤ 2048) (hm : m < 8 * xs.length)
    (hV : View w lo hi .u8 (.slice (some ⟨b, off, none⟩) xs.length cap) xs) :
    Calls Tryd.prog 17 #[.slice (some ⟨b, off, none⟩) xs.length cap, .int .i64 m, .bool on] w fun e w' => ∃ v, e = .returned v ∧ OwnB w' w.heap.size 5 v (xs.set (m / 8) (putBit (xs.getD (m / 8) 0) (m % 8) on)) ∧ Chg 0 0 w w' := by
  have hb := hB.getD (m / 8)
  obtain ⟨y, hy⟩ : ∃ y : Nat, xs.getD (m / 8) 0 = y := ⟨(xs.getD (m / 8) 0).toNat, by omega⟩
  have HF : Hid (bitG xs m = decide (y / 2 ^ (m % 8) % 2 = 1)) := by show _ = _; rw [bitG_in ⟨hl, by omega, by omega⟩]; unfold bitN; rw [hy]; rfl
  have HV : Hid (View w lo hi .u8 (.slice (some ⟨b, off, none⟩) xs.length cap) xs) := hV
  have HY : Hid (xs.getD (m / 8) 0 = y) := hy
  rw [hy] at hb ⊢
  have hq : ((m / 8 : Nat) : Int) < (xs.length : Int) := by omega
  have e1 : ¬ (2048 : Int) < (xs.length : Int) := by omega
  have e2 : ¬ ((m : Int)) < 0 := by omega
  have e3 : ¬ 8 * (xs.length : Int) ≤ (m : Int) := by omega
  have hr : m % 8 < 8 := by omega
  have hN := l1Copy_calls w (by omega) hV
  clear hy hV
  go_enter Tryd.func17, Tryd.ntmps17
  go_wp2_with fail
  refine hN.mono ?_
  rintro e w1 ⟨v, rfl, ov, hc⟩
  have HC : Hid (Chg 0 0 w w1) := hc
  obtain ⟨g, gcap, rfl, hg, hg'⟩ := ov.at (by omega)
  have HO : Hid (OwnB w1 w.heap.size 5 (.slice (some ⟨g, 0, none⟩) xs.length gcap) xs) := ov
  clear hN ov hc
  obtain ⟨r, Hr⟩ : ∃ r : Nat, Hid (m % 8 = r) := ⟨_, rfl⟩
  have hmr : ((m : Int) % 8) = (r : Int) := by have := Hr.out; omega
  rw [Hr.out] at HF hr
  have hmr' : m % 8 = r := Hr.out
  have hpw := pow_bound hr
  have HG : Hid (y / 2 ^ r % 2 = 1 → 2 ^ r ≤ y) := fun h => down_bound hr h
  have HU : Hid (¬ y / 2 ^ r % 2 = 1 → y + 2 ^ r < 256) := fun h => up_bound (by omega) hr h
  have C1 : w1.cell? ⟨g, m / 8, none⟩ = some (.int .u8 y) := by
    have := World.ownsRow.cellAt HO.out (m / 8) (by omega)
    rw [this, List.getElem?_map]
    have e : xs[m / 8]? = some (y : Int) := by
      have := HY.out
      rw [List.getD_eq_getElem?_getD] at this
      rw [List.getElem?_eq_getElem (by omega)] at this ⊢
      exact congrArg some this
    rw [e]; rfl
  have C2 : w1.frozen? ⟨g, m / 8, none⟩ = false := World.ownsRow.frozenAt HO.out (m / 8)
  have hC := specBitGet_calls w1 m hB (by omega) (HV.out.chg HC.out (by omega))
  rw [HF.out] at hC
  have HS : Hid (∀ z : Nat, OwnB (w1.setCell ⟨g, m / 8, none⟩ (.int .u8 z)) w.heap.size 5 (.slice (some ⟨g, 0, none⟩) xs.length gcap) (xs.set (m / 8) z)) := fun z => HO.out.putAt rfl (m / 8) z
  have HCS : Hid (∀ z : Nat, Chg 0 0 w (w1.setCell ⟨g, m / 8, none⟩ (.int .u8 z))) := fun z => HC.out.setCell (Or.inr hg) _
  have HSame : Hid (xs.set (m / 8) (y : Int) = xs) := by
    show _ = _
    refine List.ext_getElem? fun i => ?_
    by_cases e : i = m / 8
    · subst e
      rw [List.getElem?_set_self (by omega)]
      have := HY.out
      rw [List.getD_eq_getElem?_getD, List.getElem?_eq_getElem (by omega)] at this
      rw [List.getElem?_eq_getElem (by omega)]
      exact congrArg some this.symm
    · rw [List.getElem?_set_ne (fun h => e h.symm)]
  go_wp2
  generalize hP : 2 ^ r = P at *
  have HP : Hid (2 ^ r = P) := hP
  clear hP
  go_loopw [8, 9] (fun u k wr => wr = w1 ∧ ∃ j : Nat, j ≤ r ∧ k = .int .i64 ((r - j : Nat) : Int) ∧ u = .int .u8 ((2 ^ j : Nat) : Int)) (fun _ k _ => (intOf k).toNat)
  case atStart => exact ⟨rfl, 0, Nat.zero_le _, by rw [hmr]; simp, by simp⟩
  case round =>
    obtain ⟨rfl, j, hj, rfl, rfl⟩ := hrel
    by_cases hlt : j < r
    · have hp : (0 : Int) < ((r - j : Nat) : Int) := by omega
      have hz : 2 ^ j ≤ 64 := by
        have : j < 7 := by omega
        match j, this with
        | 0, _ | 1, _ | 2, _ | 3, _ | 4, _ | 5, _ | 6, _ => simp
      have Hs : Hid (2 ^ j * 2 = 2 ^ (j + 1)) := (Nat.pow_succ 2 j).symm
      generalize 2 ^ j = z at *
      generalize hrj : r - j = d at *
      have Hd : Hid (r - j = d) := hrj
      have hdb : d ≤ 8 := by omega
      clear hrj hC
      go_wp2
      go_roundw
      case rel => exact ⟨trivial, j + 1, by omega, by have := Hd.out; congr 1; omega, by rw [← Hs.out]; go_num⟩
      case measure => simp [intOf]; omega
    · obtain rfl : j = r := by omega
      rw [Nat.sub_self, HP.out]
      go_wp2_with fail
      refine hC.mono ?_
      rintro e w2 ⟨rfl, rfl⟩
      clear hC
      by_cases hbit : y / P % 2 = 1
      · have hPy : P ≤ y := HG.out hbit
        have Hz : Hid (putBit y j false = ((y - P : Nat) : Int)) := by show _ = _; rw [← HP.out]; exact putBit_down hr (by rw [HP.out]; exact hbit)
        have Ho : Hid (putBit y j true = (y : Int)) := putBit_same (by rw [HP.out]; simpa using hbit)
        rw [decide_eq_true hbit]
        clear hbit
        cases on with
        | true =>
          go_wp2
          go_ret
          exact ⟨_, rfl, by rw [Hr.out, Ho.out, HSame.out]; exact HO.out, HC.out⟩
        | false =>
          have hsub : (y : Int) - (P : Int) = ((y - P : Nat) : Int) := by omega
          go_wp2
          go_ret
          refine ⟨_, rfl, by rw [Hr.out, Hz.out]; exact HS.out _, HCS.out _⟩
      · have hPy : y + P < 256 := HU.out hbit
        have Hz : Hid (putBit y j true = ((y + P : Nat) : Int)) := by show _ = _; rw [← HP.out]; exact putBit_up (by rw [HP.out]; exact hbit)
        have Ho : Hid (putBit y j false = (y : Int)) := putBit_same (by rw [HP.out]; simpa using hbit)
        rw [decide_eq_false hbit]
        clear hbit
        cases on with
        | true =>
          go_wp2
          go_ret
          refine ⟨_, rfl, by rw [Hr.out, Hz.out]; exact HS.out _, HCS.out _⟩
        | false =>
          go_wp2
          go_ret
          exact ⟨_, rfl, by rw [Hr.out, Ho.out, HSame.out]; exact HO.out, HC.out⟩

set_option maxRecDepth 20000 in
set_option maxHeartbeats 400000 in
theorem specBitPut_out (w : World) (n : Nat) (ao : Option Addr) (cap : Nat) (i : Int) (on : Bool) (hl : n ≤ 1048576) (ho : ¬ (n ≤ 2048 ∧ 0 ≤ i ∧ i < 8 * (n : Int))) :
    Calls Tryd.prog 17 #[.slice ao n cap, .int .i64 i, .bool on] w fun e w' => ∃ v, e = .returned v ∧ OwnB w' w.heap.size 5 v [] ∧ Chg 0 0 w w' := by
  have H0 : Hid (OwnB (w.alloc (.cells #[] 5)) w.heap.size 5 (.slice (some ⟨w.heap.size, 0, none⟩) 0 0) []) :=
    ⟨rfl, Or.inr ⟨w.heap.size, 0, #[], rfl, Nat.le_refl _, heap_new w _, Nat.le_refl _, Nat.zero_le _, rfl, rfl⟩⟩
  have HC : Hid (Chg 0 0 w (w.alloc (.cells #[] 5))) := Chg.alloc (Chg.refl 0 0 w) _
  by_cases h0 : n ≤ 2048
  · by_cases h1 : i < 0
    · go_enter Tryd.func17, Tryd.ntmps17
      go_wp2
      go_ret
      exact ⟨_, rfl, H0.out, HC.out⟩
    · have h2 : 8 * (n : Int) ≤ i := by omega
      clear ho
      go_enter Tryd.func17, Tryd.ntmps17
      go_wp2
      go_ret
      exact ⟨_, rfl, H0.out, HC.out⟩
  · have h1 : (2048 : Int) < (n : Int) := by omega
    clear ho
    go_enter Tryd.func17, Tryd.ntmps17
    go_wp2
    go_ret
    exact ⟨_, rfl, H0.out, HC.out⟩

theorem specBitPut_calls (w : World) {lo hi : Nat} {a : Value} {xs : List Int} (i : Int) (on : Bool) (hB : Byt xs) (hl : xs.length ≤ 1048576) (h1 : View w lo hi .u8 a xs) :
    Calls Tryd.prog 17 #[a, .int .i64 i, .bool on] w fun e w' => ∃ v, e = .returned v ∧ OwnB w' w.heap.size 5 v (bitP xs i on) ∧ Chg 0 0 w w' := by
  have hV := h1
  obtain ⟨ao, cap, rfl, _, _, h1⟩ := h1
  by_cases ho : InMap xs i
  · obtain ⟨m, rfl⟩ : ∃ m : Nat, i = m := ⟨i.toNat, by have := ho.2.1; omega⟩
    rw [bitP_in ho]
    have h3 := ho.2.2
    rcases h1 with rfl | ⟨x, off, rfl, _, _, h1⟩
    · simp at h3; omega
    · exact specBitPut_some w xs m on lo hi x off cap hB ho.1 (by omega) hV
  · rw [bitP_out ho]
    exact specBitPut_out w xs.length ao cap i on hl ho

end Go.Proofs.YtaciallijnhieaaDoor

namespace Go.Proofs.YtaciallijnhieaaDoor
open Go.RowKit

theorem Tryd.infoI : (Tryd.prog.info? 2).map (fun i => (i.zero, i.size, i.bytes)) = some (some (.int .i64 0), 1, 8) := by kernel_rfl

/-- A row of numbers that is this slice's own. -/
def OwnI (w : World) (base : Nat) (e : TypeId) (v : Value) (xs : List Int) : Prop := w.ownsRow base e 1 v xs.length (xs.map (Value.int .i64))

theorem OwnI.view {w : World} {base : Nat} {e : TypeId} {v : Value} {xs : List Int} (h : OwnI w base e v xs) (hl : xs.length ≤ 9223372036854775807) {hi : Nat} (hb : ∀ g, v.ownBlock = some g → g < hi) : View w base hi .i64 v xs := by
  have h' := h
  obtain ⟨_, h2⟩ := h
  rcases h2 with ⟨rfl, h0⟩ | ⟨g, cap, cur, rfl, hg, hh, hc, hm, hs, ht⟩
  · obtain rfl : xs = [] := List.eq_nil_of_length_eq_zero h0
    exact View.nil _ _ _ _
  · refine ⟨_, cap, rfl, hl, ⟨hc, by simp⟩, ?_⟩
    refine Or.inr ⟨g, 0, rfl, hg, hb g rfl, fun i hi => ?_⟩
    have := World.ownsRow.cellAt h' i (by simpa using hi)
    rw [Nat.zero_add, this]
    simp [hi]

theorem OwnI.chg {w w' : World} {base l r : Nat} {e : TypeId} {v : Value} {xs : List Int} (h : OwnI w base e v xs) (c : Chg l r w w') (d : ∀ g, v.ownBlock = some g → g < l ∨ r ≤ g) : OwnI w' base e v xs := by
  obtain ⟨h1, h2⟩ := h
  refine ⟨h1, ?_⟩
  rcases h2 with h2 | ⟨g, cap, cur, hv, hg, hh, r⟩
  · exact Or.inl h2
  · refine Or.inr ⟨g, cap, cur, hv, hg, ?_, r⟩
    rw [c.block g (Array.getElem?_eq_some_iff.1 hh).1 (d g (by rw [hv]; rfl))]; exact hh


theorem OwnI.lt {w : World} {base : Nat} {e : TypeId} {v : Value} {xs : List Int} (h : OwnI w base e v xs) : ∀ g, v.ownBlock = some g → base ≤ g ∧ g < w.heap.size := World.ownsRow.lt h

end Go.Proofs.YtaciallijnhieaaDoor

namespace Go.Proofs.YtaciallijnhieaaDoor
open Go.RowKit

theorem take_set_dropI (xs : List Int) (k : Nat) (h : k < xs.length) :
    ((xs.take k ++ List.replicate (xs.length - k) 0).map (Value.int .i64)).set k (.int .i64 (xs.getD k 0)) = (xs.take (k + 1) ++ List.replicate (xs.length - (k + 1)) 0).map (Value.int .i64) := by
  have e : xs.length - k = (xs.length - (k + 1)) + 1 := by omega
  rw [e, List.replicate_succ, List.map_append, List.map_cons, List.set_append]
  simp only [List.length_map, List.length_take, Nat.min_eq_left (Nat.le_of_lt h), Nat.lt_irrefl, if_false, Nat.sub_self, List.set_cons_zero]
  rw [List.take_succ_eq_append_getElem h, List.map_append, List.map_append]
  simp [List.getD_eq_getElem?_getD, h]

/-- The marks k, k + 1, .. -/
def marksI (k n : Nat) : List Int := (List.range n).map fun i => ((k + i : Nat) : Int)
theorem marksI_length (k n : Nat) : (marksI k n).length = n := by simp [marksI]
theorem marksI_succ (k0 k : Nat) : marksI k0 (k + 1) = marksI k0 k ++ [((k0 + k : Nat) : Int)] := by
  simp [marksI, List.range_succ]
theorem marksI_set (k0 k : Nat) (xs : List Int) (h : k < xs.length) :
    ((marksI k0 k ++ xs.drop k).map (Value.int .i64)).set k (.int .i64 ((k0 + k : Nat) : Int)) = (marksI k0 (k + 1) ++ xs.drop (k + 1)).map (Value.int .i64) := by
  have hd : xs.drop k = xs[k] :: xs.drop (k + 1) := by simp
  rw [hd, marksI_succ, List.map_append, List.map_cons, List.set_append]
  simp [marksI_length]

end Go.Proofs.YtaciallijnhieaaDoor

namespace Go.Proofs.YtaciallijnhieaaDoor
open Go.RowKit

/-- What is left of a count of at most left where n are taken: -1 if there are not so many. -/
def lft (left n : Nat) : Int := if n ≤ left then ((left - n : Nat) : Int) else -1

theorem lft_pos {left n : Nat} (h : n ≤ left) : lft left n = ((left - n : Nat) : Int) := by unfold lft; rw [if_pos h]
theorem lft_neg {left n : Nat} (h : ¬ n ≤ left) : lft left n = -1 := by unfold lft; rw [if_neg h]

end Go.Proofs.YtaciallijnhieaaDoor

namespace Go.Proofs.YtaciallijnhieaaDoor
open Go.RowKit

end Go.Proofs.YtaciallijnhieaaDoor

namespace Go.Proofs.YtaciallijnhieaaDoor
open Go.RowKit

/-- k structs of n numbers each: all their numbers in a row. -/
def FView (n : Nat) (w : World) (lo hi : Nat) (v : Value) (k : Nat) (fs : List Int) : Prop :=
  ∃ ao cap, v = .slice ao k cap ∧ fs.length = k * n ∧ k ≤ 9223372036854775807 ∧ (k ≤ cap ∧ (ao = none → cap = 0)) ∧
    (k = 0 ∨ ∃ b off, ao = some ⟨b, off, none⟩ ∧ lo ≤ b ∧ b < hi ∧ ∀ j, j < k * n → w.cell? ⟨b, off + j, none⟩ = some (.int .i64 (fs.getD j 0)))

theorem FView.chg {n : Nat} {w w' : World} {lo hi l r : Nat} {v : Value} {k : Nat} {fs : List Int} (h : FView n w lo hi v k fs) (c : Chg l r w w') (d : hi ≤ l ∨ r ≤ lo ∨ r ≤ l) : FView n w' lo hi v k fs := by
  obtain ⟨ao, cap, hv, h1, h2, h3, h4⟩ := h
  refine ⟨ao, cap, hv, h1, h2, h3, ?_⟩
  rcases h4 with h4 | ⟨b, off, hao, hb, hb', h4⟩
  · exact Or.inl h4
  · exact Or.inr ⟨b, off, hao, hb, hb', fun j hj => c.cell (h4 j hj) (by show b < l ∨ r ≤ b; omega)⟩

theorem FView.slice {n : Nat} {w : World} {lo hi : Nat} {v : Value} {k : Nat} {fs : List Int} (h : FView n w lo hi v k fs) : ∃ ao cap, v = .slice ao k cap := by
  obtain ⟨ao, cap, rfl, _⟩ := h; exact ⟨ao, cap, rfl⟩

/-- The same, owned. -/
def OwnF (n : Nat) (w : World) (base : Nat) (e : TypeId) (v : Value) (k : Nat) (fs : List Int) : Prop := w.ownsRow base e n v k (fs.map (Value.int .i64))

theorem OwnF.lt {n : Nat} {w : World} {base : Nat} {e : TypeId} {v : Value} {k : Nat} {fs : List Int} (h : OwnF n w base e v k fs) : ∀ g, v.ownBlock = some g → base ≤ g ∧ g < w.heap.size := World.ownsRow.lt h

theorem OwnF.chg {n : Nat} {w w' : World} {base l r : Nat} {e : TypeId} {v : Value} {k : Nat} {fs : List Int} (h : OwnF n w base e v k fs) (c : Chg l r w w') (d : ∀ g, v.ownBlock = some g → g < l ∨ r ≤ g) : OwnF n w' base e v k fs := by
  obtain ⟨h1, h2⟩ := h
  refine ⟨h1, ?_⟩
  rcases h2 with h2 | ⟨g, cap, cur, hv, hg, hh, r⟩
  · exact Or.inl h2
  · refine Or.inr ⟨g, cap, cur, hv, hg, ?_, r⟩
    rw [c.block g (Array.getElem?_eq_some_iff.1 hh).1 (d g (by rw [hv]; rfl))]; exact hh

theorem OwnF.base {n : Nat} {w : World} {base base' : Nat} {e : TypeId} {v : Value} {k : Nat} {fs : List Int} (h : OwnF n w base e v k fs) (hb : ∀ g, v.ownBlock = some g → base' ≤ g) : OwnF n w base' e v k fs := by
  obtain ⟨h1, h2⟩ := h
  refine ⟨h1, ?_⟩
  rcases h2 with h2 | ⟨g, cap, cur, hv, hg, hh, r⟩
  · exact Or.inl h2
  · exact Or.inr ⟨g, cap, cur, hv, hb g (by rw [hv]; rfl), hh, r⟩

theorem OwnF.len {n : Nat} {w : World} {base : Nat} {e : TypeId} {v : Value} {k : Nat} {fs : List Int} (h : OwnF n w base e v k fs) : fs.length = k * n := by
  have := h.1; rwa [List.length_map] at this

theorem OwnF.view {n : Nat} {w : World} {base : Nat} {e : TypeId} {v : Value} {k : Nat} {fs : List Int} (h : OwnF n w base e v k fs) (hk : k ≤ 9223372036854775807) {hi : Nat} (hb : ∀ g, v.ownBlock = some g → g < hi) : FView n w base hi v k fs := by
  have h' := h
  have hlen := h.len
  obtain ⟨_, h2⟩ := h
  rcases h2 with ⟨rfl, h0⟩ | ⟨g, cap, cur, rfl, hg, hh, hc, hm, hs, ht⟩
  · subst h0; exact ⟨none, 0, rfl, hlen, hk, ⟨Nat.le_refl _, fun _ => rfl⟩, Or.inl rfl⟩
  · refine ⟨_, cap, rfl, hlen, hk, ⟨hc, fun h => by cases h⟩, Or.inr ⟨g, 0, rfl, hg, hb g rfl, fun j hj => ?_⟩⟩
    rw [Nat.zero_add, World.ownsRow.cellAt h' j hj]
    rw [List.getElem?_map, List.getElem?_eq_getElem (by omega)]
    simp [List.getD_eq_getElem?_getD, List.getElem?_eq_getElem (show j < fs.length by omega)]

/-- Numbers that count up. -/
def marksF (k0 m : Nat) : List Int := (List.range m).map fun i => ((k0 + i : Nat) : Int)
theorem marksF_length (k0 m : Nat) : (marksF k0 m).length = m := by simp [marksF]
theorem marksF_getD (k0 m i : Nat) (h : i < m) : (marksF k0 m).getD i 0 = ((k0 + i : Nat) : Int) := by simp [marksF, List.getD_eq_getElem?_getD, h]
theorem marksF_set (k0 m : Nat) (fs : List Int) (h : m < fs.length) : ((marksF k0 m ++ fs.drop m).map (Value.int .i64)).set m (.int .i64 ((k0 + m : Nat) : Int)) = (marksF k0 (m + 1) ++ fs.drop (m + 1)).map (Value.int .i64) := by
  rw [← List.map_set]
  congr 1
  rw [List.set_append, marksF_length, if_neg (by omega), Nat.sub_self, List.drop_eq_getElem_cons h, List.set_cons_zero]
  have : marksF k0 (m + 1) = marksF k0 m ++ [((k0 + m : Nat) : Int)] := by simp [marksF, List.range_succ]
  rw [this, List.append_assoc]; rfl

/-- append of structs that are seen to structs that are owned. -/
theorem wpList_app_flat {n : Nat} {P : Program} {w : World} {ops : Array Oper} {rest : List Oper} {o : Oper} {a : Act} {Q : Exit → Act → World → Prop} (hgd : o.guard = none) (s x : Operand) (t : TypeId)
    (ho : o.op = .call { callee := .builtin .append, args := #[s, x], argTypes := #[t, t] }) (base : Nat) (e : TypeId) (i : TypeInfo) (z : Value) (bytes : Nat) (ht : P.underlying t = some (.slice e)) (hi : P.info? e = some i) (hz : i.zero = some z)
    (hsize : i.size = n) (hby : i.bytes = bytes) (hzs : z.cells.size = n) (hsz : 0 < n) (v : Value) (k : Nat) (fs : List Int) (hs : a.eval s = v) (hown : OwnF n w base e v k fs)
    (b m c : Nat) (ys : List Int) (hx : a.eval x = .slice (some ⟨b, 0, none⟩) m c) (hl : ys.length = m * n) (hm : 0 < m) (hc : ∀ j, j < m * n → w.cell? ⟨b, j, none⟩ = some (.int .i64 (ys.getD j 0)))
    (hk : k + m ≤ 1048576) (hb64 : bytes ≤ 1024) (hbase : base ≤ w.heap.size)
    (h : ∀ v' w', (∃ g cap, v' = .slice (some ⟨g, 0, none⟩) (k + m) cap) → OwnF n w' base e v' (k + m) (fs ++ ys) → Chg base w.heap.size w w' → wpList P ops Q rest (a.put o.dst v') w') : wpList P ops Q (o :: rest) a w := by
  refine wpList_append_own w hgd s x t ho base e i z n bytes ht hi hz hsize hby hzs hsz v k _ hs hown ⟨b, 0, none⟩ m c (ys.map (Value.int .i64)) hx (by rw [List.length_map]; exact hl) ?_ ?_ (by unfold maxLen; omega) (Nat.le_trans (Nat.mul_le_mul hk hb64) (by omega)) hbase ?_
  · intro j u hj
    obtain ⟨hj', hu⟩ := List.getElem?_eq_some_iff.1 hj
    rw [List.length_map] at hj'
    have := hc j (by omega)
    rw [Go.WideShapes.add_plain, Nat.zero_add, this, ← hu]
    simp [List.getD_eq_getElem?_getD, List.getElem?_eq_getElem hj']
  · intro u hu
    obtain ⟨y, _, rfl⟩ := List.mem_map.1 hu
    rfl
  · intro v' w' h1 h2 _
    refine h v' w' ?_ (by unfold OwnF; rw [List.map_append]; exact h1) (Chg.ofGrown h2 (fun g hg hlt => ⟨(World.ownsRow.lt hown g hg).1, hlt⟩))
    rcases h1.2 with ⟨_, h0⟩ | ⟨g', cap', cur, e', _⟩
    · omega
    · exact ⟨g', cap', e'⟩

theorem OwnF.nil {n : Nat} (w : World) (e : TypeId) : OwnF n (w.alloc (.cells #[] e)) w.heap.size e (.slice (some ⟨w.heap.size, 0, none⟩) 0 0) 0 [] := by
  have := World.ownsRow_lit (base := w.heap.size) (e := e) (size := n) w #[] 0 (Nat.le_refl _) (by unfold maxLen; omega) (by simp)
  simpa [OwnF] using this

theorem OwnF.at {n : Nat} {w : World} {base : Nat} {e : TypeId} {v : Value} {k : Nat} {fs : List Int} (h : OwnF n w base e v k fs) (hk : 0 < k) : ∃ g cap, v = .slice (some ⟨g, 0, none⟩) k cap ∧ base ≤ g ∧ g < w.heap.size := by
  have hb := h.lt
  obtain ⟨_, h2⟩ := h
  rcases h2 with ⟨_, h0⟩ | ⟨g, cap, cur, rfl, hg, _⟩
  · omega
  · exact ⟨g, cap, rfl, hg, (hb g rfl).2⟩

theorem OwnF.cell {n : Nat} {w : World} {base : Nat} {e : TypeId} {g k cap : Nat} {fs : List Int} (h : OwnF n w base e (.slice (some ⟨g, 0, none⟩) k cap) k fs) (j : Nat) (hj : j < k * n) :
    w.cell? ⟨g, j, none⟩ = some (.int .i64 (fs.getD j 0)) ∧ w.frozen? ⟨g, j, none⟩ = false := by
  have hlen := h.len
  refine ⟨?_, World.ownsRow.frozenAt h j⟩
  rw [World.ownsRow.cellAt h j hj, List.getElem?_map, List.getElem?_eq_getElem (by omega)]
  simp [List.getD_eq_getElem?_getD, List.getElem?_eq_getElem (show j < fs.length by omega)]

theorem OwnF.put {n : Nat} {w : World} {base : Nat} {e : TypeId} {g k cap : Nat} {fs : List Int} (h : OwnF n w base e (.slice (some ⟨g, 0, none⟩) k cap) k fs) (j : Nat) (x : Int) :
    OwnF n (w.setCell ⟨g, j, none⟩ (.int .i64 x)) base e (.slice (some ⟨g, 0, none⟩) k cap) k (fs.set j x) := by
  have := (World.ownsRow.stored h j (.int .i64 x)).1
  unfold OwnF at *
  rw [List.map_set]; exact this

end Go.Proofs.YtaciallijnhieaaDoor

namespace Go.Proofs.YtaciallijnhieaaDoor
open Go.RowKit

set_option maxHeartbeats 400000 in
theorem l3GoodBlock_calls (w : World) (v : Int) : Calls Tryd.prog 61 #[.int .i64 v] w fun e w' => e = .returned (.bool (decide (0 ≤ v) && decide (v < 2048))) ∧ w' = w := by
  by_cases h1 : 0 ≤ v
  · by_cases h2 : v < 2048
    · rw [decide_eq_true h1, decide_eq_true h2]
      go_enter Tryd.func61, Tryd.ntmps61
      go_wp2
      go_ret
      exact ⟨rfl, rfl⟩
    · rw [decide_eq_true h1, decide_eq_false h2]
      go_enter Tryd.func61, Tryd.ntmps61
      go_wp2
      go_ret
      exact ⟨rfl, rfl⟩
  · rw [decide_eq_false h1]
    go_enter Tryd.func61, Tryd.ntmps61
    go_wp2
    go_ret
    exact ⟨rfl, rfl⟩

end Go.Proofs.YtaciallijnhieaaDoor

namespace Go.Proofs.YtaciallijnhieaaDoor
open Go.RowKit

/-- An inode: kind, links, size, direct blocks, the indirect one. -/
structure Ino where
  kind : Int
  links : Int
  size : Int
  dir : List Int
  ind : Int

abbrev inoV (i : Ino) (ao : Option Addr) (cap : Nat) : Value := .agg #[.int .i64 i.kind, .int .i64 i.links, .int .i64 i.size, .slice ao i.dir.length cap, .int .i64 i.ind]
abbrev inoO (t : TypeId) (i : Ino) (ao : Option Addr) (cap : Nat) : Obj := .cells #[.int .i64 i.kind, .int .i64 i.links, .int .i64 i.size, .slice ao i.dir.length cap, .int .i64 i.ind] t
theorem ino_all {w : World} {s : Nat} {a b c d e : Value} {t : TypeId} (h : w.heap[s]? = some (.cells #[a, b, c, d, e] t (0, 0))) :
    (w.cell? ⟨s, 0, none⟩ = some a ∧ w.cell? ⟨s, 1, none⟩ = some b ∧ w.cell? ⟨s, 2, none⟩ = some c ∧ w.cell? ⟨s, 3, none⟩ = some d ∧ w.cell? ⟨s, 4, none⟩ = some e) ∧
      w.frozen? ⟨s, 0, none⟩ = false ∧ w.frozen? ⟨s, 1, none⟩ = false ∧ w.frozen? ⟨s, 2, none⟩ = false ∧ w.frozen? ⟨s, 3, none⟩ = false ∧ w.frozen? ⟨s, 4, none⟩ = false := by
  simp [World.cell?, World.frozen?, h]

end Go.Proofs.YtaciallijnhieaaDoor

namespace Go.Proofs.YtaciallijnhieaaDoor
open Go.RowKit

/-- append(s, x...), s one's own numbers, x seen in memory and not empty. -/
theorem wp_app_ints {o : Oper} {a : Act} {w : World} {K : Act → World → Prop} {Q : Exit → Act → World → Prop} (s x : Operand)
    (ho : o.op = .call { callee := .builtin .append, args := #[s, x], argTypes := #[49, 49] })
    (base : Nat) (sv : Value) (xs : List Int) (hs : a.eval s = sv) (hO : OwnI w base 2 sv xs) (hbase : base ≤ w.heap.size) (lo hi : Nat) (xv : Value) (ys : List Int) (hx : a.eval x = xv) (hv : View w lo hi .i64 xv ys) (hy : 0 < ys.length) (hl : xs.length + ys.length ≤ 1048576)
    (h : ∀ v' w', OwnI w' base 2 v' (xs ++ ys) → Chg base w.heap.size w w' → K (a.put o.dst v') w') : o.wp Tryd.prog a w K Q := by
  obtain ⟨i, hi, hz0, hz1, hz2⟩ := info_parts Tryd.infoI
  obtain ⟨ao, cap, rfl, _, _, hcell⟩ := hv
  obtain ⟨b, off, rfl, hc⟩ : ∃ b off, ao = some ⟨b, off, none⟩ ∧ ∀ i, i < ys.length → w.cell? ⟨b, off + i, none⟩ = some (.int .i64 (ys.getD i 0)) := by
    rcases hcell with e | ⟨b, off, e, _, _, h3⟩
    · rw [e] at hy; simp at hy
    · exact ⟨b, off, e, h3⟩
  have HNW : ∀ j u, (ys.map (Value.int .i64))[j]? = some u → w.cell? ((⟨b, off, none⟩ : Addr).add j) = some u := by
    intro j u hj
    have hjl : j < ys.length := by have := (List.getElem?_eq_some_iff.1 hj).1; simpa using this
    rw [Go.WideShapes.add_plain, hc j hjl, ← hj]
    simp [List.getD_eq_getElem?_getD, hjl]
  have hrow : w.ownsRow base 2 1 sv xs.length (xs.map (Value.int .i64)) := hO
  refine wp_append_own _ s x 49 ho base 2 i (.int .i64 0) 1 8 Tryd.underlying49 hi hz0 hz1 hz2 rfl (by decide) sv xs.length (xs.map (Value.int .i64)) hs hrow ⟨b, off, none⟩ ys.length cap (ys.map (Value.int .i64)) hx (by simp) HNW ?_ (by unfold maxLen; omega) (by omega) hbase ?_
  · intro u hu
    obtain ⟨y, _, rfl⟩ := List.mem_map.1 hu
    rfl
  · intro v' w2 hown hgrow _
    refine h v' w2 ?_ (Chg.ofGrown hgrow (fun k hk _ => World.ownsRow.lt hrow k hk))
    unfold OwnI
    rw [List.length_append, List.map_append]
    exact hown

theorem wpList_app_ints {ops : Array Oper} {rest : List Oper} {o : Oper} {a : Act} {w : World} {Q : Exit → Act → World → Prop} (hgd : o.guard = none) (s x : Operand)
    (ho : o.op = .call { callee := .builtin .append, args := #[s, x], argTypes := #[49, 49] })
    (base : Nat) (sv : Value) (xs : List Int) (hs : a.eval s = sv) (hO : OwnI w base 2 sv xs) (hbase : base ≤ w.heap.size) (lo hi : Nat) (xv : Value) (ys : List Int) (hx : a.eval x = xv) (hv : View w lo hi .i64 xv ys) (hy : 0 < ys.length) (hl : xs.length + ys.length ≤ 1048576)
    (h : ∀ v' w', OwnI w' base 2 v' (xs ++ ys) → Chg base w.heap.size w w' → wpList Tryd.prog ops Q rest (a.put o.dst v') w') : wpList Tryd.prog ops Q (o :: rest) a w :=
  wpList_plain hgd fun _ hK => wp_app_ints s x ho base sv xs hs hO hbase lo hi xv ys hx hv hy hl fun v' w' h1 h2 => hK _ _ (h v' w' h1 h2)

theorem OwnI.at {w : World} {base : Nat} {e : TypeId} {v : Value} {xs : List Int} (h : OwnI w base e v xs) (hn : 0 < xs.length) : ∃ g cap, v = .slice (some ⟨g, 0, none⟩) xs.length cap ∧ base ≤ g ∧ g < w.heap.size := by
  have hb := h.lt
  obtain ⟨_, h2⟩ := h
  rcases h2 with ⟨_, h0⟩ | ⟨g, cap, cur, rfl, hg, _⟩
  · omega
  · exact ⟨g, cap, rfl, hg, (hb g rfl).2⟩
theorem OwnI.cell {w : World} {base : Nat} {e : TypeId} {g n cap : Nat} {xs : List Int} (h : OwnI w base e (.slice (some ⟨g, 0, none⟩) n cap) xs) (hn : xs.length = n) (j : Nat) (hj : j < n) : w.cell? ⟨g, j, none⟩ = some (.int .i64 (xs.getD j 0)) := by
  subst hn
  rw [World.ownsRow.cellAt h j (by omega), List.getElem?_map, List.getElem?_eq_getElem hj]
  simp [List.getD_eq_getElem?_getD, List.getElem?_eq_getElem hj]
theorem OwnI.none0 (w : World) : OwnI (w.alloc (.cells #[] 2)) w.heap.size 2 (.slice (some ⟨w.heap.size, 0, none⟩) 0 0) [] := by
  have := World.ownsRow_lit (base := w.heap.size) (e := 2) (size := 1) w #[] 0 (Nat.le_refl _) (by unfold maxLen; omega) rfl
  simpa [OwnI] using this

def goodI (x : Int) : Bool := decide (0 ≤ x) && decide (x < 2048)
theorem goodI_iff {x : Int} : goodI x = true ↔ 0 ≤ x ∧ x < 2048 := by unfold goodI; simp
/-- All its blocks. -/
def allI (i : Ino) : List Int := i.dir ++ [i.ind]
/-- Place k is as it must be. -/
def BodyAt (i : Ino) (k : Nat) : Prop := if i.size ≤ (k : Int) * 64 then (allI i).getD k 0 = 0 else i.kind = 1 ∨ (allI i).getD k 0 ≠ 0
instance (i : Ino) (k : Nat) : Decidable (BodyAt i k) := by unfold BodyAt; infer_instance
def sumTo (xs : List Int) : Nat → Int
  | 0 => 0
  | k + 1 => sumTo xs k + xs.getD k 0
def InoHead (i : Ino) : Prop := i.dir.length = 8 ∧ 0 ≤ i.size ∧ i.size ≤ 2560 ∧ 0 ≤ i.links ∧ i.links ≤ 8
def InoRest (i : Ino) : Prop := (i.kind = 1 ∨ (i.kind = 2 ∧ i.links = 1 ∧ i.size % 16 = 0) ∨ (i.kind = 3 ∧ 1 ≤ i.size ∧ i.size ≤ 240)) ∧ (∀ k, k < 9 → BodyAt i k) ∧ (1 ≤ i.links ∨ i.kind = 1)
def InoP (i : Ino) : Prop := InoHead i ∧ (∀ x ∈ allI i, goodI x = true) ∧ if i.kind = 0 then i.size + i.links + sumTo (allI i) 9 = 0 else InoRest i
instance (i : Ino) : Decidable (InoP i) := by unfold InoP InoHead InoRest; infer_instance
def inoB (i : Ino) : Bool := decide (InoP i)
theorem inoB_false {i : Ino} (h : ¬ InoP i) : inoB i = false := decide_eq_false h
theorem sumTo_bd {xs : List Int} (h : ∀ x ∈ xs, goodI x = true) : ∀ k, k ≤ xs.length → 0 ≤ sumTo xs k ∧ sumTo xs k ≤ 2048 * k := by
  intro k
  induction k with
  | zero => intro _; exact ⟨Int.le_refl _, Int.le_refl _⟩
  | succ k ih =>
    intro hk
    have h1 := ih (by omega)
    have h2 := goodI_iff.1 (h (xs.getD k 0) (by rw [List.getD_eq_getElem?_getD, List.getElem?_eq_getElem (by omega)]; exact List.getElem_mem (by omega)))
    unfold sumTo
    omega

set_option maxRecDepth 20000 in
set_option maxHeartbeats 1000000 in
theorem specIno_head (w : World) (i : Ino) (ao : Option Addr) (cap : Nat) (hl : i.dir.length ≤ 1048576) (hx : ¬ (i.dir.length = 8 ∧ 0 ≤ i.size ∧ i.size ≤ 2560 ∧ 0 ≤ i.links ∧ i.links ≤ 8)) :
    Calls Tryd.prog 44 #[inoV i ao cap] w fun e w' => e = .returned (.bool false) ∧ Chg 0 0 w w' := by
  have HA : Hid (Chg 0 0 w (w.alloc (inoO 51 i ao cap))) := Chg.alloc (Chg.refl 0 0 w) _
  obtain ⟨K, L, Z, ds, I⟩ := i
  simp only at *
  by_cases e1 : ds.length = 8
  · have hb : ((ds.length : Int) != 8) = false := by simp; omega
    have hx' : ¬ (0 ≤ Z ∧ Z ≤ 2560 ∧ 0 ≤ L ∧ L ≤ 8) := fun h => hx ⟨e1, h⟩
    clear hx e1
    by_cases e2 : Z < 0
    · clear hx'
      go_enter Tryd.func44, Tryd.ntmps44
      go_wp2
      go_ret
      exact ⟨rfl, HA.out⟩
    by_cases e3 : 2560 < Z
    · clear hx'
      go_enter Tryd.func44, Tryd.ntmps44
      go_wp2
      go_ret
      exact ⟨rfl, HA.out⟩
    by_cases e4 : L < 0
    · clear hx'
      go_enter Tryd.func44, Tryd.ntmps44
      go_wp2
      go_ret
      exact ⟨rfl, HA.out⟩
    have e5 : 8 < L := by omega
    clear hx'
    go_enter Tryd.func44, Tryd.ntmps44
    go_wp2
    go_ret
    exact ⟨rfl, HA.out⟩
  · have hb : ((ds.length : Int) != 8) = true := by simp; omega
    clear hx e1
    go_enter Tryd.func44, Tryd.ntmps44
    go_wp2
    go_ret
    exact ⟨rfl, HA.out⟩

set_option maxRecDepth 20000 in
set_option maxHeartbeats 4000000 in
theorem specIno_in (w : World) {lo hi : Nat} (i : Ino) (ao : Option Addr) (cap : Nat) (hh : InoHead i) (hV : View w lo hi .i64 (.slice ao i.dir.length cap) i.dir) :
    Calls Tryd.prog 44 #[inoV i ao cap] w fun e w' => e = .returned (.bool (inoB i)) ∧ Chg 0 0 w w' := by
  obtain ⟨d8, z0, z1, l0, l1⟩ := id hh
  have HH : Hid (InoHead i) := hh
  have HLa : Hid ((allI i).length = 9) := by show _ = _; unfold allI; simp [d8]
  have HAll : Hid (allI i = i.dir ++ [i.ind]) := rfl
  have HP : Hid (InoP i ↔ InoHead i ∧ (∀ x ∈ allI i, goodI x = true) ∧ if i.kind = 0 then i.size + i.links + sumTo (allI i) 9 = 0 else InoRest i) := Iff.rfl
  have HRest : Hid (InoRest i ↔ (i.kind = 1 ∨ (i.kind = 2 ∧ i.links = 1 ∧ i.size % 16 = 0) ∨ (i.kind = 3 ∧ 1 ≤ i.size ∧ i.size ≤ 240)) ∧ (∀ k, k < 9 → BodyAt i k) ∧ (1 ≤ i.links ∨ i.kind = 1)) := Iff.rfl
  have HBody : Hid (∀ k, BodyAt i k ↔ if i.size ≤ (k : Int) * 64 then (allI i).getD k 0 = 0 else i.kind = 1 ∨ (allI i).getD k 0 ≠ 0) := fun k => Iff.rfl
  have HB : Hid ((w.alloc (inoO 51 i ao cap)).heap[w.heap.size]? = some (.cells #[.int .i64 i.kind, .int .i64 i.links, .int .i64 i.size, .slice ao i.dir.length cap, .int .i64 i.ind] 51 (0, 0))) := heap_new w _
  have s0 : (w.alloc (inoO 51 i ao cap)).heap.size = w.heap.size + 1 := by simp
  have HC0 : Hid (Chg 0 0 w ((w.alloc (inoO 51 i ao cap)).alloc (.cells #[] 2))) := (Chg.alloc (Chg.refl 0 0 w) _).alloc _
  have HO0 : Hid (OwnI ((w.alloc (inoO 51 i ao cap)).alloc (.cells #[] 2)) (w.heap.size + 1) 2 (.slice (some ⟨w.heap.size + 1, 0, none⟩) 0 0) []) := by
    have := OwnI.none0 (w.alloc (inoO 51 i ao cap))
    rw [s0] at this; exact this
  have HB0 : Hid (((w.alloc (inoO 51 i ao cap)).alloc (.cells #[] 2)).heap[w.heap.size]? = some (.cells #[.int .i64 i.kind, .int .i64 i.links, .int .i64 i.size, .slice ao i.dir.length cap, .int .i64 i.ind] 51 (0, 0))) := ((Chg.alloc (Chg.refl 0 0 (w.alloc (inoO 51 i ao cap))) (.cells #[] 2)).block w.heap.size (by omega) (by omega)).trans HB.out
  have HV0 : Hid (View ((w.alloc (inoO 51 i ao cap)).alloc (.cells #[] 2)) lo hi .i64 (.slice ao i.dir.length cap) i.dir) := hV.chg HC0.out (by omega)
  have s1 : ((w.alloc (inoO 51 i ao cap)).alloc (.cells #[] 2)).heap.size = w.heap.size + 2 := by simp
  have Hd8 : Hid (i.dir.length = 8) := d8
  have hb8 : ((i.dir.length : Int) != 8) = false := by simp; omega
  have e2 : ¬ i.size < 0 := by omega
  have e3 : ¬ 2560 < i.size := by omega
  have e4 : ¬ i.links < 0 := by omega
  have e5 : ¬ 8 < i.links := by omega
  have hdl : i.dir.length ≤ 8 := by omega
  clear hV d8 hh
  go_enter Tryd.func44, Tryd.ntmps44
  go_wp2_with (at_builtin; refine wpList_app_ints rfl (.tmp 33) (.tmp 35) rfl (w.heap.size + 1) _ [] rfl HO0.out (by simp) _ _ _ i.dir rfl HV0.out (by rw [Hd8.out]; omega) (by rw [Hd8.out]; simp) ?_)
  intro v1 w1 o1 c1
  have B1 : w1.heap[w.heap.size]? = some (.cells #[.int .i64 i.kind, .int .i64 i.links, .int .i64 i.size, .slice ao i.dir.length cap, .int .i64 i.ind] 51 (0, 0)) := (c1.block w.heap.size (by simp; omega) (by omega)).trans HB0.out
  have HC1 : Hid (Chg 0 0 w w1) := HC0.out.step c1 (Or.inr (Or.inl (by omega)))
  have z1' := HC1.out.size
  have zz : w.heap.size < w1.heap.size := (Array.getElem?_eq_some_iff.1 B1).1
  obtain ⟨g1, cp1, rfl, hg1, hg1'⟩ := o1.at (by rw [Hd8.out]; omega)
  obtain ⟨⟨x0, x1, x2, x3, x4⟩, _⟩ := ino_all B1
  have HCA : Hid (Chg 0 0 w (w1.alloc (.cells #[.int .i64 i.ind] 2))) := HC1.out.alloc _
  have HOA : Hid (OwnI (w1.alloc (.cells #[.int .i64 i.ind] 2)) (w.heap.size + 1) 2 (.slice (some ⟨g1, 0, none⟩) i.dir.length cp1) i.dir) := o1.chg ((Chg.refl 0 0 w1).alloc _) (by intro g _; omega)
  have HBA : Hid ((w1.alloc (.cells #[.int .i64 i.ind] 2)).heap[w.heap.size]? = some (.cells #[.int .i64 i.kind, .int .i64 i.links, .int .i64 i.size, .slice ao i.dir.length cap, .int .i64 i.ind] 51 (0, 0))) := ((Chg.alloc (Chg.refl 0 0 w1) _).block w.heap.size zz (by omega)).trans B1
  have HVA : Hid (View (w1.alloc (.cells #[.int .i64 i.ind] 2)) 0 (w1.heap.size + 1) .i64 (.slice (some ⟨w1.heap.size, 0, none⟩) 1 1) [i.ind]) := by
    refine ⟨_, 1, rfl, by simp, ⟨by simp, by simp⟩, Or.inr ⟨w1.heap.size, 0, rfl, Nat.zero_le _, by omega, fun j hj => ?_⟩⟩
    obtain rfl : j = 0 := by simpa using hj
    have hh := heap_new w1 (.cells #[.int .i64 i.ind] 2)
    simp only [World.cell?, hh]; rfl
  clear o1 c1 HO0 HB0 HV0 HB
  go_wp2_with (at_builtin; refine wpList_app_ints rfl (.tmp 37) (.tmp 40) rfl (w.heap.size + 1) _ i.dir rfl HOA.out (by simp; omega) _ _ _ [i.ind] rfl HVA.out (by simp) (by rw [Hd8.out]; simp) ?_)
  intro v2 w2 o2 c2
  have B2 : w2.heap[w.heap.size]? = some (.cells #[.int .i64 i.kind, .int .i64 i.links, .int .i64 i.size, .slice ao i.dir.length cap, .int .i64 i.ind] 51 (0, 0)) := (c2.block w.heap.size (by simp; omega) (by omega)).trans HBA.out
  have HC2 : Hid (Chg 0 0 w w2) := HCA.out.step c2 (Or.inr (Or.inl (by omega)))
  rw [← HAll.out] at o2
  obtain ⟨g2, cp2, rfl, hg2, hg2'⟩ := o2.at (by rw [HLa.out]; omega)
  have HCell : Hid (∀ j, j < 9 → w2.cell? ⟨g2, j, none⟩ = some (.int .i64 ((allI i).getD j 0))) := fun j hj => o2.cell rfl j (by rw [HLa.out]; exact hj)
  have HMem : Hid (∀ j, j < 9 → (allI i).getD j 0 ∈ allI i) := fun j hj => by rw [List.getD_eq_getElem?_getD, List.getElem?_eq_getElem (by rw [HLa.out]; exact hj)]; exact List.getElem_mem _
  have HB2 : Hid (w2.heap[w.heap.size]? = some (.cells #[.int .i64 i.kind, .int .i64 i.links, .int .i64 i.size, .slice ao i.dir.length cap, .int .i64 i.ind] 51 (0, 0))) := B2
  clear x0 x1 x2 x3 x4 B1
  obtain ⟨⟨x0, x1, x2, x3, x4⟩, _⟩ := ino_all B2
  rw [HLa.out]
  clear o2 c2 HOA HBA HVA B2
  go_wp2
  go_loopw [4, 5] (fun sm x wr => wr = w2 ∧ ∃ k : Nat, k ≤ 9 ∧ x = .int .i64 k ∧ sm = .int .i64 (i.size + i.links + sumTo (allI i) k) ∧ ∀ j, j < k → goodI ((allI i).getD j 0) = true) (fun _ x _ => 9 - (intOf x).toNat)
  case atStart => exact ⟨rfl, 0, by omega, rfl, by simp [sumTo], by omega⟩
  case round =>
    obtain ⟨rfl, k, hk, rfl, rfl, hR⟩ := hrel
    by_cases hlt : k < 9
    · have c1 := HCell.out k hlt
      have hi : (k : Int) < 9 := by omega
      by_cases hg : goodI ((allI i).getD k 0) = true
      · have HI : Hid (∀ j, j < k + 1 → goodI ((allI i).getD j 0) = true) := by
          intro j hj
          by_cases e : j = k
          · subst e; exact hg
          · exact hR j (by omega)
        have HS : Hid (sumTo (allI i) (k + 1) = sumTo (allI i) k + (allI i).getD k 0) := rfl
        have hN := l3GoodBlock_calls wr ((allI i).getD k 0)
        rw [show (decide (0 ≤ (allI i).getD k 0) && decide ((allI i).getD k 0 < 2048)) = true from hg] at hN
        obtain ⟨g0, g1⟩ := goodI_iff.1 hg
        have hsb : 0 ≤ sumTo (allI i) k ∧ sumTo (allI i) k ≤ 2048 * 9 := by
          have : ∀ m, m ≤ k → 0 ≤ sumTo (allI i) m ∧ sumTo (allI i) m ≤ 2048 * m := by
            intro m
            induction m with
            | zero => intro _; exact ⟨Int.le_refl _, Int.le_refl _⟩
            | succ m ih =>
              intro hm
              have h1 := ih (by omega)
              have h2 := goodI_iff.1 (hR m (by omega))
              unfold sumTo
              omega
          have := this k (Nat.le_refl _)
          omega
        generalize (allI i).getD k 0 = y at *
        generalize sumTo (allI i) k = sm at *
        clear hR hg
        go_wp2_with fail
        refine hN.mono ?_
        rintro e w3 ⟨rfl, rfl⟩
        clear hN
        go_wp2
        go_roundw
        case rel => exact ⟨trivial, k + 1, by omega, by go_num, by rw [HS.out]; congr 1; omega, HI.out⟩
        case measure => simp [intOf]; omega
      · have Hn : Hid (inoB i = false) := inoB_false (fun h => hg (h.2.1 _ (HMem.out k hlt)))
        have hN := l3GoodBlock_calls wr ((allI i).getD k 0)
        rw [show (decide (0 ≤ (allI i).getD k 0) && decide ((allI i).getD k 0 < 2048)) = false from by rw [Bool.not_eq_true] at hg; exact hg] at hN
        generalize (allI i).getD k 0 = y at *
        clear hR hg
        go_wp2_with fail
        refine hN.mono ?_
        rintro e w3 ⟨rfl, rfl⟩
        clear hN
        go_wp2
        go_ret
        exact ⟨by rw [Hn.out]; rfl, HC2.out⟩
    · obtain rfl : k = 9 := by omega
      have hgood : ∀ x ∈ allI i, goodI x = true := by
        intro x hx
        obtain ⟨j, hj, rfl⟩ := List.mem_iff_getElem.1 hx
        have := hR j (by rw [HLa.out] at hj; exact hj)
        rw [List.getD_eq_getElem?_getD, List.getElem?_eq_getElem hj] at this
        exact this
      have HX : Hid (inoB i = true ↔ if i.kind = 0 then i.size + i.links + sumTo (allI i) 9 = 0 else InoRest i) := by
        show _ ↔ _
        unfold inoB
        rw [decide_eq_true_eq, HP.out]
        exact ⟨fun h => h.2.2, fun h => ⟨HH.out, hgood, h⟩⟩
      have hsb := sumTo_bd hgood 9 (by rw [HLa.out]; omega)
      clear hR hgood
      by_cases hk0 : i.kind = 0
      · rw [if_pos hk0] at HX
        have hb0 : (i.kind == 0) = true := by simpa using hk0
        generalize sumTo (allI i) 9 = sm at *
        by_cases hz : i.size + i.links + sm = 0
        · have Hn : Hid (inoB i = true) := HX.out.2 hz
          have hzb : (i.size + i.links + sm == 0) = true := by simpa using hz
          clear hz hk0
          go_wp2
          go_ret
          exact ⟨by rw [Hn.out]; rfl, HC2.out⟩
        · have Hn : Hid (inoB i = false) := by show _ = _; rw [Bool.eq_false_iff]; exact fun h => hz (HX.out.1 h)
          have hzb : (i.size + i.links + sm == 0) = false := by simpa using hz
          clear hz hk0
          go_wp2
          go_ret
          exact ⟨by rw [Hn.out]; rfl, HC2.out⟩
      · rw [if_neg hk0] at HX
        have hb0 : (i.kind == 0) = false := by simpa using hk0
        generalize sumTo (allI i) 9 = sm at *
        clear hk0 hsb
        by_cases hk1 : i.kind = 1
        · have HK : Hid (i.kind = 1) := hk1
          have hb1 : (i.kind == 1) = true := by simpa using hk1
          have hn1 : (i.kind != 1) = false := by simpa using hk1
          have HT : Hid (inoB i = true ↔ (∀ k, k < 9 → BodyAt i k) ∧ (1 ≤ i.links ∨ i.kind = 1)) := by
            show _ ↔ _
            rw [HX.out, HRest.out]
            exact ⟨fun h => h.2, fun h => ⟨Or.inl hk1, h⟩⟩
          clear hk1
          go_wp2
          go_loopw [7] (fun x w3 => w3 = wr ∧ ∃ k : Nat, k ≤ 9 ∧ x = .int .i64 k ∧ ∀ j, j < k → BodyAt i j) (fun x _ => 9 - (intOf x).toNat)
          case atStart => exact ⟨rfl, 0, by omega, rfl, by omega⟩
          case round =>
            obtain ⟨rfl, k, hk, rfl, hR⟩ := hrel
            by_cases hlt : k < 9
            · have c1 := HCell.out k hlt
              have hi : (k : Int) ≤ 8 := by omega
              have HBk := HBody.out k
              have HNx : Hid (BodyAt i k → ∀ j, j < k + 1 → BodyAt i j) := by
                intro h j hj
                by_cases e : j = k
                · subst e; exact h
                · exact hR j (by omega)
              have HNo : Hid (¬ BodyAt i k → inoB i = false) := fun h => by rw [Bool.eq_false_iff]; exact fun h' => h ((HT.out.1 h').1 k hlt)
              generalize (allI i).getD k 0 = y at *
              clear hR
              by_cases hbz : i.size ≤ (k : Int) * 64
              · rw [if_pos hbz] at HBk
                by_cases hy : y = 0
                · have HX2 : Hid (∀ j, j < k + 1 → BodyAt i j) := HNx.out (HBk.2 hy)
                  subst hy
                  clear HBk HNx HNo
                  go_wp2
                  go_roundw
                  case rel => exact ⟨trivial, k + 1, by omega, by go_num, HX2.out⟩
                  case measure => simp [intOf]; omega
                · have Hn : Hid (inoB i = false) := HNo.out (fun h => hy (HBk.1 h))
                  have hyb : (y != 0) = true := by simpa using hy
                  clear HBk HNx HNo hy
                  go_wp2
                  go_ret
                  exact ⟨by rw [Hn.out]; rfl, HC2.out⟩
              · rw [if_neg hbz] at HBk
                have HX2 : Hid (∀ j, j < k + 1 → BodyAt i j) := HNx.out (HBk.2 (Or.inl HK.out))
                clear HBk HNx HNo
                go_wp2
                go_roundw
                case rel => exact ⟨trivial, k + 1, by omega, by go_num, HX2.out⟩
                case measure => simp [intOf]; omega
            · obtain rfl : k = 9 := by omega
              have HF : Hid (inoB i = true ↔ (1 ≤ i.links ∨ i.kind = 1)) := ⟨fun h => (HT.out.1 h).2, fun h => HT.out.2 ⟨fun j hj => hR j hj, h⟩⟩
              clear hR
              have Hn : Hid (inoB i = true) := HF.out.2 (Or.inr HK.out)
              by_cases hL : 1 ≤ i.links
              · go_wp2
                go_ret
                exact ⟨by rw [Hn.out]; rfl, HC2.out⟩
              · go_wp2
                go_ret
                exact ⟨by rw [Hn.out]; rfl, HC2.out⟩
        · have HK : Hid (¬ i.kind = 1) := hk1
          have hb1 : (i.kind == 1) = false := by simpa using hk1
          have hn1 : (i.kind != 1) = true := by simpa using hk1
          by_cases hk2 : i.kind = 2
          · have hb2 : (i.kind == 2) = true := by simpa using hk2
            by_cases hL1 : i.links = 1
            · have hlb : (i.links != 1) = false := by simpa using hL1
              by_cases hm : i.size % 16 = 0
              · have hmb : (i.size % 16 != 0) = false := by simpa using hm
                have HT : Hid (inoB i = true ↔ (∀ k, k < 9 → BodyAt i k) ∧ (1 ≤ i.links ∨ i.kind = 1)) := by
                  show _ ↔ _
                  rw [HX.out, HRest.out]
                  exact ⟨fun h => h.2, fun h => ⟨Or.inr (Or.inl ⟨hk2, hL1, hm⟩), h⟩⟩
                clear hk1 hk2 hL1 hm
                go_wp2
                go_loopw [7] (fun x w3 => w3 = wr ∧ ∃ k : Nat, k ≤ 9 ∧ x = .int .i64 k ∧ ∀ j, j < k → BodyAt i j) (fun x _ => 9 - (intOf x).toNat)
                case atStart => exact ⟨rfl, 0, by omega, rfl, by omega⟩
                case round =>
                  obtain ⟨rfl, k, hk, rfl, hR⟩ := hrel
                  by_cases hlt : k < 9
                  · have c1 := HCell.out k hlt
                    have hi : (k : Int) ≤ 8 := by omega
                    have HBk := HBody.out k
                    have HNx : Hid (BodyAt i k → ∀ j, j < k + 1 → BodyAt i j) := by
                      intro h j hj
                      by_cases e : j = k
                      · subst e; exact h
                      · exact hR j (by omega)
                    have HNo : Hid (¬ BodyAt i k → inoB i = false) := fun h => by rw [Bool.eq_false_iff]; exact fun h' => h ((HT.out.1 h').1 k hlt)
                    generalize (allI i).getD k 0 = y at *
                    clear hR
                    by_cases hbz : i.size ≤ (k : Int) * 64
                    · rw [if_pos hbz] at HBk
                      by_cases hy : y = 0
                      · have HX2 : Hid (∀ j, j < k + 1 → BodyAt i j) := HNx.out (HBk.2 hy)
                        subst hy
                        clear HBk HNx HNo
                        go_wp2
                        go_roundw
                        case rel => exact ⟨trivial, k + 1, by omega, by go_num, HX2.out⟩
                        case measure => simp [intOf]; omega
                      · have Hn : Hid (inoB i = false) := HNo.out (fun h => hy (HBk.1 h))
                        have hyb : (y != 0) = true := by simpa using hy
                        clear HBk HNx HNo hy
                        go_wp2
                        go_ret
                        exact ⟨by rw [Hn.out]; rfl, HC2.out⟩
                    · rw [if_neg hbz] at HBk
                      by_cases hy : y = 0
                      · have Hn : Hid (inoB i = false) := HNo.out (fun h => (HBk.1 h).elim (fun h => HK.out h) (fun h => h hy))
                        subst hy
                        clear HBk HNx HNo
                        go_wp2
                        go_ret
                        exact ⟨by rw [Hn.out]; rfl, HC2.out⟩
                      · have HX2 : Hid (∀ j, j < k + 1 → BodyAt i j) := HNx.out (HBk.2 (Or.inr hy))
                        have hyb : (y == 0) = false := by simpa using hy
                        clear HBk HNx HNo hy
                        go_wp2
                        go_roundw
                        case rel => exact ⟨trivial, k + 1, by omega, by go_num, HX2.out⟩
                        case measure => simp [intOf]; omega
                  · obtain rfl : k = 9 := by omega
                    have HF : Hid (inoB i = true ↔ (1 ≤ i.links ∨ i.kind = 1)) := ⟨fun h => (HT.out.1 h).2, fun h => HT.out.2 ⟨fun j hj => hR j hj, h⟩⟩
                    clear hR
                    by_cases hL : 1 ≤ i.links
                    · have Hn : Hid (inoB i = true) := HF.out.2 (Or.inl hL)
                      go_wp2
                      go_ret
                      exact ⟨by rw [Hn.out]; rfl, HC2.out⟩
                    · have Hn : Hid (inoB i = false) := by show _ = _; rw [Bool.eq_false_iff]; exact fun h => (HF.out.1 h).elim hL HK.out
                      go_wp2
                      go_ret
                      exact ⟨by rw [Hn.out]; rfl, HC2.out⟩
              · have Hn : Hid (inoB i = false) := by
                  show _ = _; rw [Bool.eq_false_iff]
                  intro h
                  rcases (HRest.out.1 (HX.out.1 h)).1 with h | ⟨_, _, h⟩ | ⟨h, _⟩
                  · exact hk1 h
                  · exact hm h
                  · omega
                have hmb : (i.size % 16 != 0) = true := by simpa using hm
                clear hk1 hk2 hL1 hm
                go_wp2
                go_ret
                exact ⟨by rw [Hn.out]; rfl, HC2.out⟩
            · have Hn : Hid (inoB i = false) := by
                show _ = _; rw [Bool.eq_false_iff]
                intro h
                rcases (HRest.out.1 (HX.out.1 h)).1 with h | ⟨_, h, _⟩ | ⟨h, _⟩
                · exact hk1 h
                · exact hL1 h
                · omega
              have hlb : (i.links != 1) = true := by simpa using hL1
              clear hk1 hk2 hL1
              go_wp2
              go_ret
              exact ⟨by rw [Hn.out]; rfl, HC2.out⟩
          · have hb2 : (i.kind == 2) = false := by simpa using hk2
            by_cases hk3 : i.kind = 3
            · have hb3 : (i.kind == 3) = true := by simpa using hk3
              by_cases hs1 : i.size < 1
              · have Hn : Hid (inoB i = false) := by
                  show _ = _; rw [Bool.eq_false_iff]
                  intro h
                  rcases (HRest.out.1 (HX.out.1 h)).1 with h | ⟨h, _⟩ | ⟨_, h, _⟩
                  · exact hk1 h
                  · exact hk2 h
                  · omega
                clear hk1 hk2 hk3
                go_wp2
                go_ret
                exact ⟨by rw [Hn.out]; rfl, HC2.out⟩
              by_cases hs2 : 240 < i.size
              · have Hn : Hid (inoB i = false) := by
                  show _ = _; rw [Bool.eq_false_iff]
                  intro h
                  rcases (HRest.out.1 (HX.out.1 h)).1 with h | ⟨h, _⟩ | ⟨_, _, h⟩
                  · exact hk1 h
                  · exact hk2 h
                  · omega
                clear hk1 hk2 hk3
                go_wp2
                go_ret
                exact ⟨by rw [Hn.out]; rfl, HC2.out⟩
              have HT : Hid (inoB i = true ↔ (∀ k, k < 9 → BodyAt i k) ∧ (1 ≤ i.links ∨ i.kind = 1)) := by
                show _ ↔ _
                rw [HX.out, HRest.out]
                exact ⟨fun h => h.2, fun h => ⟨Or.inr (Or.inr ⟨hk3, by omega, by omega⟩), h⟩⟩
              clear hk1 hk2 hk3
              go_wp2
              go_loopw [7] (fun x w3 => w3 = wr ∧ ∃ k : Nat, k ≤ 9 ∧ x = .int .i64 k ∧ ∀ j, j < k → BodyAt i j) (fun x _ => 9 - (intOf x).toNat)
              case atStart => exact ⟨rfl, 0, by omega, rfl, by omega⟩
              case round =>
                obtain ⟨rfl, k, hk, rfl, hR⟩ := hrel
                by_cases hlt : k < 9
                · have c1 := HCell.out k hlt
                  have hi : (k : Int) ≤ 8 := by omega
                  have HBk := HBody.out k
                  have HNx : Hid (BodyAt i k → ∀ j, j < k + 1 → BodyAt i j) := by
                    intro h j hj
                    by_cases e : j = k
                    · subst e; exact h
                    · exact hR j (by omega)
                  have HNo : Hid (¬ BodyAt i k → inoB i = false) := fun h => by rw [Bool.eq_false_iff]; exact fun h' => h ((HT.out.1 h').1 k hlt)
                  generalize (allI i).getD k 0 = y at *
                  clear hR
                  by_cases hbz : i.size ≤ (k : Int) * 64
                  · rw [if_pos hbz] at HBk
                    by_cases hy : y = 0
                    · have HX2 : Hid (∀ j, j < k + 1 → BodyAt i j) := HNx.out (HBk.2 hy)
                      subst hy
                      clear HBk HNx HNo
                      go_wp2
                      go_roundw
                      case rel => exact ⟨trivial, k + 1, by omega, by go_num, HX2.out⟩
                      case measure => simp [intOf]; omega
                    · have Hn : Hid (inoB i = false) := HNo.out (fun h => hy (HBk.1 h))
                      have hyb : (y != 0) = true := by simpa using hy
                      clear HBk HNx HNo hy
                      go_wp2
                      go_ret
                      exact ⟨by rw [Hn.out]; rfl, HC2.out⟩
                  · rw [if_neg hbz] at HBk
                    by_cases hy : y = 0
                    · have Hn : Hid (inoB i = false) := HNo.out (fun h => (HBk.1 h).elim (fun h => HK.out h) (fun h => h hy))
                      subst hy
                      clear HBk HNx HNo
                      go_wp2
                      go_ret
                      exact ⟨by rw [Hn.out]; rfl, HC2.out⟩
                    · have HX2 : Hid (∀ j, j < k + 1 → BodyAt i j) := HNx.out (HBk.2 (Or.inr hy))
                      have hyb : (y == 0) = false := by simpa using hy
                      clear HBk HNx HNo hy
                      go_wp2
                      go_roundw
                      case rel => exact ⟨trivial, k + 1, by omega, by go_num, HX2.out⟩
                      case measure => simp [intOf]; omega
                · obtain rfl : k = 9 := by omega
                  have HF : Hid (inoB i = true ↔ (1 ≤ i.links ∨ i.kind = 1)) := ⟨fun h => (HT.out.1 h).2, fun h => HT.out.2 ⟨fun j hj => hR j hj, h⟩⟩
                  clear hR
                  by_cases hL : 1 ≤ i.links
                  · have Hn : Hid (inoB i = true) := HF.out.2 (Or.inl hL)
                    go_wp2
                    go_ret
                    exact ⟨by rw [Hn.out]; rfl, HC2.out⟩
                  · have Hn : Hid (inoB i = false) := by show _ = _; rw [Bool.eq_false_iff]; exact fun h => (HF.out.1 h).elim hL HK.out
                    go_wp2
                    go_ret
                    exact ⟨by rw [Hn.out]; rfl, HC2.out⟩
            · have Hn : Hid (inoB i = false) := by
                show _ = _; rw [Bool.eq_false_iff]
                intro h
                rcases (HRest.out.1 (HX.out.1 h)).1 with h | ⟨h, _⟩ | ⟨h, _⟩
                · exact hk1 h
                · exact hk2 h
                · exact hk3 h
              have hb3 : (i.kind == 3) = false := by simpa using hk3
              clear hk1 hk2 hk3
              go_wp2
              go_ret
              exact ⟨by rw [Hn.out]; rfl, HC2.out⟩

theorem specValidInode_calls (w : World) {lo hi : Nat} (i : Ino) (ao : Option Addr) (cap : Nat) (hl : i.dir.length ≤ 1048576) (hV : View w lo hi .i64 (.slice ao i.dir.length cap) i.dir) :
    Calls Tryd.prog 44 #[inoV i ao cap] w fun e w' => e = .returned (.bool (inoB i)) ∧ Chg 0 0 w w' := by
  by_cases h : InoHead i
  · exact specIno_in w i ao cap h hV
  · rw [inoB_false (fun h' => h h'.1)]
    exact specIno_head w i ao cap hl h

end Go.Proofs.YtaciallijnhieaaDoor

namespace Go.Proofs.YtaciallijnhieaaDoor
open Go.RowKit

/-- The bytes of some numbers, two each. -/
def putAll (xs : List Int) : List Int := (xs.map fun x => putN x 2).flatten
/-- The record of an inode. -/
def inoL (i : Ino) : List Int := [i.kind, i.links] ++ putN i.size 2 ++ putAll i.dir ++ putN i.ind 2 ++ List.replicate 10 0
def encIno (i : Ino) : List Int := if inoB i = true then inoL i else []

theorem putAll_take (xs : List Int) (k : Nat) (h : k < xs.length) : putAll (xs.take (k + 1)) = putAll (xs.take k) ++ putN (xs.getD k 0) 2 := by
  unfold putAll
  rw [List.take_succ_eq_append_getElem h, List.map_append, List.flatten_append]
  simp [List.getD_eq_getElem?_getD, h]

theorem putAll_len {xs : List Int} (h : ∀ x ∈ xs, goodI x = true) : (putAll xs).length = 2 * xs.length := by
  unfold putAll
  induction xs with
  | nil => rfl
  | cons x r ih =>
    have h0 := goodI_iff.1 (h x (List.mem_cons_self ..))
    rw [List.map_cons, List.flatten_cons, List.length_append, ih (fun y hy => h y (List.mem_cons_of_mem _ hy)), pn2 h0.1 (by omega), List.length_cons]
    omega

/-- What a valid inode has. -/
theorem ino_good {i : Ino} (h : inoB i = true) : (0 ≤ i.kind ∧ i.kind ≤ 3) ∧ (0 ≤ i.links ∧ i.links ≤ 8) ∧ (0 ≤ i.size ∧ i.size ≤ 2560) ∧ i.dir.length = 8 ∧ (∀ x ∈ i.dir, goodI x = true) ∧ (0 ≤ i.ind ∧ i.ind < 2048) := by
  obtain ⟨⟨h1, h2, h3, h4, h5⟩, h6, h7⟩ := of_decide_eq_true h
  refine ⟨?_, ⟨h4, h5⟩, ⟨h2, h3⟩, h1, fun x hx => h6 x (List.mem_append_left _ hx), goodI_iff.1 (h6 i.ind (List.mem_append_right _ (List.mem_singleton.2 rfl)))⟩
  by_cases hk : i.kind = 0
  · omega
  · rw [if_neg hk] at h7
    rcases h7.1 with h | h | h <;> omega

theorem inoL_len {i : Ino} (h : inoB i = true) : (inoL i).length = 32 := by
  obtain ⟨h1, h2, h3, h4, h5, h6⟩ := ino_good h
  unfold inoL
  simp [pn2 (v := i.size) (by omega) (by omega), pn2 (v := i.ind) (by omega) (by omega), putAll_len h5, h4]

theorem encIno_len (i : Ino) : (encIno i).length ≤ 32 := by
  unfold encIno
  split
  · rename_i h; rw [inoL_len h]; exact Nat.le_refl _
  · simp

theorem wrap_u8 {x : Int} (h0 : 0 ≤ x) (h1 : x < 256) : IntKind.u8.wrap x = x := by
  unfold IntKind.wrap
  simp [IntKind.bits, IntKind.signed]
  omega

theorem two_own (W : World) (base : Nat) (a b : Int) (hb : base ≤ W.heap.size) : OwnB (W.alloc (.cells #[.int .u8 a, .int .u8 b] 5)) base 5 (.slice (some ⟨W.heap.size, 0, none⟩) 2 2) [a, b] := by
  have := World.ownsRow_lit (base := base) (e := 5) (size := 1) W #[.int .u8 a, .int .u8 b] 2 hb (by unfold maxLen; omega) rfl
  unfold OwnB
  simpa using this

theorem View.wide {w : World} {lo hi hi' : Nat} {k : IntKind} {v : Value} {xs : List Int} (h : View w lo hi k v xs) (hh : hi ≤ hi') : View w lo hi' k v xs := by
  obtain ⟨ao, cap, e, h1, h2, h3⟩ := h
  refine ⟨ao, cap, e, h1, h2, ?_⟩
  rcases h3 with h3 | ⟨b, off, h4, h5, h6, h7⟩
  · exact Or.inl h3
  · exact Or.inr ⟨b, off, h4, h5, Nat.lt_of_lt_of_le h6 hh, h7⟩

theorem fill_two (A : Array Value) (hr : A.size = 2) (a b : Int) (k : IntKind) : Instr.fill (fun i => some (i * 1, 1)) A [(0, .int k a), (1, .int k b)] = some #[.int k a, .int k b] := by
  obtain ⟨l⟩ := A
  match l, hr with
  | [x, y], _ => simp [Instr.fill, Value.cells]

set_option maxRecDepth 20000 in
set_option maxHeartbeats 4000000 in
theorem specEncInode_calls (w : World) {lo hi : Nat} (i : Ino) (ao : Option Addr) (cap : Nat) (hl : i.dir.length ≤ 1048576) (hV : View w lo hi .i64 (.slice ao i.dir.length cap) i.dir) :
    Calls Tryd.prog 20 #[inoV i ao cap] w fun e w' => ∃ v, e = .returned v ∧ OwnB w' w.heap.size 5 v (encIno i) ∧ Chg 0 0 w w' := by
  have HV : Hid (View w lo hi .i64 (.slice ao i.dir.length cap) i.dir) := hV
  have C0 : Chg 0 0 w (w.alloc (.cells #[.int .i64 i.kind, .int .i64 i.links, .int .i64 i.size, .slice ao i.dir.length cap, .int .i64 i.ind] 51)) := Chg.alloc (Chg.refl 0 0 w) _
  have B0 := heap_new w (.cells #[.int .i64 i.kind, .int .i64 i.links, .int .i64 i.size, .slice ao i.dir.length cap, .int .i64 i.ind] 51)
  have s0 : (w.alloc (.cells #[.int .i64 i.kind, .int .i64 i.links, .int .i64 i.size, .slice ao i.dir.length cap, .int .i64 i.ind] 51)).heap.size = w.heap.size + 1 := by simp
  have HB : Hid ((w.alloc (.cells #[.int .i64 i.kind, .int .i64 i.links, .int .i64 i.size, .slice ao i.dir.length cap, .int .i64 i.ind] 51)).heap[w.heap.size]? = some (.cells #[.int .i64 i.kind, .int .i64 i.links, .int .i64 i.size, .slice ao i.dir.length cap, .int .i64 i.ind] 51 (0, 0))) := B0
  have HC : Hid (Chg 0 0 w (w.alloc (.cells #[.int .i64 i.kind, .int .i64 i.links, .int .i64 i.size, .slice ao i.dir.length cap, .int .i64 i.ind] 51))) := C0
  have hN := specValidInode_calls (w.alloc (.cells #[.int .i64 i.kind, .int .i64 i.links, .int .i64 i.size, .slice ao i.dir.length cap, .int .i64 i.ind] 51)) i ao cap hl (hV.chg C0 (by omega))
  clear C0 B0 hV
  go_enter Tryd.func20, Tryd.ntmps20
  go_wp2_with fail
  generalize w.alloc (.cells #[.int .i64 i.kind, .int .i64 i.links, .int .i64 i.size, .slice ao i.dir.length cap, .int .i64 i.ind] 51) = w0 at *
  refine hN.mono ?_
  rintro e w1 ⟨rfl, h1⟩
  have HC1 : Hid (Chg 0 0 w w1) := HC.out.trans h1
  have HB1 : Hid (w1.heap[w.heap.size]? = some (.cells #[.int .i64 i.kind, .int .i64 i.links, .int .i64 i.size, .slice ao i.dir.length cap, .int .i64 i.ind] 51 (0, 0))) := (h1.block _ (by omega) (by omega)).trans HB.out
  have s1 := h1.size
  clear h1 hN HB HC
  by_cases hv : inoB i = true
  case neg =>
    have HE : Hid (encIno i = []) := by show _ = _; unfold encIno; rw [if_neg hv]
    have HO : Hid (OwnB (w1.alloc (.cells #[] 5)) w.heap.size 5 (.slice (some ⟨w1.heap.size, 0, none⟩) 0 0) []) := OwnB.bnil w1 _ (by omega)
    have HCe : Hid (Chg 0 0 w (w1.alloc (.cells #[] 5))) := HC1.out.alloc _
    rw [Bool.not_eq_true] at hv
    rw [hv]
    clear hv
    go_wp2
    go_ret
    exact ⟨_, rfl, by rw [HE.out]; exact HO.out, HCe.out⟩
  have HE : Hid (encIno i = inoL i) := by show _ = _; unfold encIno; rw [if_pos hv]
  obtain ⟨⟨a1, a2⟩, ⟨a3, a4⟩, ⟨a5, a6⟩, a7, a8, a9, a10⟩ := ino_good hv
  have Hs2 : Hid ((putN i.size 2).length = 2) := pn2 (by omega) (by omega)
  have Hi2 : Hid ((putN i.ind 2).length = 2) := pn2 (by omega) (by omega)
  have HD8 : Hid (i.dir.length = 8) := a7
  have HDg : Hid (∀ x ∈ i.dir, goodI x = true) := a8
  have HL : Hid (inoL i = [i.kind, i.links] ++ putN i.size 2 ++ putAll i.dir ++ putN i.ind 2 ++ List.replicate 10 0) := rfl
  have hbw : w.heap.size < w1.heap.size := by omega
  rw [hv]
  have hk : IntKind.u8.wrap i.kind = i.kind := wrap_u8 a1 (by omega)
  have hk2 : IntKind.u8.wrap i.links = i.links := wrap_u8 a3 (by omega)
  clear hv a7 a8
  go_upto_region 3 with fail
  go_cut [3] (fun s3 wx => ∃ g c, s3 = .slice (some ⟨g, 0, none⟩) 4 c ∧ OwnB wx w.heap.size 5 (.slice (some ⟨g, 0, none⟩) 4 c) ([i.kind, i.links] ++ putN i.size 2) ∧ Chg 0 0 w wx ∧ w.heap.size < wx.heap.size ∧ wx.heap[w.heap.size]? = some (.cells #[.int .i64 i.kind, .int .i64 i.links, .int .i64 i.size, .slice ao i.dir.length cap, .int .i64 i.ind] 51 (0, 0)))
  case first =>
    have HS0 : Hid ((fun w' : World => w'.heap[w.heap.size]? = some (.cells #[.int .i64 i.kind, .int .i64 i.links, .int .i64 i.size, .slice ao i.dir.length cap, .int .i64 i.ind] 51 (0, 0))) w1.drew) := HB1.out
    have HC0 : Hid (Chg 0 0 w w1.drew) := HC1.out.trans (Chg.drew (Chg.refl 0 0 w1))
    have hbd : w.heap.size < w1.drew.heap.size := hbw
    clear HB1 HC1
    refine held_region (fun w' : World => w'.heap[w.heap.size]? = some (.cells #[.int .i64 i.kind, .int .i64 i.links, .int .i64 i.size, .slice ao i.dir.length cap, .int .i64 i.ind] 51 (0, 0))) (by kernel_rfl) ?_
    generalize w1.drew = wd at *
    refine held_take 0 (.pointer (some ⟨w.heap.size, 0, none⟩)) rfl (by kernel_rfl) (by kernel_rfl) (by kernel_rfl) (fun _ _ _ h => h) (.inl ⟨by kernel_rfl, fun w' hw' => by go_simp⟩) HS0.out ?_
    go_simp
    refine held_take 1 (.int .i64 i.kind) rfl (by kernel_rfl) (by kernel_rfl) (by kernel_rfl) (fun _ _ _ h => h) (.inl ⟨by kernel_rfl, fun w' hw' => by obtain ⟨⟨h4, h5, h6, h7, h8⟩, _⟩ := ino_all hw'; go_simp⟩) HS0.out ?_
    go_simp
    refine held_take 2 (.int .u8 i.kind) rfl (by kernel_rfl) (by kernel_rfl) (by kernel_rfl) (fun _ _ _ h => h) (.inl ⟨by kernel_rfl, fun w' hw' => by go_simp⟩) HS0.out ?_
    go_simp
    refine held_take 3 (.pointer (some ⟨w.heap.size, 1, none⟩)) rfl (by kernel_rfl) (by kernel_rfl) (by kernel_rfl) (fun _ _ _ h => h) (.inl ⟨by kernel_rfl, fun w' hw' => by go_simp⟩) HS0.out ?_
    go_simp
    refine held_take 4 (.int .i64 i.links) rfl (by kernel_rfl) (by kernel_rfl) (by kernel_rfl) (fun _ _ _ h => h) (.inl ⟨by kernel_rfl, fun w' hw' => by obtain ⟨⟨h4, h5, h6, h7, h8⟩, _⟩ := ino_all hw'; go_simp⟩) HS0.out ?_
    go_simp
    refine held_take 5 (.int .u8 i.links) rfl (by kernel_rfl) (by kernel_rfl) (by kernel_rfl) (fun _ _ _ h => h) (.inl ⟨by kernel_rfl, fun w' hw' => by go_simp⟩) HS0.out ?_
    go_simp
    refine held_take 7 (.pointer (some ⟨w.heap.size, 2, none⟩)) rfl (by kernel_rfl) (by kernel_rfl) (by kernel_rfl) (fun _ _ _ h => h) (.inl ⟨by kernel_rfl, fun w' hw' => by go_simp⟩) HS0.out ?_
    go_simp
    refine held_take 8 (.int .i64 i.size) rfl (by kernel_rfl) (by kernel_rfl) (by kernel_rfl) (fun _ _ _ h => h) (.inl ⟨by kernel_rfl, fun w' hw' => by obtain ⟨⟨h4, h5, h6, h7, h8⟩, _⟩ := ino_all hw'; go_simp⟩) HS0.out ?_
    go_simp
    refine held_two 6 9 rfl rfl rfl rfl (by kernel_rfl) ?_ ?_
    · have Xwa := two_own wd w.heap.size i.kind i.links (by omega)
      have Cwa : Chg 0 0 wd (wd.alloc (.cells #[.int .u8 i.kind, .int .u8 i.links] 5)) := Chg.alloc (Chg.refl 0 0 wd) _
      have swa : (wd.alloc (.cells #[.int .u8 i.kind, .int .u8 i.links] 5)).heap.size = wd.heap.size + 1 := by simp
      obtain ⟨ic, hic, hcz0, hcz1, hcz2⟩ := info_parts Tryd.infoU1
      refine wp_buildSlice 24 5 2 #[(0, .tmp 11), (1, .tmp 14)] rfl #[.int .u8 i.kind, .int .u8 i.links] ic _ Tryd.underlying24 hic hcz0 (by rw [hcz1]; decide) (by rw [hcz1]; decide) (by rw [hcz1, Array.toList_map]; refine fill_two _ ?_ _ _ _; simp) ?_
      generalize wd.alloc (.cells #[.int .u8 i.kind, .int .u8 i.links] 5) = wa at *
      have HSwa : Hid ((fun w' : World => w'.heap[w.heap.size]? = some (.cells #[.int .i64 i.kind, .int .i64 i.links, .int .i64 i.size, .slice ao i.dir.length cap, .int .i64 i.ind] 51 (0, 0))) wa) := (Cwa.block _ (by omega) (by omega)).trans HS0.out
      refine ⟨HSwa.out, ?_⟩
      go_simp
      refine held_one 9 rfl rfl (by kernel_rfl) ?_
      refine wp_enter 38 #[.int .i64 i.size, .int .i64 2] (by first | kernel_rfl | go_simp) (specPut_calls wa i.size 2 (by omega)) ?_
      rintro e wb ⟨v5, rfl, o5, h5⟩
      have swb := h5.size
      obtain ⟨g5, c5, rfl⟩ := o5.some_of (by rw [Hs2.out]; omega)
      rw [Hs2.out] at o5
      rw [Hs2.out]
      have HSwb : Hid ((fun w' : World => w'.heap[w.heap.size]? = some (.cells #[.int .i64 i.kind, .int .i64 i.links, .int .i64 i.size, .slice ao i.dir.length cap, .int .i64 i.ind] 51 (0, 0))) wb) := (h5.block _ (by omega) (by omega)).trans HSwa.out
      refine ⟨_, rfl, HSwb.out, ?_⟩
      go_simp
      have hJ := l2Join_any (xs := [i.kind, i.links]) (ys := putN i.size 2) wb (by simp) (by rw [Hs2.out]; omega) ((Xwa.seen (by simp)).chg h5 (by omega)) (o5.seen (by rw [Hs2.out]; omega))
      have HCt : Hid (Chg 0 0 w wb) := (HC0.out.trans Cwa).trans h5
      refine held_one 10 rfl rfl (by kernel_rfl) ?_
      refine wp_enter 19 #[.slice (some ⟨wd.heap.size, 0, none⟩) 2 2, .slice (some ⟨g5, 0, none⟩) 2 c5] (by first | kernel_rfl | go_simp) hJ ?_
      rintro e w9 ⟨v9, rfl, o9, h9⟩
      have H4 : Hid (([i.kind, i.links] ++ putN i.size 2).length = 4) := by show _ = _; rw [List.length_append, Hs2.out]; rfl
      obtain ⟨g9, c9, rfl⟩ := o9.some_of (by rw [H4.out]; omega)
      rw [H4.out] at o9
      rw [H4.out]
      have s9 := h9.size
      have HS9 : Hid ((fun w' : World => w'.heap[w.heap.size]? = some (.cells #[.int .i64 i.kind, .int .i64 i.links, .int .i64 i.size, .slice ao i.dir.length cap, .int .i64 i.ind] 51 (0, 0))) w9) := (h9.block _ (by omega) (by omega)).trans HSwb.out
      have HR : Hid (OwnB w9 w.heap.size 5 (.slice (some ⟨g9, 0, none⟩) 4 c9) ([i.kind, i.links] ++ putN i.size 2) ∧ Chg 0 0 w w9 ∧ w.heap.size < w9.heap.size ∧ w9.heap[w.heap.size]? = some (.cells #[.int .i64 i.kind, .int .i64 i.links, .int .i64 i.size, .slice ao i.dir.length cap, .int .i64 i.ind] 51 (0, 0))) := ⟨o9.base (fun g hg => by have := (o9.lt g hg).1; omega), HCt.out.trans h9, by omega, HS9.out⟩
      clear o9 h9 hJ
      refine ⟨_, rfl, HS9.out, ?_⟩
      go_simp
      refine held_one 11 rfl rfl (by kernel_rfl) ?_
      go_simp
      refine ⟨HS9.out, ?_⟩
      refine held_done (by kernel_rfl) (NoPanic.normal ?_)
      go_wp2
      go_meet
      exact ⟨g9, c9, rfl, HR.out⟩
    · refine wp_enter 38 #[.int .i64 i.size, .int .i64 2] (by first | kernel_rfl | go_simp) (specPut_calls wd i.size 2 (by omega)) ?_
      rintro e wa ⟨v5, rfl, o5, h5⟩
      have swa := h5.size
      obtain ⟨g5, c5, rfl⟩ := o5.some_of (by rw [Hs2.out]; omega)
      rw [Hs2.out] at o5
      rw [Hs2.out]
      have HSwa : Hid ((fun w' : World => w'.heap[w.heap.size]? = some (.cells #[.int .i64 i.kind, .int .i64 i.links, .int .i64 i.size, .slice ao i.dir.length cap, .int .i64 i.ind] 51 (0, 0))) wa) := (h5.block _ (by omega) (by omega)).trans HS0.out
      refine ⟨_, rfl, HSwa.out, ?_⟩
      go_simp
      refine held_one 6 rfl rfl (by kernel_rfl) ?_
      have Xwb := two_own wa w.heap.size i.kind i.links (by omega)
      have Cwb : Chg 0 0 wa (wa.alloc (.cells #[.int .u8 i.kind, .int .u8 i.links] 5)) := Chg.alloc (Chg.refl 0 0 wa) _
      have swb : (wa.alloc (.cells #[.int .u8 i.kind, .int .u8 i.links] 5)).heap.size = wa.heap.size + 1 := by simp
      obtain ⟨ic, hic, hcz0, hcz1, hcz2⟩ := info_parts Tryd.infoU1
      refine wp_buildSlice 24 5 2 #[(0, .tmp 11), (1, .tmp 14)] rfl #[.int .u8 i.kind, .int .u8 i.links] ic _ Tryd.underlying24 hic hcz0 (by rw [hcz1]; decide) (by rw [hcz1]; decide) (by rw [hcz1, Array.toList_map]; refine fill_two _ ?_ _ _ _; simp) ?_
      generalize wa.alloc (.cells #[.int .u8 i.kind, .int .u8 i.links] 5) = wb at *
      have HSwb : Hid ((fun w' : World => w'.heap[w.heap.size]? = some (.cells #[.int .i64 i.kind, .int .i64 i.links, .int .i64 i.size, .slice ao i.dir.length cap, .int .i64 i.ind] 51 (0, 0))) wb) := (Cwb.block _ (by omega) (by omega)).trans HSwa.out
      refine ⟨HSwb.out, ?_⟩
      go_simp
      have hJ := l2Join_any (xs := [i.kind, i.links]) (ys := putN i.size 2) wb (by simp) (by rw [Hs2.out]; omega) (Xwb.seen (by simp)) (((o5.seen (by rw [Hs2.out]; omega)).chg Cwb (by omega)).wide (by omega))
      have HCt : Hid (Chg 0 0 w wb) := (HC0.out.trans h5).trans Cwb
      refine held_one 10 rfl rfl (by kernel_rfl) ?_
      refine wp_enter 19 #[.slice (some ⟨wa.heap.size, 0, none⟩) 2 2, .slice (some ⟨g5, 0, none⟩) 2 c5] (by first | kernel_rfl | go_simp) hJ ?_
      rintro e w9 ⟨v9, rfl, o9, h9⟩
      have H4 : Hid (([i.kind, i.links] ++ putN i.size 2).length = 4) := by show _ = _; rw [List.length_append, Hs2.out]; rfl
      obtain ⟨g9, c9, rfl⟩ := o9.some_of (by rw [H4.out]; omega)
      rw [H4.out] at o9
      rw [H4.out]
      have s9 := h9.size
      have HS9 : Hid ((fun w' : World => w'.heap[w.heap.size]? = some (.cells #[.int .i64 i.kind, .int .i64 i.links, .int .i64 i.size, .slice ao i.dir.length cap, .int .i64 i.ind] 51 (0, 0))) w9) := (h9.block _ (by omega) (by omega)).trans HSwb.out
      have HR : Hid (OwnB w9 w.heap.size 5 (.slice (some ⟨g9, 0, none⟩) 4 c9) ([i.kind, i.links] ++ putN i.size 2) ∧ Chg 0 0 w w9 ∧ w.heap.size < w9.heap.size ∧ w9.heap[w.heap.size]? = some (.cells #[.int .i64 i.kind, .int .i64 i.links, .int .i64 i.size, .slice ao i.dir.length cap, .int .i64 i.ind] 51 (0, 0))) := ⟨o9.base (fun g hg => by have := (o9.lt g hg).1; omega), HCt.out.trans h9, by omega, HS9.out⟩
      clear o9 h9 hJ
      refine ⟨_, rfl, HS9.out, ?_⟩
      go_simp
      refine held_one 11 rfl rfl (by kernel_rfl) ?_
      go_simp
      refine ⟨HS9.out, ?_⟩
      refine held_done (by kernel_rfl) (NoPanic.normal ?_)
      go_wp2
      go_meet
      exact ⟨g9, c9, rfl, HR.out⟩
  case rest =>
    obtain ⟨g, c, rfl, ho, hc, hsz, hb⟩ := hcut
    obtain ⟨b, off, rfl, _, _, hcell⟩ : ∃ b off, ao = some ⟨b, off, none⟩ ∧ lo ≤ b ∧ b < hi ∧ ∀ j, j < i.dir.length → w.cell? ⟨b, off + j, none⟩ = some (.int .i64 (i.dir.getD j 0)) := by
      obtain ⟨ao', cap', e, _, _, h3⟩ := HV.out
      simp only [Value.slice.injEq] at e
      rcases h3 with h3 | ⟨b, off, h4, h5, h6, h7⟩
      · have := HD8.out; rw [h3] at this; cases this
      · exact ⟨b, off, by rw [e.1, h4], h5, h6, h7⟩
    have HCell : Hid (∀ j, j < i.dir.length → w.cell? ⟨b, off + j, none⟩ = some (.int .i64 (i.dir.getD j 0))) := hcell
    obtain ⟨x3, hx3⟩ : ∃ x : List Int, x = [i.kind, i.links] ++ putN i.size 2 := ⟨_, rfl⟩
    have Hx3 : Hid (x3 = [i.kind, i.links] ++ putN i.size 2) := hx3
    rw [← hx3] at ho
    have HX4 : Hid (x3.length = 4) := by show _ = _; rw [hx3, List.length_append, Hs2.out]; rfl
    have HLen : Hid (∀ k, k ≤ 8 → (x3 ++ putAll (i.dir.take k)).length = 4 + 2 * k) := by
      intro k hk
      rw [List.length_append, HX4.out, putAll_len (fun x hx => HDg.out x (List.mem_of_mem_take hx)), List.length_take, HD8.out]
      omega
    have HO0 : Hid (OwnB wc w.heap.size 5 (.slice (some ⟨g, 0, none⟩) 4 c) (x3 ++ putAll (i.dir.take 0))) := by
      rw [show putAll (i.dir.take 0) = [] from rfl, List.append_nil]; exact ho
    have HC0 : Hid (Chg 0 0 w wc) := hc
    have HBc : Hid (wc.heap[w.heap.size]? = some (.cells #[.int .i64 i.kind, .int .i64 i.links, .int .i64 i.size, .slice (some ⟨b, off, none⟩) i.dir.length cap, .int .i64 i.ind] 51 (0, 0))) := hb
    clear hx3 hcell ho hc hb HB1 HC1
    go_wp2
    go_loopw [3, 4] (fun s3 s4 wr => ∃ (k g c : Nat), k ≤ 8 ∧ s4 = .int .i64 k ∧ s3 = .slice (some ⟨g, 0, none⟩) (4 + 2 * k) c ∧ OwnB wr w.heap.size 5 (.slice (some ⟨g, 0, none⟩) (4 + 2 * k) c) (x3 ++ putAll (i.dir.take k)) ∧ Chg 0 0 w wr ∧ w.heap.size < wr.heap.size ∧ wr.heap[w.heap.size]? = some (.cells #[.int .i64 i.kind, .int .i64 i.links, .int .i64 i.size, .slice (some ⟨b, off, none⟩) i.dir.length cap, .int .i64 i.ind] 51 (0, 0))) (fun _ s4 _ => 8 - (intOf s4).toNat)
    case atStart => exact ⟨0, g, c, Nat.zero_le _, rfl, rfl, HO0.out, HC0.out, hsz, HBc.out⟩
    case round =>
      clear HO0 HC0 HBc
      obtain ⟨k, g, c, hk, rfl, rfl, ho, hch, hsz, hb⟩ := hrel
      have HC : Hid (Chg 0 0 w wr) := hch
      have HB : Hid (wr.heap[w.heap.size]? = some (.cells #[.int .i64 i.kind, .int .i64 i.links, .int .i64 i.size, .slice (some ⟨b, off, none⟩) i.dir.length cap, .int .i64 i.ind] 51 (0, 0))) := hb
      have HO : Hid (OwnB wr w.heap.size 5 (.slice (some ⟨g, 0, none⟩) (4 + 2 * k) c) (x3 ++ putAll (i.dir.take k))) := ho
      obtain ⟨⟨q0, q1, q2, q3, q4⟩, _⟩ := ino_all hb
      have hl8 := HD8.out
      by_cases hlt : k < 8
      · have hi' : (k : Int) < (i.dir.length : Int) := by omega
        have d0 := hch.cell (HCell.out k (by omega)) (by omega)
        have hg := goodI_iff.1 (HDg.out (i.dir.getD k 0) (by rw [List.getD_eq_getElem?_getD, List.getElem?_eq_getElem (by omega)]; exact List.getElem_mem _))
        have HT : Hid (putAll (i.dir.take (k + 1)) = putAll (i.dir.take k) ++ putN (i.dir.getD k 0) 2) := putAll_take i.dir k (by omega)
        have HLk := HLen.out k hk
        have HLk1 := HLen.out (k + 1) (by omega)
        have Hd2 : Hid ((putN (i.dir.getD k 0) 2).length = 2) := pn2 hg.1 (by omega)
        generalize i.dir.getD k 0 = dk at *
        have hP := specPut_calls wr dk 2 (by omega)
        clear ho hch hb hl8
        go_wp2_with fail
        refine hP.mono ?_
        rintro e w5 ⟨v5, rfl, o5, h5⟩
        have s5 := h5.size
        have vx := (HO.out.seen (by omega)).chg h5 (by omega)
        have vy := o5.seen (by rw [Hd2.out]; omega)
        obtain ⟨g5, c5, rfl⟩ := o5.some_of (by rw [Hd2.out]; omega)
        rw [Hd2.out] at vy
        rw [Hd2.out]
        have hJ := l2Join_any (xs := x3 ++ putAll (i.dir.take k)) (ys := putN dk 2) w5 (by omega) (by rw [Hd2.out]; omega) vx vy
        have HC5 : Hid (Chg 0 0 w w5) := HC.out.trans h5
        have HB5 : Hid (w5.heap[w.heap.size]? = some (.cells #[.int .i64 i.kind, .int .i64 i.links, .int .i64 i.size, .slice (some ⟨b, off, none⟩) i.dir.length cap, .int .i64 i.ind] 51 (0, 0))) := (h5.block _ (by omega) (by omega)).trans HB.out
        rw [List.append_assoc, ← HT.out] at hJ
        clear hP o5 h5 vx vy HO HC HB q0 q1 q2 q3 q4 d0
        go_wp2_with fail
        refine hJ.mono ?_
        rintro e w6 ⟨v6, rfl, o6, h6⟩
        obtain ⟨g6, c6, rfl⟩ := o6.some_of (by omega)
        rw [HLk1] at o6
        rw [HLk1]
        have s6 := h6.size
        have HR : Hid (OwnB w6 w.heap.size 5 (.slice (some ⟨g6, 0, none⟩) (4 + 2 * (k + 1)) c6) (x3 ++ putAll (i.dir.take (k + 1))) ∧ Chg 0 0 w w6 ∧ w.heap.size < w6.heap.size ∧ w6.heap[w.heap.size]? = some (.cells #[.int .i64 i.kind, .int .i64 i.links, .int .i64 i.size, .slice (some ⟨b, off, none⟩) i.dir.length cap, .int .i64 i.ind] 51 (0, 0))) := ⟨o6.base (fun g hg => by have := (o6.lt g hg).1; omega), HC5.out.trans h6, by omega, (h6.block _ (by omega) (by omega)).trans HB5.out⟩
        clear hJ o6 h6 HC5 HB5 HLk HLk1
        go_wp2
        go_roundw
        case rel => exact ⟨k + 1, g6, c6, by omega, by go_num, rfl, HR.out⟩
        case measure => simp [intOf]; omega
      · obtain rfl : k = 8 := by omega
        have hnl : ¬ ((8 : Nat) : Int) < (i.dir.length : Int) := by omega
        have HX8 : Hid ((x3 ++ putAll i.dir).length = 20) := by
          have := HLen.out 8 (by omega)
          rw [List.take_of_length_le (by omega)] at this
          exact this
        have HO8 : Hid (OwnB wr w.heap.size 5 (.slice (some ⟨g, 0, none⟩) 20 c) (x3 ++ putAll i.dir)) := by
          have := ho
          rw [List.take_of_length_le (by omega)] at this
          exact this
        obtain ⟨x8, hx8⟩ : ∃ x : List Int, x = x3 ++ putAll i.dir := ⟨_, rfl⟩
        have Hx8 : Hid (x8 = x3 ++ putAll i.dir) := hx8
        rw [← hx8] at HO8 HX8
        have HIL : Hid (encIno i = (x8 ++ putN i.ind 2) ++ List.replicate 10 0) := by show _ = _; rw [HE.out, HL.out, Hx8.out, Hx3.out]
        have hP := specPut_calls wr i.ind 2 (by omega)
        clear ho hch hb hl8 HO hx8 Hx8 HLen
        go_wp2_with fail
        refine hP.mono ?_
        rintro e w5 ⟨v5, rfl, o5, h5⟩
        have s5 := h5.size
        have vx := (HO8.out.seen (by rw [HX8.out]; omega)).chg h5 (by omega)
        have vy := o5.seen (by rw [Hi2.out]; omega)
        obtain ⟨g5, c5, rfl⟩ := o5.some_of (by rw [Hi2.out]; omega)
        rw [Hi2.out] at vy
        rw [Hi2.out]
        have hJ := l2Join_any (xs := x8) (ys := putN i.ind 2) w5 (by rw [HX8.out]; omega) (by rw [Hi2.out]; omega) vx vy
        have HC5 : Hid (Chg 0 0 w w5) := HC.out.trans h5
        clear hP o5 h5 vx vy HO8 HC HB q0 q1 q2 q3 q4
        go_wp2_with fail
        refine hJ.mono ?_
        rintro e w6 ⟨v6, rfl, o6, h6⟩
        obtain ⟨y6, hy6⟩ : ∃ x : List Int, x = x8 ++ putN i.ind 2 := ⟨_, rfl⟩
        have Hy6 : Hid (y6 = x8 ++ putN i.ind 2) := hy6
        have HY22 : Hid (y6.length = 22) := by show _ = _; rw [hy6, List.length_append, HX8.out, Hi2.out]
        rw [← hy6] at o6
        have o6' := o6
        obtain ⟨g6, c6, rfl⟩ := o6'.some_of (by rw [HY22.out]; omega)
        have s6 := h6.size
        have HC6 : Hid (Chg 0 0 w w6) := HC5.out.trans h6
        have HO6 : Hid (OwnB w6 w5.heap.size 5 (.slice (some ⟨g6, 0, none⟩) y6.length c6) y6) := o6
        have hZ := l2Zero_calls w6 10 (by omega)
        have Hz10 : Hid ((List.replicate 10 (0 : Int)).length = 10) := by show _ = _; rw [List.length_replicate]
        clear hJ o6 o6' h6 HC5 hy6
        go_wp2_with fail
        refine hZ.mono ?_
        rintro e w7 ⟨g7, rfl, o7, h7⟩
        have s7 := h7.size
        have vx := (HO6.out.seen (by rw [HY22.out]; omega)).chg h7 (by omega)
        have vy := o7.seen (by rw [Hz10.out]; omega)
        have hJ := l2Join_any (xs := y6) (ys := List.replicate 10 0) w7 (by rw [HY22.out]; omega) (by rw [Hz10.out]; omega) vx vy
        have HC7 : Hid (Chg 0 0 w w7) := HC6.out.trans h7
        rw [show y6 ++ List.replicate 10 0 = encIno i from by rw [HIL.out, Hy6.out]] at hJ
        clear hZ o7 h7 vx vy HO6 HC6
        go_wp2_with fail
        refine hJ.mono ?_
        rintro e w8 ⟨v8, rfl, o8, h8⟩
        have HR : Hid (OwnB w8 w.heap.size 5 v8 (encIno i) ∧ Chg 0 0 w w8) := ⟨o8.base (fun g hg => by have := (o8.lt g hg).1; omega), HC7.out.trans h8⟩
        clear hJ o8 h8 HC7
        go_wp2
        go_ret
        exact ⟨_, rfl, HR.out⟩

end Go.Proofs.YtaciallijnhieaaDoor

namespace Go.Proofs.YtaciallijnhieaaDoor
open Go.RowKit

/-- A part of a slice of numbers. -/
theorem View.part {w : World} {lo hi b off cap l n : Nat} {k : IntKind} {xs : List Int} (h : View w lo hi k (.slice (some ⟨b, off, none⟩) xs.length cap) xs) (hl : l + n ≤ xs.length) (hn : 0 < n) (c : Nat) (hc : n ≤ c) :
    View w lo hi k (.slice (some ⟨b, off + l, none⟩) n c) ((xs.drop l).take n) := by
  have hlen : ((xs.drop l).take n).length = n := by rw [List.length_take, List.length_drop]; omega
  obtain ⟨ao, cap', e, h0, _, h1⟩ := h
  simp only [Value.slice.injEq] at e
  obtain ⟨e1, _, _⟩ := e
  rcases h1 with h1 | ⟨b', off', e2, h2, h3, h4⟩
  · rw [h1] at hl; simp at hl; omega
  · rw [← e1] at e2
    cases e2
    refine ⟨_, c, by rw [hlen], by rw [hlen]; omega, ⟨by rw [hlen]; exact hc, by simp⟩, Or.inr ⟨b, off + l, rfl, h2, h3, fun i hi => ?_⟩⟩
    rw [hlen] at hi
    rw [Nat.add_assoc, h4 (l + i) (by omega)]
    simp only [List.getD_eq_getElem?_getD, List.getElem?_take, List.getElem?_drop]
    rw [if_pos hi]

end Go.Proofs.YtaciallijnhieaaDoor

namespace Go.Proofs.YtaciallijnhieaaDoor
open Go.RowKit

/-- The bits that some bytes have: none, where there are too many of them. -/
def mapL (xs : List Int) : List Int := if xs.length ≤ 2048 then xs else []
theorem mapL_len (xs : List Int) : (mapL xs).length ≤ 2048 := by unfold mapL; split <;> simp_all
theorem mapL_byt {xs : List Int} (h : Byt xs) : Byt (mapL xs) := by unfold mapL; split; exact h; intro x hx; cases hx
theorem bitG_map (xs : List Int) (i : Int) : bitG (mapL xs) i = bitG xs i := by
  unfold mapL
  split
  · rfl
  · rename_i h
    rw [bitG_out (fun h' => h h'.1), bitG_out]
    intro h'; have := h'.2; simp at this; omega

set_option maxRecDepth 20000 in
set_option maxHeartbeats 400000 in
theorem size_calls (w : World) (ao : Option Addr) (n cap : Nat) (hl : n ≤ 2048) :
    Calls Tryd.prog 54 #[.slice ao n cap] w fun e w' => e = .returned (.int .i64 (8 * (n : Int))) ∧ w' = w := by
  go_enter Tryd.func54, Tryd.ntmps54
  go_wp2
  go_ret
  exact ⟨by go_num, rfl⟩

set_option maxRecDepth 20000 in
set_option maxHeartbeats 400000 in
theorem maskOf_calls (w : World) (m : Nat) :
    Calls Tryd.prog 65 #[.int .i64 m] w fun e w' => e = .returned (.int .u8 ((2 ^ (m % 8) : Nat) : Int)) ∧ w' = w := by
  have hr : m % 8 < 8 := by omega
  obtain ⟨r, Hr⟩ : ∃ r : Nat, Hid (m % 8 = r) := ⟨_, rfl⟩
  have hmr : ((m : Int) % 8) = (r : Int) := by have := Hr.out; omega
  rw [Hr.out] at hr ⊢
  clear Hr
  have hr' : r = 0 ∨ r = 1 ∨ r = 2 ∨ r = 3 ∨ r = 4 ∨ r = 5 ∨ r = 6 ∨ r = 7 := by omega
  clear hr
  rcases hr' with rfl | rfl | rfl | rfl | rfl | rfl | rfl | rfl
  all_goals
    go_enter Tryd.func65, Tryd.ntmps65
    go_wp2
    go_ret
    exact ⟨rfl, rfl⟩

theorem and_mask_all : ∀ y : Fin 256, ∀ r : Fin 8, (bits BinOp.and IntKind.u8 ((y.val : Nat) : Int) ((2 ^ r.val : Nat) : Int) != 0) = decide (y.val / 2 ^ r.val % 2 = 1) := by decide +kernel
theorem and_mask {y r : Nat} (hy : y < 256) (hr : r < 8) : (bits BinOp.and IntKind.u8 (y : Int) (2 ^ r) != 0) = decide (y / 2 ^ r % 2 = 1) := by
  have h := and_mask_all ⟨y, hy⟩ ⟨r, hr⟩
  rw [show (2 : Int) ^ r = ((2 ^ r : Nat) : Int) by simp]
  exact h

end Go.Proofs.YtaciallijnhieaaDoor

namespace Go.Proofs.YtaciallijnhieaaDoor
open Go.RowKit

theorem or_mask_all : ∀ y : Fin 256, ∀ r : Fin 8, bits BinOp.or IntKind.u8 ((y.val : Nat) : Int) ((2 ^ r.val : Nat) : Int) = putBit ((y.val : Nat) : Int) r.val true := by decide +kernel
theorem andNot_mask_all : ∀ y : Fin 256, ∀ r : Fin 8, bits BinOp.andNot IntKind.u8 ((y.val : Nat) : Int) ((2 ^ r.val : Nat) : Int) = putBit ((y.val : Nat) : Int) r.val false := by decide +kernel
theorem or_mask {y r : Nat} (hy : y < 256) (hr : r < 8) : bits BinOp.or IntKind.u8 (y : Int) (2 ^ r) = putBit y r true := by
  have h := or_mask_all ⟨y, hy⟩ ⟨r, hr⟩
  rw [show (2 : Int) ^ r = ((2 ^ r : Nat) : Int) by simp]
  exact h
theorem andNot_mask {y r : Nat} (hy : y < 256) (hr : r < 8) : bits BinOp.andNot IntKind.u8 (y : Int) (2 ^ r) = putBit y r false := by
  have h := andNot_mask_all ⟨y, hy⟩ ⟨r, hr⟩
  rw [show (2 : Int) ^ r = ((2 ^ r : Nat) : Int) by simp]
  exact h

set_option maxRecDepth 20000 in
set_option maxHeartbeats 1000000 in
theorem bput_on (w : World) (xs : List Int) (m base g cap : Nat) (hB : Byt xs) (hl : xs.length ≤ 2048) (hm : m < 8 * xs.length)
    (hO : OwnB w base 5 (.slice (some ⟨g, 0, none⟩) xs.length cap) xs) :
    Calls Tryd.prog 52 #[.slice (some ⟨g, 0, none⟩) xs.length cap, .int .i64 m, .bool true] w fun e w' => e = .returned (.tuple #[]) ∧ OwnB w' base 5 (.slice (some ⟨g, 0, none⟩) xs.length cap) (xs.set (m / 8) (putBit (xs.getD (m / 8) 0) (m % 8) true)) ∧ Chg g (g + 1) w w' := by
  have hb := hB.getD (m / 8)
  obtain ⟨y, hy⟩ : ∃ y : Nat, xs.getD (m / 8) 0 = y := ⟨(xs.getD (m / 8) 0).toNat, by omega⟩
  have HY : Hid (xs.getD (m / 8) 0 = y) := hy
  rw [hy] at hb ⊢
  have hq : ((m / 8 : Nat) : Int) < (xs.length : Int) := by omega
  have hr : m % 8 < 8 := by omega
  have hM := fun w => maskOf_calls w m
  obtain ⟨r, Hr⟩ : ∃ r : Nat, Hid (m % 8 = r) := ⟨_, rfl⟩
  rw [Hr.out] at hr hM
  have hO' : OwnB w.drew base 5 (.slice (some ⟨g, 0, none⟩) xs.length cap) xs := hO.chg (Chg.drew (Chg.refl 0 0 w)) (by intro g _; omega)
  have HC : Hid (Chg g (g + 1) w w.drew) := Chg.drew (Chg.refl _ _ w)
  have C1 : w.drew.cell? ⟨g, m / 8, none⟩ = some (.int .u8 y) := by
    have := World.ownsRow.cellAt hO' (m / 8) (by omega)
    rw [this, List.getElem?_map]
    have e : xs[m / 8]? = some (y : Int) := by
      have := HY.out
      rw [List.getD_eq_getElem?_getD] at this
      rw [List.getElem?_eq_getElem (by omega)] at this ⊢
      exact congrArg some this
    rw [e]; rfl
  have C2 : w.drew.frozen? ⟨g, m / 8, none⟩ = false := World.ownsRow.frozenAt hO' (m / 8)
  have Hbit : Hid (bits BinOp.or IntKind.u8 (y : Int) (2 ^ r) = putBit y r true) := or_mask (by omega) hr
  have HS : Hid (∀ (z : Int), OwnB (w.drew.setCell ⟨g, m / 8, none⟩ (.int .u8 z)) base 5 (.slice (some ⟨g, 0, none⟩) xs.length cap) (xs.set (m / 8) z)) := fun z => OwnB.putAt hO' rfl (m / 8) z
  have HCS : Hid (∀ (z : Int), Chg g (g + 1) w (w.drew.setCell ⟨g, m / 8, none⟩ (.int .u8 z))) := fun z => Chg.setCell HC.out (Or.inl ⟨Nat.le_refl _, Nat.lt_succ_self _⟩) _
  have hk : (m : Int) / 8 = ((m / 8 : Nat) : Int) := by omega
  have Hk : Hid (m / 8 < 2048) := by show _ < _; omega
  generalize m / 8 = k at *
  have hk2 := Hk.out
  have hkw : IntKind.i64.wrap (k : Int) = (k : Int) := by rw [IntKind.wrap_i64]; omega
  clear hy hO hO' hB
  go_enter Tryd.func52, Tryd.ntmps52
  go_wp2
  refine held_region (fun _ => True) (by kernel_rfl) ?_
  generalize w.drew = wd at *
  refine held_take 0 (.slice (some ⟨g, 0, none⟩) xs.length cap) rfl (by kernel_rfl) (by kernel_rfl) (by kernel_rfl) (fun _ _ _ h => h) (.inl ⟨by kernel_rfl, fun w' hw' => by go_simp⟩) trivial ?_
  go_simp
  refine held_take 1 (.int .i64 m) rfl (by kernel_rfl) (by kernel_rfl) (by kernel_rfl) (fun _ _ _ h => h) (.inl ⟨by kernel_rfl, fun w' hw' => by go_simp⟩) trivial ?_
  go_simp
  refine held_take 2 (.int .i64 k) rfl (by kernel_rfl) (by kernel_rfl) (by kernel_rfl) (fun _ _ _ h => h) (.inl ⟨by kernel_rfl, fun w' hw' => by go_simp⟩) trivial ?_
  go_simp
  refine held_take 3 (.pointer (some ⟨g, k, none⟩)) rfl (by kernel_rfl) (by kernel_rfl) (by kernel_rfl) (fun _ _ _ h => h) (.inl ⟨by kernel_rfl, fun w' hw' => by go_simp⟩) trivial ?_
  go_simp
  refine held_take 5 (.int .i64 m) rfl (by kernel_rfl) (by kernel_rfl) (by kernel_rfl) (fun _ _ _ h => h) (.inl ⟨by kernel_rfl, fun w' hw' => by go_simp⟩) trivial ?_
  go_simp
  refine held_two 4 6 rfl rfl rfl rfl (by kernel_rfl) ?_ ?_
  · go_simp
    refine held_one 6 rfl rfl (by kernel_rfl) ?_
    refine wp_enter 65 #[.int .i64 m] (by first | kernel_rfl | go_simp) (hM _) ?_
    rintro e w2 ⟨rfl, rfl⟩
    refine ⟨_, rfl, trivial, ?_⟩
    go_simp
    refine held_one 7 rfl rfl (by kernel_rfl) ?_
    go_simp
    rw [Hbit.out]
    refine held_one 8 rfl rfl (by kernel_rfl) ?_
    go_simp
    refine held_one 9 rfl rfl (by kernel_rfl) ?_
    go_simp
    refine held_done (by kernel_rfl) (NoPanic.normal ?_)
    go_wp2
    go_end0
    exact ⟨rfl, by rw [Hr.out]; exact HS.out _, HCS.out _⟩
  · refine wp_enter 65 #[.int .i64 m] (by first | kernel_rfl | go_simp) (hM _) ?_
    rintro e w2 ⟨rfl, rfl⟩
    refine ⟨_, rfl, trivial, ?_⟩
    go_simp
    refine held_one 4 rfl rfl (by kernel_rfl) ?_
    go_simp
    refine held_one 7 rfl rfl (by kernel_rfl) ?_
    go_simp
    rw [Hbit.out]
    refine held_one 8 rfl rfl (by kernel_rfl) ?_
    go_simp
    refine held_one 9 rfl rfl (by kernel_rfl) ?_
    go_simp
    refine held_done (by kernel_rfl) (NoPanic.normal ?_)
    go_wp2
    go_end0
    exact ⟨rfl, by rw [Hr.out]; exact HS.out _, HCS.out _⟩

set_option maxRecDepth 20000 in
set_option maxHeartbeats 1000000 in
theorem bput_off (w : World) (xs : List Int) (m base g cap : Nat) (hB : Byt xs) (hl : xs.length ≤ 2048) (hm : m < 8 * xs.length)
    (hO : OwnB w base 5 (.slice (some ⟨g, 0, none⟩) xs.length cap) xs) :
    Calls Tryd.prog 52 #[.slice (some ⟨g, 0, none⟩) xs.length cap, .int .i64 m, .bool false] w fun e w' => e = .returned (.tuple #[]) ∧ OwnB w' base 5 (.slice (some ⟨g, 0, none⟩) xs.length cap) (xs.set (m / 8) (putBit (xs.getD (m / 8) 0) (m % 8) false)) ∧ Chg g (g + 1) w w' := by
  have hb := hB.getD (m / 8)
  obtain ⟨y, hy⟩ : ∃ y : Nat, xs.getD (m / 8) 0 = y := ⟨(xs.getD (m / 8) 0).toNat, by omega⟩
  have HY : Hid (xs.getD (m / 8) 0 = y) := hy
  rw [hy] at hb ⊢
  have hq : ((m / 8 : Nat) : Int) < (xs.length : Int) := by omega
  have hr : m % 8 < 8 := by omega
  have hM := fun w => maskOf_calls w m
  obtain ⟨r, Hr⟩ : ∃ r : Nat, Hid (m % 8 = r) := ⟨_, rfl⟩
  rw [Hr.out] at hr hM
  have hO' : OwnB w.drew base 5 (.slice (some ⟨g, 0, none⟩) xs.length cap) xs := hO.chg (Chg.drew (Chg.refl 0 0 w)) (by intro g _; omega)
  have HC : Hid (Chg g (g + 1) w w.drew) := Chg.drew (Chg.refl _ _ w)
  have C1 : w.drew.cell? ⟨g, m / 8, none⟩ = some (.int .u8 y) := by
    have := World.ownsRow.cellAt hO' (m / 8) (by omega)
    rw [this, List.getElem?_map]
    have e : xs[m / 8]? = some (y : Int) := by
      have := HY.out
      rw [List.getD_eq_getElem?_getD] at this
      rw [List.getElem?_eq_getElem (by omega)] at this ⊢
      exact congrArg some this
    rw [e]; rfl
  have C2 : w.drew.frozen? ⟨g, m / 8, none⟩ = false := World.ownsRow.frozenAt hO' (m / 8)
  have Hbit : Hid (bits BinOp.andNot IntKind.u8 (y : Int) (2 ^ r) = putBit y r false) := andNot_mask (by omega) hr
  have HS : Hid (∀ (z : Int), OwnB (w.drew.setCell ⟨g, m / 8, none⟩ (.int .u8 z)) base 5 (.slice (some ⟨g, 0, none⟩) xs.length cap) (xs.set (m / 8) z)) := fun z => OwnB.putAt hO' rfl (m / 8) z
  have HCS : Hid (∀ (z : Int), Chg g (g + 1) w (w.drew.setCell ⟨g, m / 8, none⟩ (.int .u8 z))) := fun z => Chg.setCell HC.out (Or.inl ⟨Nat.le_refl _, Nat.lt_succ_self _⟩) _
  have hk : (m : Int) / 8 = ((m / 8 : Nat) : Int) := by omega
  have Hk : Hid (m / 8 < 2048) := by show _ < _; omega
  generalize m / 8 = k at *
  have hk2 := Hk.out
  have hkw : IntKind.i64.wrap (k : Int) = (k : Int) := by rw [IntKind.wrap_i64]; omega
  clear hy hO hO' hB
  go_enter Tryd.func52, Tryd.ntmps52
  go_wp2
  refine held_region (fun _ => True) (by kernel_rfl) ?_
  generalize w.drew = wd at *
  refine held_take 0 (.slice (some ⟨g, 0, none⟩) xs.length cap) rfl (by kernel_rfl) (by kernel_rfl) (by kernel_rfl) (fun _ _ _ h => h) (.inl ⟨by kernel_rfl, fun w' hw' => by go_simp⟩) trivial ?_
  go_simp
  refine held_take 1 (.int .i64 m) rfl (by kernel_rfl) (by kernel_rfl) (by kernel_rfl) (fun _ _ _ h => h) (.inl ⟨by kernel_rfl, fun w' hw' => by go_simp⟩) trivial ?_
  go_simp
  refine held_take 2 (.int .i64 k) rfl (by kernel_rfl) (by kernel_rfl) (by kernel_rfl) (fun _ _ _ h => h) (.inl ⟨by kernel_rfl, fun w' hw' => by go_simp⟩) trivial ?_
  go_simp
  refine held_take 3 (.pointer (some ⟨g, k, none⟩)) rfl (by kernel_rfl) (by kernel_rfl) (by kernel_rfl) (fun _ _ _ h => h) (.inl ⟨by kernel_rfl, fun w' hw' => by go_simp⟩) trivial ?_
  go_simp
  refine held_take 5 (.int .i64 m) rfl (by kernel_rfl) (by kernel_rfl) (by kernel_rfl) (fun _ _ _ h => h) (.inl ⟨by kernel_rfl, fun w' hw' => by go_simp⟩) trivial ?_
  go_simp
  refine held_two 4 6 rfl rfl rfl rfl (by kernel_rfl) ?_ ?_
  · go_simp
    refine held_one 6 rfl rfl (by kernel_rfl) ?_
    refine wp_enter 65 #[.int .i64 m] (by first | kernel_rfl | go_simp) (hM _) ?_
    rintro e w2 ⟨rfl, rfl⟩
    refine ⟨_, rfl, trivial, ?_⟩
    go_simp
    refine held_one 7 rfl rfl (by kernel_rfl) ?_
    go_simp
    rw [Hbit.out]
    refine held_one 8 rfl rfl (by kernel_rfl) ?_
    go_simp
    refine held_one 9 rfl rfl (by kernel_rfl) ?_
    go_simp
    refine held_done (by kernel_rfl) (NoPanic.normal ?_)
    go_wp2
    go_end0
    exact ⟨rfl, by rw [Hr.out]; exact HS.out _, HCS.out _⟩
  · refine wp_enter 65 #[.int .i64 m] (by first | kernel_rfl | go_simp) (hM _) ?_
    rintro e w2 ⟨rfl, rfl⟩
    refine ⟨_, rfl, trivial, ?_⟩
    go_simp
    refine held_one 4 rfl rfl (by kernel_rfl) ?_
    go_simp
    refine held_one 7 rfl rfl (by kernel_rfl) ?_
    go_simp
    rw [Hbit.out]
    refine held_one 8 rfl rfl (by kernel_rfl) ?_
    go_simp
    refine held_one 9 rfl rfl (by kernel_rfl) ?_
    go_simp
    refine held_done (by kernel_rfl) (NoPanic.normal ?_)
    go_wp2
    go_end0
    exact ⟨rfl, by rw [Hr.out]; exact HS.out _, HCS.out _⟩

theorem put_calls (w : World) (xs : List Int) (m base g cap : Nat) (on : Bool) (hB : Byt xs) (hl : xs.length ≤ 2048) (hm : m < 8 * xs.length)
    (hO : OwnB w base 5 (.slice (some ⟨g, 0, none⟩) xs.length cap) xs) :
    Calls Tryd.prog 52 #[.slice (some ⟨g, 0, none⟩) xs.length cap, .int .i64 m, .bool on] w fun e w' => e = .returned (.tuple #[]) ∧ OwnB w' base 5 (.slice (some ⟨g, 0, none⟩) xs.length cap) (xs.set (m / 8) (putBit (xs.getD (m / 8) 0) (m % 8) on)) ∧ Chg g (g + 1) w w' := by
  cases on
  · exact bput_off w xs m base g cap hB hl hm hO
  · exact bput_on w xs m base g cap hB hl hm hO

end Go.Proofs.YtaciallijnhieaaDoor

namespace Go.Proofs.YtaciallijnhieaaDoor
open Go.RowKit

/-- The bounds, cut to the bits. -/
def cutA (n : Nat) (f : Int) : Nat := (min (max f 0) (8 * (n : Int))).toNat
def cutE (n : Nat) (f t : Int) : Nat := (min (max t (cutA n f)) (8 * (n : Int))).toNat

theorem tup2' {a a' b b' : Int} (h1 : a = a') (h2 : b = b') : Ending.returned (.tuple #[.int .i64 a, .int .i64 b]) = .returned (.tuple #[.int .i64 a', .int .i64 b']) := by rw [h1, h2]

set_option maxRecDepth 20000 in
set_option maxHeartbeats 400000 in
theorem bwithin_calls (w : World) (ao : Option Addr) (n cap : Nat) (f t : Int) (hl : n ≤ 2048) :
    Calls Tryd.prog 66 #[.slice ao n cap, .int .i64 f, .int .i64 t] w fun e w' => e = .returned (.tuple #[.int .i64 (cutA n f), .int .i64 (cutE n f t)]) ∧ w' = w := by
  have hS := fun w => size_calls w ao n cap hl
  go_enter Tryd.func66, Tryd.ntmps66
  go_wp2_with (go_at_call 54; refine (hS _).mono ?_; rintro e w1 ⟨rfl, rfl⟩)
  all_goals
    go_ret2
    refine ⟨tup2' ?_ ?_, rfl⟩
  all_goals
    simp only [cutA, cutE]
    omega

/-- The first place from i on that is as asked; n ahead are looked at. -/
def nxtB (ys : List Int) (on : Bool) : Nat → Nat → Nat
  | i, 0 => i
  | i, n + 1 => if bitN ys i = on then i else nxtB ys on (i + 1) n

theorem nxtB_hit {ys : List Int} {on : Bool} {i n : Nat} (h : bitN ys i = on) : nxtB ys on i n = i := by
  cases n with
  | zero => rfl
  | succ n => unfold nxtB; rw [if_pos h]
theorem nxtB_skip {ys : List Int} {on : Bool} : ∀ (m i n : Nat), (∀ k, k < m → bitN ys (i + k) ≠ on) → nxtB ys on i (m + n) = nxtB ys on (i + m) n
  | 0, i, n, _ => by rw [Nat.zero_add]; rfl
  | m + 1, i, n, h => by
    have h0 : bitN ys i ≠ on := h 0 (by omega)
    rw [show m + 1 + n = (m + n) + 1 by omega, show nxtB ys on i (m + n + 1) = nxtB ys on (i + 1) (m + n) from by show (if _ then _ else _) = _; rw [if_neg h0], nxtB_skip m (i + 1) n (fun k hk => by have := h (k + 1) (by omega); rwa [show i + (k + 1) = i + 1 + k by omega] at this)]
    rw [show i + 1 + m = i + (m + 1) by omega]
theorem nxtB_bounds {ys : List Int} {on : Bool} : ∀ (n i : Nat), i ≤ nxtB ys on i n ∧ nxtB ys on i n ≤ i + n
  | 0, i => ⟨Nat.le_refl _, Nat.le_refl _⟩
  | n + 1, i => by
    unfold nxtB
    split
    · omega
    · have := nxtB_bounds (ys := ys) (on := on) n (i + 1); omega
theorem nxtB_ahead {ys : List Int} {on : Bool} : ∀ (n i k : Nat), i ≤ k → k < nxtB ys on i n → bitN ys k ≠ on
  | 0, i, k, h1, h2 => by have : nxtB ys on i 0 = i := rfl; omega
  | n + 1, i, k, h1, h2 => by
    unfold nxtB at h2
    by_cases h : bitN ys i = on
    · rw [if_pos h] at h2; omega
    · rw [if_neg h] at h2
      by_cases e : k = i
      · rw [e]; exact h
      · exact nxtB_ahead n (i + 1) k (by omega) h2
theorem nxtB_at {ys : List Int} {on : Bool} : ∀ (n i : Nat), nxtB ys on i n < i + n → bitN ys (nxtB ys on i n) = on
  | 0, i, h => by have : nxtB ys on i 0 = i := rfl; omega
  | n + 1, i, h => by
    unfold nxtB at h ⊢
    by_cases h' : bitN ys i = on
    · rw [if_pos h']; exact h'
    · rw [if_neg h'] at h ⊢
      exact nxtB_at n (i + 1) (by omega)

/-- What 'next' tells from i on. -/
def nextAt (ys : List Int) (on : Bool) (E i : Nat) : Nat := if i < E then nxtB ys on i (E - i) else E

/-- A byte from bit r on. -/
def zB (y r : Nat) (on : Bool) : Nat := (if on then y else 255 - y) / 2 ^ r
theorem zB_facts : ∀ y : Fin 256, ∀ r : Fin 8, ∀ on : Bool, (zB y.val r.val on = 0 → ∀ q : Fin 8, r ≤ q → decide (y.val / 2 ^ q.val % 2 = 1) ≠ on) ∧
    (zB y.val r.val on ≠ 0 → r.val + Lib.trailingZeros8 (zB y.val r.val on) < 8 ∧ decide (y.val / 2 ^ (r.val + Lib.trailingZeros8 (zB y.val r.val on)) % 2 = 1) = on ∧
      ∀ q : Fin 8, r ≤ q → q.val < r.val + Lib.trailingZeros8 (zB y.val r.val on) → decide (y.val / 2 ^ q.val % 2 = 1) ≠ on) := by decide +kernel
theorem zB_lt {y r : Nat} (on : Bool) (hy : y < 256) : zB y r on < 256 := by
  unfold zB
  refine Nat.lt_of_le_of_lt (Nat.div_le_self _ _) ?_
  split <;> omega

theorem nextAt_zero {ys : List Int} {on : Bool} {E i y : Nat} (hy : ys.getD (i / 8) 0 = y) (hy2 : y < 256) (hi : i < E) (hz : zB y (i % 8) on = 0) : nextAt ys on E i = nextAt ys on E (i + (8 - i % 8)) := by
  have hr : i % 8 < 8 := by omega
  have H := (zB_facts ⟨y, hy2⟩ ⟨i % 8, hr⟩ on).1 hz
  have hB : ∀ k, k < 8 - i % 8 → bitN ys (i + k) ≠ on := by
    intro k hk
    have := H ⟨i % 8 + k, by omega⟩ (by show i % 8 ≤ i % 8 + k; omega)
    unfold bitN
    rw [show (i + k) / 8 = i / 8 by omega, show (i + k) % 8 = i % 8 + k by omega, hy]
    exact this
  unfold nextAt
  rw [if_pos hi]
  by_cases h2 : i + (8 - i % 8) < E
  · rw [if_pos h2, show E - i = (8 - i % 8) + (E - (i + (8 - i % 8))) by omega, nxtB_skip _ _ _ hB]
  · rw [if_neg h2, show E - i = (E - i) + 0 by omega, nxtB_skip _ _ _ (fun k hk => hB k (by omega))]
    show i + (E - i) = E
    omega

theorem nextAt_hit {ys : List Int} {on : Bool} {E i y : Nat} (hy : ys.getD (i / 8) 0 = y) (hy2 : y < 256) (hi : i < E) (hz : zB y (i % 8) on ≠ 0) : nextAt ys on E i = min (i + Lib.trailingZeros8 (zB y (i % 8) on)) E := by
  have hr : i % 8 < 8 := by omega
  obtain ⟨h1, h2, h3⟩ := (zB_facts ⟨y, hy2⟩ ⟨i % 8, hr⟩ on).2 hz
  generalize Lib.trailingZeros8 (zB y (i % 8) on) = d at *
  simp only at h1 h2 h3
  have hB : ∀ k, k < d → bitN ys (i + k) ≠ on := by
    intro k hk
    have := h3 ⟨i % 8 + k, by omega⟩ (by show i % 8 ≤ i % 8 + k; omega) (by show i % 8 + k < i % 8 + d; omega)
    unfold bitN
    rw [show (i + k) / 8 = i / 8 by omega, show (i + k) % 8 = i % 8 + k by omega, hy]
    exact this
  have hd : bitN ys (i + d) = on := by
    unfold bitN
    rw [show (i + d) / 8 = i / 8 by omega, show (i + d) % 8 = i % 8 + d by omega, hy]
    exact h2
  unfold nextAt
  rw [if_pos hi]
  by_cases h : i + d < E
  · rw [show E - i = d + (E - (i + d)) by omega, nxtB_skip _ _ _ hB, nxtB_hit hd, Nat.min_eq_left (by omega)]
  · rw [show E - i = (E - i) + 0 by omega, nxtB_skip _ _ _ (fun k hk => hB k (by omega)), Nat.min_eq_right (by omega)]
    show i + (E - i) = E
    omega

end Go.Proofs.YtaciallijnhieaaDoor

namespace Go.Proofs.YtaciallijnhieaaDoor
open Go.RowKit

/-- Bits A .. A + n - 1 on. -/
def onTo (ys : List Int) (A : Nat) : Nat → List Int
  | 0 => ys
  | n + 1 => bitP (onTo ys A n) ((A + n : Nat) : Int) true
theorem putBit_byt {x : Int} {r : Nat} {on : Bool} (h0 : 0 ≤ x) (h1 : x < 256) (hr : r < 8) : 0 ≤ putBit x r on ∧ putBit x r on < 256 := by
  obtain ⟨m, rfl⟩ : ∃ m : Nat, x = m := ⟨x.toNat, by omega⟩
  by_cases hb : decide (m / 2 ^ r % 2 = 1) = on
  · rw [putBit_same hb]; omega
  · cases on with
    | true =>
      have hb' : ¬ m / 2 ^ r % 2 = 1 := by simpa using hb
      rw [putBit_up hb']
      have := up_bound (by omega) hr hb'
      generalize m + 2 ^ r = q at *
      omega
    | false =>
      have hb' : m / 2 ^ r % 2 = 1 := by simpa using hb
      rw [putBit_down hr hb']
      have : m - 2 ^ r ≤ m := Nat.sub_le _ _
      generalize m - 2 ^ r = q at *
      omega
theorem bitP_byt {xs : List Int} (i : Int) (on : Bool) (h : Byt xs) : Byt (bitP xs i on) := by
  unfold bitP
  split
  · intro x hx
    rcases List.mem_or_eq_of_mem_set hx with hx | rfl
    · exact h x hx
    · have := h.getD (i.toNat / 8); exact putBit_byt this.1 this.2 (Nat.mod_lt _ (by decide))
  · intro x hx; cases hx
theorem onTo_facts {ys : List Int} {A : Nat} (hB : Byt ys) (hl : ys.length ≤ 2048) : ∀ n, A + n ≤ 8 * ys.length → (onTo ys A n).length = ys.length ∧ Byt (onTo ys A n)
  | 0, _ => ⟨rfl, hB⟩
  | n + 1, h => by
    obtain ⟨h1, h2⟩ := onTo_facts (A := A) hB hl n (by omega)
    refine ⟨?_, bitP_byt _ _ h2⟩
    show (bitP _ _ _).length = _
    rw [bitP_in ⟨by rw [h1]; exact hl, by omega, by rw [h1]; omega⟩, List.length_set, h1]

set_option maxRecDepth 20000 in
set_option maxHeartbeats 1000000 in
theorem fill_calls (w : World) (ys : List Int) (base g cap : Nat) (f t : Int) (hB : Byt ys) (hl : ys.length ≤ 2048)
    (hO : OwnB w base 5 (.slice (some ⟨g, 0, none⟩) ys.length cap) ys) :
    Calls Tryd.prog 53 #[.slice (some ⟨g, 0, none⟩) ys.length cap, .int .i64 f, .int .i64 t] w fun e w' =>
      e = .returned (.tuple #[]) ∧ OwnB w' base 5 (.slice (some ⟨g, 0, none⟩) ys.length cap) (onTo ys (cutA ys.length f) (cutE ys.length f t - cutA ys.length f)) ∧ Chg g (g + 1) w w' := by
  have hN := bwithin_calls w (some ⟨g, 0, none⟩) ys.length cap f t hl
  have hAE : cutA ys.length f ≤ cutE ys.length f t ∧ cutE ys.length f t ≤ 8 * ys.length := by
    have : cutA ys.length f ≤ 8 * ys.length := by unfold cutA; omega
    constructor <;> (unfold cutE; omega)
  obtain ⟨hA, hE⟩ := hAE
  generalize cutA ys.length f = A at *
  generalize cutE ys.length f t = E at *
  have HO : Hid (OwnB w base 5 (.slice (some ⟨g, 0, none⟩) ys.length cap) ys) := hO
  have HBy : Hid (Byt ys) := hB
  have hEb : E ≤ 16384 := by omega
  clear hO hB
  go_enter Tryd.func53, Tryd.ntmps53
  go_wp2_with fail
  refine hN.mono ?_
  rintro e w1 ⟨rfl, rfl⟩
  clear hN
  go_wp2
  go_loopw [6] (fun x wr => ∃ k : Nat, x = .int .i64 ((A + k : Nat) : Int) ∧ A + k ≤ E ∧ OwnB wr base 5 (.slice (some ⟨g, 0, none⟩) ys.length cap) (onTo ys A k) ∧ Chg g (g + 1) w1 wr) (fun x _ => E - (intOf x).toNat)
  case atStart => exact ⟨0, rfl, hA, HO.out, Chg.refl _ _ _⟩
  case round =>
    obtain ⟨k, rfl, hk, ho, hc⟩ := hrel
    obtain ⟨h1, h2⟩ := onTo_facts (A := A) HBy.out hl k (by omega)
    have HC : Hid (Chg g (g + 1) w1 wr) := hc
    by_cases hlt : A + k < E
    · have hlt' : ((A + k : Nat) : Int) < (E : Int) := by omega
      have hP := put_calls wr (onTo ys A k) (A + k) base g cap true h2 (by omega) (by omega) (by rw [h1]; exact ho)
      rw [h1] at hP
      have Hn : Hid ((onTo ys A k).set ((A + k) / 8) (putBit ((onTo ys A k).getD ((A + k) / 8) 0) ((A + k) % 8) true) = onTo ys A (k + 1)) := (bitP_in (m := A + k) ⟨by omega, by omega, by rw [h1]; omega⟩).symm
      rw [Hn.out] at hP
      obtain ⟨q, Hq⟩ : ∃ q, Hid (A + k = q) := ⟨_, rfl⟩
      rw [Hq.out] at hlt' hP ⊢
      have hqb : q ≤ 16384 := by have := Hq.out; omega
      clear ho hc h1 h2
      go_wp2_with fail
      refine hP.mono ?_
      rintro e w2 ⟨rfl, o2, c2⟩
      have HO2 : Hid (OwnB w2 base 5 (.slice (some ⟨g, 0, none⟩) ys.length cap) (onTo ys A (k + 1))) := o2
      have HC2 : Hid (Chg g (g + 1) w1 w2) := HC.out.trans c2
      clear o2 c2 hP
      go_wp2
      go_roundw
      case rel => exact ⟨k + 1, by have := Hq.out; congr 1; omega, by have := Hq.out; omega, HO2.out, HC2.out⟩
      case measure => have := Hq.out; simp [intOf]; omega
    · obtain rfl : E = A + k := by omega
      have HO2 : Hid (OwnB wr base 5 (.slice (some ⟨g, 0, none⟩) ys.length cap) (onTo ys A k)) := ho
      have hlt' : ¬ ((A + k : Nat) : Int) < ((A + k : Nat) : Int) := by omega
      generalize hq : A + k = q at *
      clear ho h1 h2
      go_wp2
      go_end0
      exact ⟨rfl, by rw [show q - A = k by omega]; exact HO2.out, HC.out⟩

end Go.Proofs.YtaciallijnhieaaDoor

namespace Go.Proofs.YtaciallijnhieaaDoor
open Go.RowKit

/-- The map of inodes of a new disk. -/
def inoMap (n : Nat) : List Int := onTo (bitP (List.replicate 64 0) 0 true) n (512 - n)
theorem zeros_byt (k : Nat) : Byt (List.replicate k 0) := fun x hx => by rw [List.eq_of_mem_replicate hx]; omega

theorem made_one (z : Value) (n : Nat) : (madeCells #[z] n).toList = List.replicate n z := by
  apply List.ext_getElem?
  intro j
  by_cases hj : j < n
  · simp [madeCells, hj, Nat.mod_one]
  · simp [madeCells, hj]
theorem own_made {w : World} {base g n : Nat} (h : w.ownsRow base 5 1 (.slice (some ⟨g, 0, none⟩) n n) n (madeCells (Value.int .u8 0).cells (n * 1)).toList) : OwnB w base 5 (.slice (some ⟨g, 0, none⟩) n n) (List.replicate n 0) := by
  unfold OwnB
  rw [List.length_replicate, List.map_replicate]
  rw [show (Value.int .u8 0).cells = #[.int .u8 0] from rfl, made_one, Nat.mul_one] at h
  exact h

theorem own_made' {w : World} {base g n : Nat} (h : w.ownsRow base 5 1 (.slice (some ⟨g, 0, none⟩) n n) n (madeCells #[Value.int .u8 0] n).toList) : OwnB w base 5 (.slice (some ⟨g, 0, none⟩) n n) (List.replicate n 0) := by
  unfold OwnB
  rw [List.length_replicate, List.map_replicate]
  rw [made_one] at h
  exact h

set_option maxRecDepth 20000 in
set_option maxHeartbeats 2000000 in
theorem newInodeMap_calls (w : World) (b l : Int) (n : Nat) (hn : n ≤ 256) :
    Calls Tryd.prog 27 #[geoV b l n] w fun e w' => ∃ g, e = .returned (.slice (some ⟨g, 0, none⟩) 64 64) ∧ OwnB w' w.heap.size 5 (.slice (some ⟨g, 0, none⟩) 64 64) (inoMap n) ∧ Chg 0 0 w w' := by
  obtain ⟨i, hi, hz0, hz1, hz2⟩ := info_parts Tryd.infoU
  have HB0 : Hid ((w.alloc (.cells #[.int .i64 b, .int .i64 l, .int .i64 (n : Int)] 29)).heap[w.heap.size]? = some (.cells #[.int .i64 b, .int .i64 l, .int .i64 (n : Int)] 29 (0, 0))) := heap_new w _
  go_enter Tryd.func27, Tryd.ntmps27
  go_wp2_with (at_make; refine wpList_make_full _ rfl _ _ 68 rfl w.heap.size 5 i (.int .u8 0) 1 Tryd.underlying68 hi hz0 hz1 _ _ _ _ 64 rfl rfl rfl rfl (by rw [hz2]; omega) (by unfold maxLen; omega) (by simp) ?_)
  intro w1 hown hgrow
  have O1 := own_made hown
  have C1 : Chg 0 0 w w1 := (Chg.alloc (Chg.refl 0 0 w) _).trans (Chg.ofGrown hgrow (by simp))
  have HBx : Hid (w1.heap[w.heap.size]? = some (.cells #[.int .i64 b, .int .i64 l, .int .i64 (n : Int)] 29 (0, 0))) := (hgrow.block w.heap.size (by simp) (by simp)).trans HB0.out
  have hlt : w.heap.size + 1 < w1.heap.size := (O1.lt _ rfl).2
  clear hown hgrow HB0
  have hP := put_calls w1 (List.replicate 64 0) 0 w.heap.size (w.heap.size + 1) 64 true (zeros_byt 64) (by simp) (by simp) (by rw [List.length_replicate]; exact O1)
  rw [List.length_replicate] at hP
  have hbp : bitP (List.replicate 64 0) 0 true = (List.replicate 64 (0 : Int)).set (0 / 8) (putBit ((List.replicate 64 0).getD (0 / 8) 0) (0 % 8) true) := bitP_in (m := 0) ⟨by simp, by omega, by simp⟩
  rw [← hbp] at hP
  have hl1 : (bitP (List.replicate 64 0) 0 true).length = 64 := by rw [hbp, List.length_set, List.length_replicate]
  have hby := bitP_byt (xs := List.replicate 64 0) 0 true (zeros_byt 64)
  have HD : Hid (inoMap n = onTo (bitP (List.replicate 64 0) 0 true) n (512 - n)) := rfl
  generalize bitP (List.replicate 64 0) 0 true = Y at *
  clear hbp O1
  go_wp2_with fail
  refine hP.mono ?_
  rintro e w2 ⟨rfl, o2, c2⟩
  have C2 : Chg 0 0 w w2 := C1.step c2 (by omega)
  have HB2 : Hid (w2.heap[w.heap.size]? = some (.cells #[.int .i64 b, .int .i64 l, .int .i64 (n : Int)] 29 (0, 0))) := (c2.block _ (by omega) (by omega)).trans HBx.out
  have hlt2 := Nat.lt_of_lt_of_le hlt c2.size
  clear hP c2 HBx C1 hlt
  have hF := fun W (h : OwnB W w.heap.size 5 (.slice (some ⟨w.heap.size + 1, 0, none⟩) 64 64) Y) => fill_calls W Y w.heap.size (w.heap.size + 1) 64 n 512 hby (by omega) (by rw [hl1]; exact h)
  rw [hl1] at hF
  have e1 : cutA 64 (n : Int) = n := by unfold cutA; omega
  have e2 : cutE 64 (n : Int) 512 = 512 := by unfold cutE; rw [e1]; omega
  rw [e1, e2, ← HD.out] at hF
  have HF : Hid (∀ W, OwnB W w.heap.size 5 (.slice (some ⟨w.heap.size + 1, 0, none⟩) 64 64) Y → Calls Tryd.prog 53 #[.slice (some ⟨w.heap.size + 1, 0, none⟩) 64 64, .int .i64 (n : Int), .int .i64 512] W fun e w' => e = .returned (.tuple #[]) ∧ OwnB w' w.heap.size 5 (.slice (some ⟨w.heap.size + 1, 0, none⟩) 64 64) (inoMap n) ∧ Chg (w.heap.size + 1) (w.heap.size + 1 + 1) W w') := hF
  clear hF e1 e2 HD hl1 hby
  go_upto_region 3 with fail
  have o3 : OwnB w2.drew w.heap.size 5 (.slice (some ⟨w.heap.size + 1, 0, none⟩) 64 64) Y := o2.chg (Chg.drew (Chg.refl 0 0 w2)) (by intro g _; omega)
  have HS : Hid ((fun w' : World => w'.heap[w.heap.size]? = some (.cells #[.int .i64 b, .int .i64 l, .int .i64 (n : Int)] 29 (0, 0))) w2.drew) := HB2.out
  have C3 : Chg 0 0 w w2.drew := C2.drew
  refine held_region (fun w' : World => w'.heap[w.heap.size]? = some (.cells #[.int .i64 b, .int .i64 l, .int .i64 (n : Int)] 29 (0, 0))) (by kernel_rfl) ?_
  have hlt3 : w.heap.size + 1 < w2.drew.heap.size := hlt2
  clear C2 o2 HB2 hlt2
  generalize w2.drew = X at *
  refine held_take 0 (.slice (some ⟨w.heap.size + 1, 0, none⟩) 64 64) rfl (by kernel_rfl) (by kernel_rfl) (by kernel_rfl) (fun _ _ _ h => h) (.inl ⟨by kernel_rfl, fun w' hw' => by go_simp⟩) HS.out ?_
  go_simp
  refine held_take 1 (.pointer (some ⟨w.heap.size, 2, none⟩)) rfl (by kernel_rfl) (by kernel_rfl) (by kernel_rfl) (fun _ _ _ h => h) (.inl ⟨by kernel_rfl, fun w' hw' => by go_simp⟩) HS.out ?_
  go_simp
  refine held_take 2 (.int .i64 (n : Int)) rfl (by kernel_rfl) (by kernel_rfl) (by kernel_rfl) (fun _ _ _ h => h) (.inl ⟨by kernel_rfl, fun w' hw' => by have h4 := (trio hw').2.2; go_simp⟩) HS.out ?_
  go_simp
  refine held_take 3 (.slice (some ⟨w.heap.size + 1, 0, none⟩) 64 64) rfl (by kernel_rfl) (by kernel_rfl) (by kernel_rfl) (fun _ _ _ h => h) (.inl ⟨by kernel_rfl, fun w' hw' => by go_simp⟩) HS.out ?_
  go_simp
  refine held_one 4 rfl rfl (by kernel_rfl) ?_
  refine wp_enter 54 #[.slice (some ⟨w.heap.size + 1, 0, none⟩) 64 64] (by first | kernel_rfl | go_simp) (size_calls X _ 64 64 (by omega)) ?_
  rintro e x2 ⟨rfl, rfl⟩
  refine ⟨_, rfl, HS.out, ?_⟩
  go_simp
  refine held_one 5 rfl rfl (by kernel_rfl) ?_
  refine wp_enter 53 #[.slice (some ⟨w.heap.size + 1, 0, none⟩) 64 64, .int .i64 (n : Int), .int .i64 512] (by first | kernel_rfl | go_simp) (HF.out _ o3) ?_
  rintro e x3 ⟨rfl, o4, c4⟩
  have HO : Hid (OwnB x3 w.heap.size 5 (.slice (some ⟨w.heap.size + 1, 0, none⟩) 64 64) (inoMap n)) := o4
  have HC : Hid (Chg 0 0 w x3) := C3.step c4 (by omega)
  refine ⟨_, rfl, (c4.block _ (by omega) (by omega)).trans HS.out, ?_⟩
  clear o4 c4 o3 C3
  go_simp
  refine held_done (by kernel_rfl) (NoPanic.normal ?_)
  go_wp2
  go_ret
  exact ⟨_, rfl, HO.out, HC.out⟩

/-- The map of blocks of a new disk. -/
def blkMap (mb D b : Nat) : List Int := onTo (onTo (List.replicate (64 * mb) 0) 0 D) b (512 * mb - b)

set_option maxRecDepth 20000 in
set_option maxHeartbeats 2000000 in
theorem newBlockMap_calls (w : World) (b mb D : Nat) (l n p0 p1 p3 p4 p6 : Int) (hmb : mb ≤ 4) (hm0 : 0 < mb) (hD : D ≤ 512 * mb) (hb : b ≤ 512 * mb) :
    Calls Tryd.prog 28 #[geoV b l n, plV p0 p1 mb p3 p4 D p6] w fun e w' => ∃ g, e = .returned (.slice (some ⟨g, 0, none⟩) (64 * mb) (64 * mb)) ∧ OwnB w' w.heap.size 5 (.slice (some ⟨g, 0, none⟩) (64 * mb) (64 * mb)) (blkMap mb D b) ∧ Chg 0 0 w w' := by
  obtain ⟨i, hi, hz0, hz1, hz2⟩ := info_parts Tryd.infoU
  obtain ⟨L, HL⟩ : ∃ L, Hid (64 * mb = L) := ⟨_, rfl⟩
  have hLi : (mb : Int) * 64 = (L : Int) := by have := HL.out; omega
  have hLb : L ≤ 256 := by have := HL.out; omega
  have hL0 : 0 < L := by have := HL.out; omega
  rw [HL.out]
  have HDf : Hid (blkMap mb D b = onTo (onTo (List.replicate L 0) 0 D) b (8 * L - b)) := by show _ = _; unfold blkMap; rw [HL.out, show 512 * mb = 8 * L by have := HL.out; omega]
  have hD8 : D ≤ 8 * L := by have := HL.out; omega
  have hb8 : b ≤ 8 * L := by have := HL.out; omega
  have HB0 : Hid (((w.alloc (.cells #[.int .i64 (b : Int), .int .i64 l, .int .i64 n] 29)).alloc (.cells #[.int .i64 p0, .int .i64 p1, .int .i64 (mb : Int), .int .i64 p3, .int .i64 p4, .int .i64 (D : Int), .int .i64 p6] 36)).heap[w.heap.size]? = some (.cells #[.int .i64 (b : Int), .int .i64 l, .int .i64 n] 29 (0, 0)) ∧
    ((w.alloc (.cells #[.int .i64 (b : Int), .int .i64 l, .int .i64 n] 29)).alloc (.cells #[.int .i64 p0, .int .i64 p1, .int .i64 (mb : Int), .int .i64 p3, .int .i64 p4, .int .i64 (D : Int), .int .i64 p6] 36)).heap[w.heap.size + 1]? = some (.cells #[.int .i64 p0, .int .i64 p1, .int .i64 (mb : Int), .int .i64 p3, .int .i64 p4, .int .i64 (D : Int), .int .i64 p6] 36 (0, 0))) := (alloc2 w _ _).2
  have s2 : ((w.alloc (.cells #[.int .i64 (b : Int), .int .i64 l, .int .i64 n] 29)).alloc (.cells #[.int .i64 p0, .int .i64 p1, .int .i64 (mb : Int), .int .i64 p3, .int .i64 p4, .int .i64 (D : Int), .int .i64 p6] 36)).heap.size = w.heap.size + 2 := (alloc2 w _ _).1
  clear hD hb
  go_enter Tryd.func28, Tryd.ntmps28
  go_wp2_with (at_make; refine wpList_make_full _ rfl _ _ 68 rfl w.heap.size 5 i (.int .u8 0) 1 Tryd.underlying68 hi hz0 hz1 _ _ _ _ L rfl rfl rfl rfl (by rw [hz2]; omega) (by unfold maxLen; omega) (by rw [s2]; omega) ?_)
  intro w1 hown hgrow
  have O1 := own_made' hown
  have C1 : Chg 0 0 w w1 := ((Chg.alloc (Chg.refl 0 0 w) _).alloc _).trans (Chg.ofGrown hgrow (by simp))
  have HBx : Hid (w1.heap[w.heap.size]? = some (.cells #[.int .i64 (b : Int), .int .i64 l, .int .i64 n] 29 (0, 0))) := (hgrow.block w.heap.size (by rw [s2]; omega) (by simp)).trans HB0.out.1
  have HBy : Hid (w1.heap[w.heap.size + 1]? = some (.cells #[.int .i64 p0, .int .i64 p1, .int .i64 (mb : Int), .int .i64 p3, .int .i64 p4, .int .i64 (D : Int), .int .i64 p6] 36 (0, 0))) := (hgrow.block (w.heap.size + 1) (by rw [s2]; omega) (by simp)).trans HB0.out.2
  have hlt : w.heap.size + 2 < w1.heap.size := (O1.lt _ rfl).2
  clear hown hgrow HB0 s2
  have hP := fill_calls w1 (List.replicate L 0) w.heap.size (w.heap.size + 2) L 0 D (zeros_byt L) (by rw [List.length_replicate]; omega) (by rw [List.length_replicate]; exact O1)
  rw [List.length_replicate] at hP
  have e1 : cutA L 0 = 0 := by unfold cutA; omega
  have e2 : cutE L 0 (D : Int) = D := by unfold cutE; rw [e1]; omega
  rw [e1, e2, Nat.sub_zero] at hP
  obtain ⟨hl1, hby⟩ := onTo_facts (ys := List.replicate L 0) (A := 0) (zeros_byt L) (by rw [List.length_replicate]; omega) D (by rw [List.length_replicate]; omega)
  rw [List.length_replicate] at hl1
  generalize onTo (List.replicate L 0) 0 D = Y at *
  have cD : w1.cell? ⟨w.heap.size + 1, 5, none⟩ = some (.int .i64 (D : Int)) := by have h := HBy.out; simp [World.cell?, h]
  clear O1 e1 e2
  go_wp2_with fail
  refine hP.mono ?_
  rintro e w2 ⟨rfl, o2, c2⟩
  have C2 : Chg 0 0 w w2 := C1.step c2 (by omega)
  have HB2 : Hid (w2.heap[w.heap.size]? = some (.cells #[.int .i64 (b : Int), .int .i64 l, .int .i64 n] 29 (0, 0))) := (c2.block _ (by omega) (by omega)).trans HBx.out
  have hlt2 := Nat.lt_of_lt_of_le hlt c2.size
  clear hP c2 HBx HBy C1 hlt cD
  have hF := fun W (h : OwnB W w.heap.size 5 (.slice (some ⟨w.heap.size + 2, 0, none⟩) L L) Y) => fill_calls W Y w.heap.size (w.heap.size + 2) L b (8 * (L : Int)) hby (by omega) (by rw [hl1]; exact h)
  rw [hl1] at hF
  have e1 : cutA L (b : Int) = b := by unfold cutA; omega
  have e2 : cutE L (b : Int) (8 * (L : Int)) = 8 * L := by unfold cutE; rw [e1]; omega
  rw [e1, e2, ← HDf.out] at hF
  have HF : Hid (∀ W, OwnB W w.heap.size 5 (.slice (some ⟨w.heap.size + 2, 0, none⟩) L L) Y → Calls Tryd.prog 53 #[.slice (some ⟨w.heap.size + 2, 0, none⟩) L L, .int .i64 (b : Int), .int .i64 (8 * (L : Int))] W fun e w' => e = .returned (.tuple #[]) ∧ OwnB w' w.heap.size 5 (.slice (some ⟨w.heap.size + 2, 0, none⟩) L L) (blkMap mb D b) ∧ Chg (w.heap.size + 2) (w.heap.size + 2 + 1) W w') := hF
  clear hF e1 e2 HDf hl1 hby
  go_upto_region 3 with fail
  have o3 : OwnB w2.drew w.heap.size 5 (.slice (some ⟨w.heap.size + 2, 0, none⟩) L L) Y := o2.chg (Chg.drew (Chg.refl 0 0 w2)) (by intro g _; omega)
  have HS : Hid ((fun w' : World => w'.heap[w.heap.size]? = some (.cells #[.int .i64 (b : Int), .int .i64 l, .int .i64 n] 29 (0, 0))) w2.drew) := HB2.out
  have C3 : Chg 0 0 w w2.drew := C2.drew
  refine held_region (fun w' : World => w'.heap[w.heap.size]? = some (.cells #[.int .i64 (b : Int), .int .i64 l, .int .i64 n] 29 (0, 0))) (by kernel_rfl) ?_
  have hlt3 : w.heap.size + 2 < w2.drew.heap.size := hlt2
  clear C2 o2 HB2 hlt2
  generalize w2.drew = X at *
  refine held_take 0 (.slice (some ⟨w.heap.size + 2, 0, none⟩) L L) rfl (by kernel_rfl) (by kernel_rfl) (by kernel_rfl) (fun _ _ _ h => h) (.inl ⟨by kernel_rfl, fun w' hw' => by go_simp⟩) HS.out ?_
  go_simp
  refine held_take 1 (.pointer (some ⟨w.heap.size, 0, none⟩)) rfl (by kernel_rfl) (by kernel_rfl) (by kernel_rfl) (fun _ _ _ h => h) (.inl ⟨by kernel_rfl, fun w' hw' => by go_simp⟩) HS.out ?_
  go_simp
  refine held_take 2 (.int .i64 (b : Int)) rfl (by kernel_rfl) (by kernel_rfl) (by kernel_rfl) (fun _ _ _ h => h) (.inl ⟨by kernel_rfl, fun w' hw' => by have h4 := (trio hw').1; go_simp⟩) HS.out ?_
  go_simp
  refine held_take 3 (.slice (some ⟨w.heap.size + 2, 0, none⟩) L L) rfl (by kernel_rfl) (by kernel_rfl) (by kernel_rfl) (fun _ _ _ h => h) (.inl ⟨by kernel_rfl, fun w' hw' => by go_simp⟩) HS.out ?_
  go_simp
  refine held_one 4 rfl rfl (by kernel_rfl) ?_
  refine wp_enter 54 #[.slice (some ⟨w.heap.size + 2, 0, none⟩) L L] (by first | kernel_rfl | go_simp) (size_calls X _ L L (by omega)) ?_
  rintro e x2 ⟨rfl, rfl⟩
  refine ⟨_, rfl, HS.out, ?_⟩
  go_simp
  refine held_one 5 rfl rfl (by kernel_rfl) ?_
  refine wp_enter 53 #[.slice (some ⟨w.heap.size + 2, 0, none⟩) L L, .int .i64 (b : Int), .int .i64 (8 * (L : Int))] (by first | kernel_rfl | go_simp) (HF.out _ o3) ?_
  rintro e x3 ⟨rfl, o4, c4⟩
  have HO : Hid (OwnB x3 w.heap.size 5 (.slice (some ⟨w.heap.size + 2, 0, none⟩) L L) (blkMap mb D b)) := o4
  have HC : Hid (Chg 0 0 w x3) := C3.step c4 (by omega)
  refine ⟨_, rfl, (c4.block _ (by omega) (by omega)).trans HS.out, ?_⟩
  clear o4 c4 o3 C3
  go_simp
  refine held_done (by kernel_rfl) (NoPanic.normal ?_)
  go_wp2
  go_ret
  exact ⟨_, rfl, HO.out, HC.out⟩

end Go.Proofs.YtaciallijnhieaaDoor

namespace Go.Proofs.YtaciallijnhieaaDoor
open Go.RowKit

/-- The map of inodes behind k steps of the model's loop; the map of blocks. -/
def inoStep (n : Nat) : Nat → List Int
  | 0 => List.replicate 64 0
  | k + 1 => if k = 0 ∨ n ≤ k then bitP (inoStep n k) ((k : Nat) : Int) true else inoStep n k
def blkStep (L D b : Nat) : Nat → List Int
  | 0 => List.replicate L 0
  | k + 1 => if k < D ∨ b ≤ k then bitP (blkStep L D b k) ((k : Nat) : Int) true else blkStep L D b k

theorem inoStep_mid {n : Nat} : ∀ k, 1 ≤ k → k ≤ n → inoStep n k = bitP (List.replicate 64 0) 0 true
  | 0, h, _ => by omega
  | 1, _, _ => by show (if _ then _ else _) = _; rw [if_pos (Or.inl rfl)]; rfl
  | k + 2, _, hn => by
    show (if _ then _ else _) = _
    rw [if_neg (by omega)]
    exact inoStep_mid (k + 1) (by omega) (by omega)
theorem inoStep_end {n : Nat} (hn : 1 ≤ n) : ∀ j, inoStep n (n + j) = onTo (bitP (List.replicate 64 0) 0 true) n j
  | 0 => inoStep_mid n hn (Nat.le_refl _)
  | j + 1 => by
    show (if n + j = 0 ∨ n ≤ n + j then bitP (inoStep n (n + j)) ((n + j : Nat) : Int) true else inoStep n (n + j)) = bitP _ _ _
    rw [if_pos (Or.inr (Nat.le_add_right _ _)), inoStep_end hn j]
theorem inoStep_all {n : Nat} (hn : 1 ≤ n) (h : n ≤ 512) : inoStep n 512 = inoMap n := by
  have := inoStep_end hn (512 - n)
  rw [show n + (512 - n) = 512 by omega] at this
  exact this

theorem blkStep_low {L D b : Nat} : ∀ k, k ≤ D → blkStep L D b k = onTo (List.replicate L 0) 0 k
  | 0, _ => rfl
  | k + 1, h => by
    show (if _ then _ else _) = bitP _ _ _
    rw [if_pos (Or.inl (by omega)), blkStep_low k (by omega), Nat.zero_add]
theorem blkStep_mid {L D b : Nat} (hb : D ≤ b) : ∀ j, D + j ≤ b → blkStep L D b (D + j) = onTo (List.replicate L 0) 0 D
  | 0, _ => blkStep_low D (Nat.le_refl _)
  | j + 1, h => by
    show (if D + j < D ∨ b ≤ D + j then bitP (blkStep L D b (D + j)) ((D + j : Nat) : Int) true else blkStep L D b (D + j)) = _
    rw [if_neg (by omega)]
    exact blkStep_mid hb j (by omega)
theorem blkStep_end {L D b : Nat} (hb : D ≤ b) : ∀ j, blkStep L D b (b + j) = onTo (onTo (List.replicate L 0) 0 D) b j
  | 0 => by
    have := blkStep_mid (L := L) hb (b - D) (by omega)
    rw [show D + (b - D) = b by omega] at this
    exact this
  | j + 1 => by
    show (if b + j < D ∨ b ≤ b + j then bitP (blkStep L D b (b + j)) ((b + j : Nat) : Int) true else blkStep L D b (b + j)) = bitP _ _ _
    rw [if_pos (Or.inr (Nat.le_add_right _ _)), blkStep_end hb j]
theorem blkStep_all {mb D b : Nat} (hb : D ≤ b) (h : b ≤ 512 * mb) : blkStep (64 * mb) D b (512 * mb) = blkMap mb D b := by
  have := blkStep_end (L := 64 * mb) hb (512 * mb - b)
  rw [show b + (512 * mb - b) = 512 * mb by omega] at this
  exact this

theorem inoStep_facts (n : Nat) : ∀ k, k ≤ 512 → (inoStep n k).length = 64 ∧ Byt (inoStep n k)
  | 0, _ => ⟨List.length_replicate, zeros_byt 64⟩
  | k + 1, h => by
    obtain ⟨h1, h2⟩ := inoStep_facts n k (by omega)
    show (if _ then _ else _ : List Int).length = 64 ∧ Byt (if _ then _ else _)
    split
    · exact ⟨by rw [bitP_in ⟨by rw [h1]; omega, by omega, by rw [h1]; omega⟩, List.length_set, h1], bitP_byt _ _ h2⟩
    · exact ⟨h1, h2⟩
theorem blkStep_facts (L D b : Nat) (hL : L ≤ 2048) : ∀ k, k ≤ 8 * L → (blkStep L D b k).length = L ∧ Byt (blkStep L D b k)
  | 0, _ => ⟨List.length_replicate, zeros_byt L⟩
  | k + 1, h => by
    obtain ⟨h1, h2⟩ := blkStep_facts L D b hL k (by omega)
    show (if _ then _ else _ : List Int).length = L ∧ Byt (if _ then _ else _)
    split
    · exact ⟨by rw [bitP_in ⟨by rw [h1]; omega, by omega, by rw [h1]; omega⟩, List.length_set, h1], bitP_byt _ _ h2⟩
    · exact ⟨h1, h2⟩

end Go.Proofs.YtaciallijnhieaaDoor

namespace Go.Proofs.YtaciallijnhieaaDoor
open Go.RowKit Go.Shelf

theorem own_up {β : Type} {B B' : Nat} {I : β → World → Prop} (h : OwnFrom B I) (hB : B ≤ B') : OwnFrom B' I :=
  fun s A C row hs hg hr => h s A C row hs hg (fun r e => ⟨Nat.le_trans hB (hr r e).1, (hr r e).2⟩)

/-- What is cells stays where what is none is turned. -/
theorem cells_stay {A B : World} {row : Option Nat} {k : Nat} {cs : Array Value} {t : TypeId} {fr : Nat × Nat} (h : A.heap[k]? = some (.cells cs t fr)) (hg : A.grownBy B row) (hr : ∀ r, row = some r → ∃ o : Obj, A.heap[r]? = some o ∧ o.isCells = false) : B.heap[k]? = some (.cells cs t fr) := by
  refine (hg.block k (Array.getElem?_eq_some_iff.1 h).1 (fun e => ?_)).trans h
  obtain ⟨o, ho, hc⟩ := hr _ e.symm
  rw [h] at ho
  cases ho
  cases hc

/-- Of the blocks lo .. M - 1 none has turned. -/
structure KeepM (lo M : Nat) (V W : World) : Prop where
  size : V.heap.size ≤ W.heap.size
  same : ∀ k, lo ≤ k → k < M → W.heap[k]? = V.heap[k]?
theorem KeepM.refl (lo M : Nat) (V : World) : KeepM lo M V V := ⟨Nat.le_refl _, fun _ _ _ => rfl⟩
theorem KeepM.trans {lo M : Nat} {A B C : World} (h : KeepM lo M A B) (k : KeepM lo M B C) : KeepM lo M A C := ⟨Nat.le_trans h.size k.size, fun i h1 h2 => (k.same i h1 h2).trans (h.same i h1 h2)⟩
theorem KeepM.sub {lo lo' M M' : Nat} {A B : World} (h : KeepM lo M A B) (hl : lo ≤ lo') (hM : M' ≤ M) : KeepM lo' M' A B := ⟨h.size, fun i h1 h2 => h.same i (Nat.le_trans hl h1) (Nat.lt_of_lt_of_le h2 hM)⟩
theorem KeepM.put {lo M l : Nat} (A : World) (o : Obj) (hl : l < lo ∨ M ≤ l) : KeepM lo M A (A.putObj l o) := ⟨by simp, fun i h1 h2 => World.putObj_heap_other (by omega)⟩
theorem KeepM.chg {lo M l r : Nat} {A B : World} (c : Chg l r A B) (hM : M ≤ A.heap.size) (hd : r ≤ lo ∨ M ≤ l ∨ r ≤ l) : KeepM lo M A B := ⟨c.size, fun i h1 h2 => c.block i (Nat.lt_of_lt_of_le h2 hM) (by omega)⟩

/-- A round is the same at every room where no depth is asked. -/
theorem round_any {n m : Nat} {P : Program} {l : Nat} {f : FuncId} {tmps : Array Value} {assign body : Code} {w : World} {R : Ending → World → Prop} (h : RoundIn Fence.wide n P l f tmps assign body w R) (l' : Nat) : RoundIn (Fence.wide.inRound l') m P l f tmps assign body w R :=
  ⟨h.1, fun c cs _ => h.2 c cs (fun d hd => by cases hd)⟩
theorem round_wide {n m : Nat} {P : Program} {l : Nat} {f : FuncId} {tmps : Array Value} {assign body : Code} {w : World} {R : Ending → World → Prop} (h : RoundIn Fence.wide n P l f tmps assign body w R) : RoundIn Fence.wide m P l f tmps assign body w R :=
  ⟨h.1, fun c cs _ => h.2 c cs (fun d hd => by cases hd)⟩

/-- What a call of yield with these arguments does, whatever room there is. -/
def Yields (P : Program) (l : Nat) (args : Array Value) (W : World) (R : Ending → World → Prop) : Prop :=
  ∃ fn tmps assign body, (Instr.yield l args).run P W = .ok (.round l fn tmps assign body) W ∧ RoundIn Fence.wide 0 P l fn tmps assign body W R

/-- What does not hang on the blocks lo .. M - 1. -/
def FreeM {β : Type} (lo M : Nat) (I : β → World → Prop) : Prop := ∀ s A C, I s A → Chg lo M A C → M ≤ A.heap.size → I s C

/-- A function to range over: what it hands out, whatever its caller keeps (J) between the rounds; M: up to where the function's own blocks lie, which no round turns; Kp: what else a round keeps. -/
def Seq {α : Type} (P : Program) (g : Nat) (lb : Array Value) (encs : α → Array Value) (Kp : World → World → Prop) (S Sp : List α → Prop) (N : Nat) (w : World) : Prop :=
  ∀ (l : Nat) (J Jx : Nat → List α → World → Prop) (W : World), Below w.heap.size w W → (∀ M, OwnFrom W.heap.size (J M)) → (∀ M, OwnFrom W.heap.size (Jx M)) → (∀ M, FreeM W.heap.size M (J M)) → (∀ M, FreeM W.heap.size M (Jx M)) →
    (∀ M pre x V, W.heap.size ≤ M → M ≤ V.heap.size → J M pre V → pre.length < N → Yields P l (encs x) V fun e V' => (KeepM W.heap.size M V V' ∧ Kp V V') ∧ ((e = .returned (.bool true) ∧ J M (pre ++ [x]) V') ∨ (e = .returned (.bool false) ∧ Jx M (pre ++ [x]) V'))) →
    (∀ V, Below W.heap.size W V → J V.heap.size [] V) →
    CallsIn Fence.wide 0 P g (#[.func (.yield l) #[] #[]] ++ lb) W fun e W' => (∃ v, e = .returned v) ∧ ((∃ M xs, S xs ∧ J M xs W') ∨ (∃ M pre, Sp pre ∧ Jx M pre W'))

/-- How a round's body may be left. -/
def Left {α : Type} (lo M : Nat) (Kp : World → World → Prop) (I : List α → World → Prop) (Ix : Code → List α → World → Prop) (xs : List α) (W : World) : Exit → Act → World → Prop
  | .normal, _, W' => (KeepM lo M W W' ∧ Kp W W') ∧ I xs W'
  | .ret, _, W' => (KeepM lo M W W' ∧ Kp W W') ∧ Ix .ret xs W'
  | .exit id, _, W' => (KeepM lo M W W' ∧ Kp W W') ∧ Ix (.exit id) xs W'
  | .goto t, _, W' => (KeepM lo M W W' ∧ Kp W W') ∧ Ix (.goto t) xs W'
  | .panic _, _, _ => False
  | .outgrown, _, _ => False

/-- The record of a loop that stands at l; D: its block of deferred calls. -/
structure Rcd (l D : Nat) (r : Loop) (W : World) : Prop where
  lp : W.heap[l]? = some (.loop r)
  df : W.heap[D]? = some (.deferred (some []))
theorem Rcd.own {l D B : Nat} {r : Loop} (hl : l < B) (hD : D < B) : OwnFrom (β := Unit) B (fun _ W => Rcd l D r W) := fun _ A C row hs hg hr =>
  ⟨(hg.block l (Array.getElem?_eq_some_iff.1 hs.lp).1 (fun e => by have := (hr _ e.symm).1; omega)).trans hs.lp, (hg.block D (Array.getElem?_eq_some_iff.1 hs.df).1 (fun e => by have := (hr _ e.symm).1; omega)).trans hs.df⟩
theorem Rcd.put {l D : Nat} {r r' : Loop} {W : World} (h : Rcd l D r W) (hne : D ≠ l) : Rcd l D r' (W.putObj l (.loop r')) :=
  ⟨World.putObj_heap_same (Array.getElem?_eq_some_iff.1 h.lp).1, (World.putObj_heap_other hne).trans h.df⟩
theorem Rcd.kept {lo M l D : Nat} {r : Loop} {V W : World} (h : Rcd l D r V) (k : KeepM lo M V W) (hl : lo ≤ l ∧ l < M) (hD : lo ≤ D ∧ D < M) : Rcd l D r W := ⟨(k.same _ hl.1 hl.2).trans h.lp, (k.same _ hD.1 hD.2).trans h.df⟩

section
variable {α : Type} {P : Program} {n : Nat} {encs : α → Array Value} {Kp : World → World → Prop} {I : List α → World → Prop} {Ix : Code → List α → World → Prop}

/-- One round. -/
theorem round_own {assign body : Code} {ps : Array Tmp} {tmps : Array Value} {fn : FuncId} {B M : Nat} (r : Loop) (hr : r.state = .ready) (hpend : r.pending = none) (hrf : r.fn = fn) (hrt : r.tmps = tmps) (hrp : r.params = ps) (hra : r.assign = assign) (hrb : r.body = body) (hM : B + 2 ≤ M)
    (hps : ∀ x, (encs x).size = ps.size) (hKt : ∀ {A B C : World}, Kp A B → Kp B C → Kp A C) (hKb : ∀ (W : World) (o : Obj), Kp W (W.putObj (B + 1) o))
    (hI : OwnFrom B I) (hIx : ∀ c, OwnFrom B (Ix c)) (Ax : α → Act → World → Prop) (hAx : ∀ x a', OwnFrom B (fun (_ : Unit) W => Ax x a' W)) {pre : List α} {x : α} {W : World} (hrec : Rcd (B + 1) B r W) (hMW : M ≤ W.heap.size)
    (hassign : ∀ (K : Act → World → Prop), (∀ a' W', KeepM B M W W' → Kp W W' → I pre W' → Ax x a' W' → K a' W') →
      assign.wpIn (Fence.wide.inRound (B + 1)) n P (Exit.then K (fun _ _ _ => False)) { tmps := (ps.zip (encs x)).foldl (fun t (p, v) => t.setIfInBounds p v) tmps, defers := [] } W)
    (hbody : ∀ (a' : Act) (W : World), M ≤ W.heap.size → I pre W → Ax x a' W → body.wpIn (Fence.wide.inRound (B + 1)) n P (Left B M Kp I Ix (pre ++ [x]) W) a' W) :
    Yields P (B + 1) (encs x) W fun e W' => (KeepM (B + 2) M W W' ∧ Kp W W') ∧ ((e = .returned (.bool true) ∧ I (pre ++ [x]) W' ∧ Rcd (B + 1) B r W') ∨ (e = .returned (.bool false) ∧ ∃ c, Ix c (pre ++ [x]) W' ∧ Rcd (B + 1) B { r with state := .done, pending := some c } W')) := by
  have hy := run_yield (P := P) (args := encs x) hrec.lp (by rw [hrp]; exact hps x)
  rw [hrf, hrt, hrp, hra, hrb] at hy
  refine ⟨fn, _, assign, body, hy, round_wide (roundIn_of_wpIn (n := n) trivial (hassign _ ?_))⟩
  intro a' W1 hk1 hp1 hi1 hax
  have r1 := hrec.kept hk1 (by omega) (by omega)
  refine ⟨_, run_beginRound r1.lp hr, ?_⟩
  have r2 : Rcd (B + 1) B { r with state := .busy } (W1.putObj (B + 1) (.loop { r with state := .busy })) := r1.put (by omega)
  refine wpIn_mono (hbody a' _ (by have := hk1.size; simp; omega) (hI.putObj _ hi1 (Nat.le_succ _) r1.lp rfl) ((hAx x a').putObj (s := ()) _ hax (Nat.le_succ _) r1.lp rfl)) ?_
  have big : ∀ (W3 : World) (o : Obj), (KeepM B M (W1.putObj (B + 1) (.loop { r with state := .busy })) W3 ∧ Kp (W1.putObj (B + 1) (.loop { r with state := .busy })) W3) →
      Rcd (B + 1) B { r with state := .busy } W3 ∧ (KeepM (B + 2) M W (W3.putObj (B + 1) o) ∧ Kp W (W3.putObj (B + 1) o)) := by
    intro W3 o ⟨k3, p3⟩
    refine ⟨r2.kept k3 (by omega) (by omega), ?_, hKt hp1 (hKt (hKb _ _) (hKt p3 (hKb _ _)))⟩
    exact (((hk1.sub (by omega) (Nat.le_refl _)).trans (KeepM.put _ _ (by omega))).trans (k3.sub (by omega) (Nat.le_refl _))).trans (KeepM.put _ _ (by omega))
  rintro e a3 W3 hp
  cases e with
  | normal =>
    obtain ⟨hk3, hi3⟩ := hp
    obtain ⟨r3, hb⟩ := big W3 _ hk3
    refine ⟨_, _, run_endRound none r3.lp, hb, Or.inl ⟨rfl, hI.putObj _ hi3 (Nat.le_succ _) r3.lp rfl, ?_⟩⟩
    have := r3.put (r' := { { r with state := .busy } with state := if (none : Option Code).isNone then .ready else .done, pending := none }) (by omega)
    have e : ({ { r with state := .busy } with state := if (none : Option Code).isNone then .ready else .done, pending := none } : Loop) = r := by cases r; simp_all
    rw [e] at this ⊢
    exact this
  | ret =>
    obtain ⟨hk3, hi3⟩ := hp
    obtain ⟨r3, hb⟩ := big W3 _ hk3
    exact ⟨_, _, run_endRound (some .ret) r3.lp, hb, Or.inr ⟨rfl, .ret, (hIx _).putObj _ hi3 (Nat.le_succ _) r3.lp rfl, r3.put (by omega)⟩⟩
  | exit id =>
    obtain ⟨hk3, hi3⟩ := hp
    obtain ⟨r3, hb⟩ := big W3 _ hk3
    exact ⟨_, _, run_endRound (some (.exit id)) r3.lp, hb, Or.inr ⟨rfl, .exit id, (hIx _).putObj _ hi3 (Nat.le_succ _) r3.lp rfl, r3.put (by omega)⟩⟩
  | goto t =>
    obtain ⟨hk3, hi3⟩ := hp
    obtain ⟨r3, hb⟩ := big W3 _ hk3
    exact ⟨_, _, run_endRound (some (.goto t)) r3.lp, hb, Or.inr ⟨rfl, .goto t, (hIx _).putObj _ hi3 (Nat.le_succ _) r3.lp rfl, r3.put (by omega)⟩⟩
  | panic ch => exact hp.elim
  | outgrown => exact hp.elim

/-- The loop. -/
theorem range_own {g : Operand} {ps : Array Tmp} {assign body : Code} {Q : Exit → Act → World → Prop} {a : Act} {w : World} {gf : Nat} {lb : Array Value} (hg : a.eval g = .func (.func gf) #[] lb) (eg : ∀ args w, (callFunc gf args).run P w = .ok (.enter gf args) w)
    {S Sp : List α → Prop} {N : Nat} {w0 : World} (hseq : Seq P gf lb encs Kp S Sp N w0) (hb0 : Below w0.heap.size w0 w) (hps : ∀ x, (encs x).size = ps.size) (hKt : ∀ {A B C : World}, Kp A B → Kp B C → Kp A C) (hKb : ∀ (W : World) (o : Obj), Kp W (W.putObj (w.heap.size + 1) o))
    (I : Nat → List α → World → Prop) (Ix : Nat → Code → List α → World → Prop) (hI : ∀ M, OwnFrom w.heap.size (I M)) (hIx : ∀ M c, OwnFrom w.heap.size (Ix M c)) (hIF : ∀ M, FreeM (w.heap.size + 2) M (I M)) (hIxF : ∀ M c, FreeM (w.heap.size + 2) M (Ix M c)) (h0 : ∀ V, Below w.heap.size w V → w.heap.size + 2 ≤ V.heap.size → I V.heap.size [] V) (Ax : α → Act → World → Prop) (hAx : ∀ x a', OwnFrom w.heap.size (fun (_ : Unit) W => Ax x a' W))
    (hassign : ∀ (M l : Nat) (pre : List α) (x : α) (W : World) (K : Act → World → Prop), w.heap.size + 2 ≤ M → M ≤ W.heap.size → I M pre W → (∀ a' W', KeepM w.heap.size M W W' → Kp W W' → I M pre W' → Ax x a' W' → K a' W') →
      assign.wpIn (Fence.wide.inRound l) 0 P (Exit.then K (fun _ _ _ => False)) { tmps := (ps.zip (encs x)).foldl (fun t (p, v) => t.setIfInBounds p v) a.tmps, defers := [] } W)
    (hbody : ∀ (M l : Nat) (pre : List α) (x : α) (a' : Act) (W : World), w.heap.size + 2 ≤ M → M ≤ W.heap.size → I M pre W → Ax x a' W → pre.length < N → body.wpIn (Fence.wide.inRound l) 0 P (Left w.heap.size M Kp (I M) (Ix M) (pre ++ [x]) W) a' W)
    (hdone : ∀ (M D : Nat) (xs : List α) (W : World), w.heap.size ≤ D → S xs → I M xs W → W.heap[D]? = some (.deferred (some [])) → Q .normal { a with defers := { target := .collected D, args := #[] } :: a.defers } W)
    (hstop : ∀ (M D : Nat) (c : Code) (pre : List α) (W : World), w.heap.size ≤ D → Sp pre → Ix M c pre W → W.heap[D]? = some (.deferred (some [])) → c.wpIn Fence.wide n P Q { a with defers := { target := .collected D, args := #[] } :: a.defers } W) :
    (Code.rangeFunc g ps assign body).wpIn Fence.wide n P Q a w := by
  refine wpIn_rangeFunc ?_
  intro fn _
  obtain ⟨r, hr⟩ : ∃ r : Loop, r = { state := .ready, pending := none, fn, tmps := a.tmps, params := ps, assign, body, defers := w.heap.size } := ⟨_, rfl⟩
  obtain ⟨z, z1, z2⟩ := alloc2 w (.deferred (some [])) (.loop r)
  have hR0 : Rcd (w.heap.size + 1) w.heap.size r ((w.alloc (.deferred (some []))).alloc (.loop r)) := ⟨z2, z1⟩
  have hBw : Below w.heap.size w ((w.alloc (.deferred (some []))).alloc (.loop r)) := ((Below.refl _ w).alloc (Nat.le_refl _) _).alloc (by simp) _
  have hB0 : Below w0.heap.size w0 ((w.alloc (.deferred (some []))).alloc (.loop r)) := hb0.trans (hBw.mono hb0.size)
  refine ⟨w.heap.size + 1, [{ target := .collected w.heap.size, args := #[] }], (w.alloc (.deferred (some []))).alloc (.loop r), { target := .fn (.func gf) lb, args := #[.func (.yield (w.heap.size + 1)) #[] #[]] }, (w.alloc (.deferred (some []))).alloc (.loop r), gf,
    #[.func (.yield (w.heap.size + 1)) #[] #[]] ++ lb, (w.alloc (.deferred (some []))).alloc (.loop r), by rw [hr]; exact run_enterLoop_outer _ _ _ _ _, ?_, (fun _ _ => trivial), ?_, (fun h => by cases h), ?_⟩
  · simp only [resolve, hg]
    simp [go_sem]
  · simp [invoke, go_sem, eg]
  generalize (w.alloc (.deferred (some []))).alloc (.loop r) = W1 at *
  have hcall := hseq (w.heap.size + 1) (fun M pre W => I M pre W ∧ Rcd (w.heap.size + 1) w.heap.size r W)
    (fun M pre W => ∃ c, Ix M c pre W ∧ Rcd (w.heap.size + 1) w.heap.size { r with state := .done, pending := some c } W) W1 hB0
    (fun M s A C row hs hg' hr' => ⟨hI M s A C row hs.1 hg' (fun q e => ⟨by have := (hr' q e).1; omega, (hr' q e).2⟩), Rcd.own (B := W1.heap.size) (by omega) (by omega) () A C row hs.2 hg' hr'⟩)
    (fun M s A C row hs hg' hr' => by
      obtain ⟨c, hc, hrc⟩ := hs
      exact ⟨c, hIx M c s A C row hc hg' (fun q e => ⟨by have := (hr' q e).1; omega, (hr' q e).2⟩), Rcd.own (B := W1.heap.size) (by omega) (by omega) () A C row hrc hg' hr'⟩)
    (fun M s A C hs hc hm => ⟨hIF M s A C hs.1 (by rw [z] at hc; exact hc) hm, ⟨(hc.block _ (Array.getElem?_eq_some_iff.1 hs.2.lp).1 (by omega)).trans hs.2.lp, (hc.block _ (Array.getElem?_eq_some_iff.1 hs.2.df).1 (by omega)).trans hs.2.df⟩⟩)
    (fun M s A C hs hc hm => by
      obtain ⟨c, h1, h2⟩ := hs
      exact ⟨c, hIxF M c s A C h1 (by rw [z] at hc; exact hc) hm, ⟨(hc.block _ (Array.getElem?_eq_some_iff.1 h2.lp).1 (by omega)).trans h2.lp, (hc.block _ (Array.getElem?_eq_some_iff.1 h2.df).1 (by omega)).trans h2.df⟩⟩)
    (by
      intro M pre x V hM hMV hJ hlen
      obtain ⟨hi, hrec⟩ := hJ
      have hround := round_own (n := 0) (P := P) (encs := encs) (Kp := Kp) (I := I M) (Ix := Ix M) (ps := ps) (assign := assign) (body := body) (tmps := a.tmps) (fn := fn) (B := w.heap.size) (M := M) r (by rw [hr]) (by rw [hr]) (by rw [hr]) (by rw [hr]) (by rw [hr]) (by rw [hr]) (by rw [hr]) (by omega) hps hKt hKb (hI M) (hIx M) Ax hAx (pre := pre) (x := x) hrec hMV
        (fun K hK => hassign M _ pre x V K (by omega) hMV hi hK) (fun a' W hMW hi' hax => hbody M _ pre x a' W (by omega) hMW hi' hax hlen)
      obtain ⟨f', t', as', bo', hy, hR⟩ := hround
      refine ⟨f', t', as', bo', hy, hR.mono ?_⟩
      rintro e V' ⟨⟨hk, hp⟩, hres⟩
      refine ⟨⟨hk.sub (by omega) (Nat.le_refl _), hp⟩, ?_⟩
      rcases hres with ⟨he, hi', hr'⟩ | ⟨he, hx⟩
      · exact Or.inl ⟨he, hi', hr'⟩
      · exact Or.inr ⟨he, hx⟩)
    (fun V hV => ⟨h0 V (hBw.trans (hV.mono (by omega))) (by have := hV.size; omega), ⟨(hV.block _ (by omega)).trans hR0.lp, (hV.block _ (by omega)).trans hR0.df⟩⟩)
  refine (callsIn_wide.2 (callsIn_wide.1 hcall)).mono ?_
  rintro e W2 ⟨⟨v, rfl⟩, (⟨M, xs, hS, hi, hrc⟩ | ⟨M, pre, hSp, c, hi, hrc⟩)⟩
  · refine ⟨_, _, run_endLoop hrc.lp (by rw [hr]; simp), ?_⟩
    rw [show r.pending = none by rw [hr]]
    exact hdone M _ xs _ (Nat.le_refl _) hS ((hI M).putObj _ hi (Nat.le_succ _) hrc.lp rfl) ((World.putObj_heap_other (by omega)).trans hrc.df)
  · exact ⟨_, _, run_endLoop hrc.lp (by simp), hstop M _ c pre _ (Nat.le_refl _) hSp ((hIx M c).putObj _ hi (Nat.le_succ _) hrc.lp rfl) ((World.putObj_heap_other (by omega)).trans hrc.df)⟩
end

end Go.Proofs.YtaciallijnhieaaDoor

namespace Go.Proofs.YtaciallijnhieaaDoor
open Go.RowKit Go.Shelf
attribute [local go_sem] Oper.semAt_some

/-- Blocks that a round keeps. -/
def KeepS (K : Nat → Prop) (W W' : World) : Prop := ∀ k, K k → W'.heap[k]? = W.heap[k]?
theorem KeepS.trans {K : Nat → Prop} {A B C : World} (h : KeepS K A B) (k : KeepS K B C) : KeepS K A C := fun i hi => (k i hi).trans (h i hi)
theorem KeepS.cell {K : Nat → Prop} {W W' : World} (h : KeepS K W W') {p : Addr} (hp : K p.block) : W'.cell? p = W.cell? p := World.cell?_of_block (h _ hp)

/-- Piece i of 64 bytes. -/
def encPc (b off cap : Nat) {K : Nat} (x : Fin K) : Array Value := #[.slice (some ⟨b, off + 64 * x.val, none⟩) 64 (cap - 64 * x.val)]

set_option maxRecDepth 100000 in
set_option maxHeartbeats 2000000 in
theorem pieces_seq (Bd Bn b off cap K : Nat) (w : World) (hK : K ≤ 4096) (hcap : 64 * K ≤ cap) (hc2 : cap ≤ 9223372036854775807)
    (hd : w.cell? ⟨Bd, 0, none⟩ = some (.slice (some ⟨b, off, none⟩) (64 * K) cap)) (hn : w.cell? ⟨Bn, 0, none⟩ = some (.int .i64 64)) :
    Seq Tryd.prog 70 #[.pointer (some ⟨Bd, 0, none⟩), .pointer (some ⟨Bn, 0, none⟩)] (encPc b off cap (K := K)) (KeepS fun k => k = Bd ∨ k = Bn)
      (fun xs => xs.map Fin.val = List.range K) (fun pre => pre.map Fin.val = List.range pre.length) K w := fun l J Jx W hW hJ hJx _ _ hY h0 => by
  have hd2 : W.cell? ⟨Bd, 0, none⟩ = some (.slice (some ⟨b, off, none⟩) (64 * K) cap) := (hW.cell (p := ⟨Bd, 0, none⟩) (lt_of_cell hd)).trans hd
  have hn2 : W.cell? ⟨Bn, 0, none⟩ = some (.int .i64 64) := (hW.cell (p := ⟨Bn, 0, none⟩) (lt_of_cell hn)).trans hn
  have hJ0 := h0 W (Below.refl _ _)
  clear h0 hd hn hW hJ hJx
  refine callsIn_of_wp Tryd.func70 rfl trivial ?_ rfl
  simp only [Tryd.ntmps70, List.size_toArray, List.length_cons, List.length_nil, Nat.reduceAdd, Nat.reduceSub, Array.replicate_succ, Array.replicate_zero, List.push_toArray, List.append_toArray, List.nil_append, List.cons_append]
  gi_wp2
  gi_loopw [4] (fun x wr => ∃ (i : Nat) (pre : List (Fin K)), x = .int .i64 ((64 * i : Nat) : Int) ∧ i ≤ K ∧ pre.map Fin.val = List.range i ∧ W.heap.size ≤ wr.heap.size ∧ wr.cell? ⟨Bd, 0, none⟩ = some (.slice (some ⟨b, off, none⟩) (64 * K) cap) ∧ wr.cell? ⟨Bn, 0, none⟩ = some (.int .i64 64) ∧ J W.heap.size pre wr)
    (fun x _ => 64 * K - (intOf x).toNat)
  case atStart => exact ⟨0, [], rfl, Nat.zero_le _, rfl, Nat.le_refl _, hd2, hn2, hJ0⟩
  case round =>
    clear hd2 hn2 hJ0
    obtain ⟨i, pre, rfl, hi, hpre, hsz, hd, hn, hJp⟩ := hrel
    have hplen : pre.length = i := by have := congrArg List.length hpre; simpa using this
    by_cases hlt : i < K
    · obtain ⟨fn, tmps, assign, body, hy, hR⟩ := hY W.heap.size pre ⟨i, hlt⟩ wr (Nat.le_refl _) hsz hJp (by omega)
      unfold encPc at hy
      simp only at hy
      have Hpre : Hid (pre.map Fin.val = List.range i) := hpre
      obtain ⟨q, hq⟩ : ∃ q, q = 64 * i := ⟨_, rfl⟩
      obtain ⟨L, hL⟩ : ∃ L, L = 64 * K := ⟨_, rfl⟩
      have Hq : Hid (q = 64 * i) := hq
      have HLq : Hid (L = 64 * K) := hL
      have hqL : q + 64 ≤ L := by omega
      have hLb : L ≤ 262144 := by omega
      rw [← hq] at hy ⊢
      rw [← hL] at hd hcap
      have e1 : (q : Int) < (L : Int) := by omega
      have e2 : (q : Int) + 64 ≤ (L : Int) := by omega
      have e3 : (q : Int) + 64 ≤ (cap : Int) := by omega
      clear hY hpre hq hL hi hplen
      gi_wp2
      refine ⟨rfl, hR.mono ?_⟩
      rintro e V ⟨⟨hkm, hkp⟩, (⟨rfl, hJ3⟩ | ⟨rfl, hJx3⟩)⟩
      · have hd3 : V.cell? ⟨Bd, 0, none⟩ = some (.slice (some ⟨b, off, none⟩) L cap) := (hkp.cell (p := ⟨Bd, 0, none⟩) (Or.inl rfl)).trans hd
        have hn3 : V.cell? ⟨Bn, 0, none⟩ = some (.int .i64 64) := (hkp.cell (p := ⟨Bn, 0, none⟩) (Or.inr rfl)).trans hn
        have hs3 := Nat.le_trans hsz hkm.size
        clear hR hy hd hn hkm hkp hJp hsz
        gi_wp2
        go_roundw
        case rel => exact ⟨i + 1, pre ++ [⟨i, hlt⟩], by have := Hq.out; congr 1; omega, hlt, by rw [List.map_append, Hpre.out, List.range_succ]; rfl, hs3, by rw [← HLq.out]; exact hd3, hn3, hJ3⟩
        case measure => have := HLq.out; simp [intOf]; omega
      · gi_wp2
        refine bodyPost_ret (results_none rfl _ _ _) rfl ?_
        refine ⟨⟨_, rfl⟩, .inr ⟨_, pre ++ [⟨i, hlt⟩], ?_, hJx3⟩⟩
        have hl : pre.length = i := by have := congrArg List.length Hpre.out; simpa using this
        rw [List.map_append, Hpre.out, List.length_append, hl]
        exact List.range_succ.symm
    · obtain rfl : i = K := by omega
      have Hpre : Hid (pre.map Fin.val = List.range i) := hpre
      have e1 : ¬ (((64 * i : Nat) : Int) < ((64 * i : Nat) : Int)) := by omega
      generalize 64 * i = L at *
      clear hY hpre hplen
      gi_wp2
      go_end0
      exact ⟨⟨_, rfl⟩, .inl ⟨_, pre, Hpre.out, hJp⟩⟩

end Go.Proofs.YtaciallijnhieaaDoor

namespace Go.Proofs.YtaciallijnhieaaDoor
open Go.RowKit Go.Shelf
attribute [local go_sem] Oper.semAt_some

set_option maxHeartbeats 1000000 in
theorem pieces_calls (w : World) (ao : Option Addr) (n cap : Nat) (m : Int) :
    Calls Tryd.prog 64 #[.slice ao n cap, .int .i64 m] w fun e w' =>
      e = .returned (.func (.func 70) #[] #[.pointer (some ⟨w.heap.size, 0, none⟩), .pointer (some ⟨w.heap.size + 1, 0, none⟩)]) ∧ w' = (w.alloc (.cells #[.slice ao n cap] 24)).alloc (.cells #[.int .i64 m] 3) := by
  go_enter Tryd.func64, Tryd.ntmps64
  go_wp2
  go_ret
  exact ⟨rfl, rfl⟩

theorem arrayAtC (w : World) (a : Addr) (cap : Nat) : (Instr.arrayAt 58 (.slice (some a) 64 cap)).run Tryd.prog w = .ok (.pointer (some a)) w := by
  simp [Instr.arrayAt, run_underlying Tryd.underlying58]

/-- Block x of these bytes. -/
def blkOf (ys : List Int) (x : Nat) : List Int := (ys.drop (64 * x)).take 64
/-- A place, and a block. -/
def encBk (ys : List Int) {K : Nat} (x : Fin K × Fin K) : Array Value := #[.int .i64 (x.1.val : Int), .agg ((blkOf ys x.2.val).map (Value.int .u8)).toArray]
def vals {K : Nat} (zs : List (Fin K × Fin K)) : List (Nat × Nat) := zs.map fun z => (z.1.val, z.2.val)
theorem grown_drew (V : World) : V.grownBy V.drew none := ⟨rfl, rfl, rfl, Nat.le_refl _, fun _ _ _ => rfl⟩
theorem own_pure {β : Type} (B : Nat) (p : β → Prop) : OwnFrom B (fun s (_ : World) => p s) := fun _ _ _ _ hs _ _ => hs

theorem blk_range {W : World} {b off : Nat} {ys : List Int} {K : Nat} (hl : ys.length = 64 * K) (h : ∀ i, i < ys.length → W.cell? ⟨b, off + i, none⟩ = some (.int .u8 (ys.getD i 0))) {x : Nat} (hx : x < K) :
    W.rangeAt b (off + 64 * x) ((blkOf ys x).map (Value.int .u8)) := by
  intro j v hj
  have hjl := (List.getElem?_eq_some_iff.1 hj).1
  rw [List.length_map] at hjl
  have hj64 : j < 64 := by unfold blkOf at hjl; simp only [List.length_take] at hjl; omega
  rw [Nat.add_assoc, h (64 * x + j) (by omega), ← hj, List.getElem?_map]
  unfold blkOf
  rw [List.getElem?_take, if_pos hj64, List.getElem?_drop, List.getElem?_eq_getElem (by omega)]
  simp [List.getD_eq_getElem?_getD, List.getElem?_eq_getElem (show 64 * x + j < ys.length by omega)]

theorem run_load_mid {P : Program} {op : Oper} {a : Act} {w : World} (ty : TypeId) (x : Operand) (ho : op.op = .load ty x) (b o : Nat) (hx : a.eval x = .pointer (some ⟨b, o, none⟩)) (cs : List Value) (hl : (loadVar ty ⟨b, o, none⟩).run P w = .ok (.agg cs.toArray) w) :
    (execOp a.eval op).run P w = .ok (.value (.agg cs.toArray)) w := by
  unfold execOp
  simp only [ho, hx, Instr.loadAt, Instr.sureAddr, Sem.run_bind, Sem.run_pure, Result.andThen_ok, hl]

/-- What the inner loop keeps, of the outer one's J; how it may be left. -/
def cutI (W : World) (l b : Nat) {K : Nat} (J : Nat → List (Fin K × Fin K) → World → Prop) (M : Nat) (pre : List (Fin K)) (V : World) : Prop :=
  (∃ zs, vals zs = (List.range pre.length).zip (pre.map Fin.val) ∧ J M zs V) ∧ (V.heap[W.heap.size]? = some (.cells #[.func (.yield l) #[] #[]] 111 (0, 0)) ∧ V.heap[W.heap.size + 1]? = some (.cells #[.int .i64 (pre.length : Int)] 2 (0, 0))) ∧ KeepS (fun k => k = b) W V
def cutX {K : Nat} (Jx : Nat → List (Fin K × Fin K) → World → Prop) (M : Nat) (c : Code) (_ : List (Fin K)) (V : World) : Prop := c = .ret ∧ ∃ zs, Jx M zs V

section
variable {P : Program} {n l : Nat} {ops : Array Oper} {Q : Exit → Act → World → Prop}
/-- An operation of a round that yields a value and leaves the world. -/
theorem opIn_value {i : Nat} {o : Oper} {a : Act} {w : World} {K : Act → World → Prop} (v : Value) (hi : ops[i]? = some o) (hw : Region.wanted o (yielded ops a.tmps) = true) (hd : ∀ c, o.op ≠ .defer c)
    (hrun : (execOp a.eval o).run P w = .ok (.value v) w) (h : K (a.put o.dst v) w) : wpOpIn (Fence.wide.inRound l) n P ops Q i K a w := by
  unfold wpOpIn
  simp only [hi]
  rw [if_pos hw]
  refine ⟨fun _ _ => trivial, ?_⟩
  rw [Fence.inRound_round, Oper.semAt_some l a.eval o hd, hrun]
  exact h
/-- A call of yield. -/
theorem opIn_round {i : Nat} {o : Oper} {a : Act} {w : World} {K : Act → World → Prop} {l' : Nat} {fn : FuncId} {tmps : Array Value} {assign body : Code} {R : Ending → World → Prop} (hi : ops[i]? = some o) (hw : Region.wanted o (yielded ops a.tmps) = true) (hd : ∀ c, o.op ≠ .defer c)
    (hrun : (execOp a.eval o).run P w = .ok (.round l' fn tmps assign body) w) (hR : RoundIn Fence.wide 0 P l' fn tmps assign body w R) (h : ∀ e w', R e w' → ∃ v, e = .returned v ∧ K (a.put o.dst v) w') : wpOpIn (Fence.wide.inRound l) n P ops Q i K a w := by
  unfold wpOpIn
  simp only [hi]
  rw [if_pos hw]
  refine ⟨fun _ _ => trivial, ?_⟩
  rw [Fence.inRound_round, Oper.semAt_some l a.eval o hd, hrun]
  refine ⟨(fun h => by cases h), (round_any hR l).mono ?_⟩
  intro e w' hr
  obtain ⟨v, rfl, hk⟩ := h e w' hr
  exact hk
theorem anyIn_one {i fuel : Nat} {listed : Array Bool} {a : Act} {w : World} (hr : Region.ready .any ops listed = [i]) (h : wpOpIn (Fence.wide.inRound l) n P ops Q i (wpAnyIn (Fence.wide.inRound l) n P .any ops Q fuel (listed.setIfInBounds i true)) a w) :
    wpAnyIn (Fence.wide.inRound l) n P .any ops Q (fuel + 1) listed a w := wpAnyIn_all hr (by simp) (fun j hj => by obtain rfl := List.mem_singleton.1 hj; exact h)
theorem anyIn_two {i j fuel : Nat} {listed : Array Bool} {a : Act} {w : World} (hr : Region.ready .any ops listed = [i, j]) (h : wpOpIn (Fence.wide.inRound l) n P ops Q i (wpAnyIn (Fence.wide.inRound l) n P .any ops Q fuel (listed.setIfInBounds i true)) a w)
    (h' : wpOpIn (Fence.wide.inRound l) n P ops Q j (wpAnyIn (Fence.wide.inRound l) n P .any ops Q fuel (listed.setIfInBounds j true)) a w) :
    wpAnyIn (Fence.wide.inRound l) n P .any ops Q (fuel + 1) listed a w := wpAnyIn_all hr (by simp) (fun k hk => by simp only [List.mem_cons, List.not_mem_nil, or_false] at hk; rcases hk with rfl | rfl; exact h; exact h')
theorem anyIn_three {i j k fuel : Nat} {listed : Array Bool} {a : Act} {w : World} (hr : Region.ready .any ops listed = [i, j, k]) (h : wpOpIn (Fence.wide.inRound l) n P ops Q i (wpAnyIn (Fence.wide.inRound l) n P .any ops Q fuel (listed.setIfInBounds i true)) a w)
    (h' : wpOpIn (Fence.wide.inRound l) n P ops Q j (wpAnyIn (Fence.wide.inRound l) n P .any ops Q fuel (listed.setIfInBounds j true)) a w) (h'' : wpOpIn (Fence.wide.inRound l) n P ops Q k (wpAnyIn (Fence.wide.inRound l) n P .any ops Q fuel (listed.setIfInBounds k true)) a w) :
    wpAnyIn (Fence.wide.inRound l) n P .any ops Q (fuel + 1) listed a w := wpAnyIn_all hr (by simp) (fun q hq => by simp only [List.mem_cons, List.not_mem_nil, or_false] at hq; rcases hq with rfl | rfl | rfl; exact h; exact h'; exact h'')
theorem anyIn_done {listed : Array Bool} {a : Act} {w : World} (hr : Region.ready .any ops listed = []) (h : Q .normal a w) : wpAnyIn (Fence.wide.inRound l) n P .any ops Q 0 listed a w := ⟨hr, h⟩
end

set_option maxRecDepth 100000 in
set_option maxHeartbeats 4000000 in
theorem cut_seq (Bd b off cap K : Nat) (ys : List Int) (w : World) (hK : K ≤ 4096) (hcap : 64 * K ≤ cap) (hc2 : cap ≤ 9223372036854775807) (hys : ys.length = 64 * K)
    (hd : w.cell? ⟨Bd, 0, none⟩ = some (.slice (some ⟨b, off, none⟩) (64 * K) cap)) (hb : ∀ i, i < ys.length → w.cell? ⟨b, off + i, none⟩ = some (.int .u8 (ys.getD i 0))) (hbl : b < w.heap.size) :
    Seq Tryd.prog 63 #[.pointer (some ⟨Bd, 0, none⟩)] (encBk ys (K := K)) (KeepS fun k => k = b)
      (fun zs => vals zs = (List.range K).zip (List.range K)) (fun _ => True) K w := fun l J Jx W hW hJ hJx hJF hJxF hY h0 => by
  have hd2 : W.cell? ⟨Bd, 0, none⟩ = some (.slice (some ⟨b, off, none⟩) (64 * K) cap) := (hW.cell (p := ⟨Bd, 0, none⟩) (lt_of_cell hd)).trans hd
  have hb2 : ∀ i, i < ys.length → W.cell? ⟨b, off + i, none⟩ = some (.int .u8 (ys.getD i 0)) := fun i hi => (hW.cell (p := ⟨b, off + i, none⟩) hbl).trans (hb i hi)
  have hbW : b < W.heap.size := Nat.lt_of_lt_of_le hbl hW.size
  have Hb2 : Hid (∀ i, i < ys.length → W.cell? ⟨b, off + i, none⟩ = some (.int .u8 (ys.getD i 0))) := hb2
  have Hys : Hid (ys.length = 64 * K) := hys
  have hdl : Bd < W.heap.size := lt_of_cell hd2
  have cA : Chg 0 0 W ((W.alloc (.cells #[.func (.yield l) #[] #[]] 111)).alloc (.cells #[.int .i64 0] 2)) := (Chg.alloc (Chg.refl 0 0 W) _).alloc _
  have hd3 := cA.cell hd2 (by omega)
  obtain ⟨z1, z2, z3⟩ := alloc2 W (.cells #[.func (.yield l) #[] #[]] 111) (.cells #[.int .i64 0] 2)
  clear hd hb hbl hW hb2 hys hd2
  refine callsIn_of_wp_marks Tryd.func63 rfl trivial ?_ rfl
  simp only [Tryd.ntmps63, List.size_toArray, List.length_cons, List.length_nil, Nat.reduceAdd, Nat.reduceSub, Array.replicate_succ, Array.replicate_zero, List.push_toArray, List.append_toArray, List.nil_append, List.cons_append]
  gi_wp2
  refine ⟨trivial, rfl, (callsIn_wide.2 (pieces_calls _ _ _ _ _)).mono ?_⟩
  rintro e w1 ⟨rfl, rfl⟩
  clear hd3
  generalize (W.alloc (.cells #[.func (.yield l) #[] #[]] 111)).alloc (.cells #[.int .i64 0] 2) = wA at *
  obtain ⟨y1, y2, y3⟩ := alloc2 wA (.cells #[.slice (some ⟨b, off, none⟩) (64 * K) cap] 24) (.cells #[.int .i64 64] 3)
  have cB : Chg 0 0 wA ((wA.alloc (.cells #[.slice (some ⟨b, off, none⟩) (64 * K) cap] 24)).alloc (.cells #[.int .i64 64] 3)) := (Chg.alloc (Chg.refl 0 0 wA) _).alloc _
  have z2' := (cB.block _ (by omega) (by omega)).trans z2
  have z3' := (cB.block _ (by omega) (by omega)).trans z3
  have cAB := cA.trans cB
  rw [z1] at y1 y2 y3 ⊢
  generalize (wA.alloc (.cells #[.slice (some ⟨b, off, none⟩) (64 * K) cap] 24)).alloc (.cells #[.int .i64 64] 3) = wB at *
  clear z1 z2 z3 cA cB
  gi_wp2
  refine range_own (n := 0) (gf := 70) (lb := #[.pointer (some ⟨W.heap.size + 2, 0, none⟩), .pointer (some ⟨W.heap.size + 2 + 1, 0, none⟩)]) rfl (enters_of Tryd.func70 (by kernel_rfl) rfl)
    (pieces_seq (W.heap.size + 2) (W.heap.size + 2 + 1) b off cap K wB hK hcap hc2 (Boxed.cell y2) (Boxed.cell y3)) (Below.refl _ _) (fun _ => rfl) KeepS.trans (fun V o k hk => World.putObj_heap_other (by omega))
    (cutI W l b J) (cutX Jx)
    ?hI ?hIx ?hIF ?hIxF ?h0 (fun x a' V => a' = { tmps := #[.func (.yield l) #[] #[], .pointer (some ⟨Bd, 0, none⟩), .pointer (some ⟨W.heap.size, 0, none⟩), .pointer (some ⟨W.heap.size + 1, 0, none⟩), .slice (some ⟨b, off + 64 * x.val, none⟩) 64 (cap - 64 * x.val), .slice (some ⟨b, off, none⟩) (64 * K) cap, .func (.func 70) #[] #[.pointer (some ⟨W.heap.size + 2, 0, none⟩), .pointer (some ⟨W.heap.size + 2 + 1, 0, none⟩)], .slice (some ⟨b, off + 64 * x.val, none⟩) 64 (cap - 64 * x.val), undef, undef, undef, undef, undef, undef, undef, undef, undef, undef, undef, undef, undef, undef], defers := [] })
    (fun x a' _ _ _ _ hs _ _ => hs) ?assign ?body ?done ?stop
  case hI =>
    exact fun M s A C row hs hg hr => by
      obtain ⟨⟨zs, h1, h2⟩, ⟨h3, h4⟩, h5⟩ := hs
      have hne : ∀ k, k < W.heap.size + 4 → some k ≠ row := fun k hk e => by have := (hr _ e.symm).1; omega
      refine ⟨⟨zs, h1, hJ M zs A C row h2 hg (fun r e => ⟨by have := (hr r e).1; omega, (hr r e).2⟩)⟩, ⟨(hg.block _ (Array.getElem?_eq_some_iff.1 h3).1 (hne _ (by omega))).trans h3, (hg.block _ (Array.getElem?_eq_some_iff.1 h4).1 (hne _ (by omega))).trans h4⟩, ?_⟩
      rintro k rfl
      exact (hg.block k (by have := (Array.getElem?_eq_some_iff.1 h3).1; omega) (hne _ (by omega))).trans (h5 k rfl)
  case hIx =>
    exact fun M c s A C row hs hg hr => by
      obtain ⟨h1, zs, h2⟩ := hs
      exact ⟨h1, zs, hJx M zs A C row h2 hg (fun r e => ⟨by have := (hr r e).1; omega, (hr r e).2⟩)⟩
  case hIF =>
    rintro M s A C ⟨⟨zs, h1, h2⟩, ⟨h3, h4⟩, h5⟩ hc hm
    refine ⟨⟨zs, h1, hJF M zs A C h2 (hc.widen (by omega) (by omega)) hm⟩, ⟨(hc.block _ (Array.getElem?_eq_some_iff.1 h3).1 (by omega)).trans h3, (hc.block _ (Array.getElem?_eq_some_iff.1 h4).1 (by omega)).trans h4⟩, ?_⟩
    rintro k rfl
    exact (hc.block k (by have := (Array.getElem?_eq_some_iff.1 h3).1; omega) (by omega)).trans (h5 k rfl)
  case hIxF =>
    rintro M c s A C ⟨h1, zs, h2⟩ hc hm
    exact ⟨h1, zs, hJxF M zs A C h2 (hc.widen (by omega) (by omega)) hm⟩
  case h0 =>
    intro V hV hsz
    refine ⟨⟨[], rfl, h0 V ((cAB.below (Or.inl (Nat.le_refl _))).trans (hV.mono (by omega)))⟩, ⟨(hV.block _ (by omega)).trans z2', (hV.block _ (by omega)).trans z3'⟩, ?_⟩
    rintro k rfl
    exact (hV.block k (by omega)).trans (cAB.block k hbW (by omega))
  case assign =>
    rintro M l' pre x V K' hM hMV hi hK
    simp only [encPc]
    gi_wp2
    exact hK _ _ (KeepM.refl _ _ _) (fun _ _ => rfl) hi rfl
  case body =>
    rintro M l' pre x a' V hM hMV ⟨⟨zs, hz, hJz⟩, ⟨e1, e2⟩, e3⟩ rfl hlen
    have hmx : Tryd.prog.follows .mixedOrders = true := by kernel_rfl
    obtain ⟨fn, tmps, assign, body, hy, hR⟩ := hY M zs (⟨pre.length, hlen⟩, x) V.drew (by omega) hMV (hJ M zs V V.drew none hJz (grown_drew V) (fun r e => by cases e)) (by have := congrArg List.length hz; simp [vals] at this; omega)
    simp only [encBk] at hy
    have hrg : V.drew.rangeAt b (off + 64 * x.val) ((blkOf ys x.val).map (Value.int .u8)) := blk_range Hys.out (fun i hi => (e3.cell (p := ⟨b, off + i, none⟩) rfl).trans (Hb2.out i hi)) x.isLt
    have hln : ((blkOf ys x.val).map (Value.int .u8)).length = 64 := by rw [List.length_map]; unfold blkOf; rw [List.length_take, List.length_drop, Hys.out]; have := x.isLt; omega
    have hld : (loadVar 58 ⟨b, off + 64 * x.val, none⟩).run Tryd.prog V.drew = .ok (.agg ((blkOf ys x.val).map (Value.int .u8)).toArray) V.drew := run_loadVar_mid _ _ _ _ _ _ hrg Tryd.underlying58 rfl (by rw [hln]; kernel_rfl)
    have hld2 : (Instr.loadAt 58 (.pointer (some ⟨b, off + 64 * x.val, none⟩))).run Tryd.prog V.drew = .ok (.agg ((blkOf ys x.val).map (Value.int .u8)).toArray) V.drew := run_loadAt_mid _ _ _ _ _ _ hrg Tryd.underlying58 rfl (by rw [hln]; kernel_rfl)
    have har := fun w' => arrayAtC w' ⟨b, off + 64 * x.val, none⟩ (cap - 64 * x.val)
    have c1 : V.drew.cell? ⟨W.heap.size, 0, none⟩ = some (.func (.yield l) #[] #[]) := Boxed.cell (W := V.drew) e1
    have c2 : V.drew.cell? ⟨W.heap.size + 1, 0, none⟩ = some (.int .i64 (pre.length : Int)) := Boxed.cell (W := V.drew) e2
    generalize (blkOf ys x.val).map (Value.int .u8) = cs at *
    clear hrg hln
    gi_wp2
    have cont : ∀ V3 : World, KeepM W.heap.size M V.drew V3 → KeepS (fun k => k = b) V.drew V3 → J M (zs ++ [(⟨pre.length, hlen⟩, x)]) V3 → V3.heap[W.heap.size + 1]? = some (.cells #[.int .i64 (pre.length : Int)] 2 (0, 0)) →
        (KeepM wB.heap.size M V (V3.setCell ⟨W.heap.size + 1, 0, none⟩ (.int .i64 ((pre.length : Int) + 1))) ∧ KeepS (fun k => k = W.heap.size + 2 ∨ k = W.heap.size + 2 + 1) V (V3.setCell ⟨W.heap.size + 1, 0, none⟩ (.int .i64 ((pre.length : Int) + 1)))) ∧ cutI W l b J M (pre ++ [x]) (V3.setCell ⟨W.heap.size + 1, 0, none⟩ (.int .i64 ((pre.length : Int) + 1))) := by
      intro V3 k1 k2 hJ3 f2
      have s1 := k1.size
      have s0 : V.drew.heap.size = V.heap.size := rfl
      have hk : ∀ k, k ≠ W.heap.size + 1 → (V3.setCell ⟨W.heap.size + 1, 0, none⟩ (.int .i64 ((pre.length : Int) + 1))).heap[k]? = V3.heap[k]? := fun k hk => Below.heap_setCell _ _ _ _ hk
      refine ⟨⟨⟨by simp only [World.setCell, Array.size_modify]; omega, fun k h1 h2 => (hk k (by omega)).trans (k1.same k (by omega) h2)⟩, fun k h => (hk k (by omega)).trans (k1.same k (by omega) (by omega))⟩, ⟨zs ++ [(⟨pre.length, hlen⟩, x)], ?_, ?_⟩, ⟨(hk _ (by omega)).trans ((k1.same _ (Nat.le_refl _) (by omega)).trans e1), ?_⟩, ?_⟩
      · unfold vals at hz ⊢
        rw [List.map_append, hz, List.length_append, List.map_append]
        show _ ++ [(pre.length, x.val)] = (List.range (pre.length + 1)).zip _
        rw [List.range_succ, List.zip_append (by simp)]
        rfl
      · exact hJF M _ V3 _ hJ3 (Chg.setCell (p := ⟨W.heap.size + 1, 0, none⟩) (Chg.refl _ _ V3) (Or.inl ⟨by simp only; omega, by simp only; omega⟩) _) (by omega)
      · have := Boxed.set (.int .i64 ((pre.length : Int) + 1)) f2
        rw [List.length_append]
        exact this
      · rintro k rfl
        exact (hk k (by omega)).trans ((k2 k rfl).trans (e3 k rfl))
    have stopd : ∀ V3 : World, KeepM W.heap.size M V.drew V3 → KeepS (fun k => k = b) V.drew V3 → Jx M (zs ++ [(⟨pre.length, hlen⟩, x)]) V3 →
        (KeepM wB.heap.size M V V3 ∧ KeepS (fun k => k = W.heap.size + 2 ∨ k = W.heap.size + 2 + 1) V V3) ∧ cutX Jx M .ret (pre ++ [x]) V3 := by
      intro V3 k1 k2 hJ3
      exact ⟨⟨⟨k1.size, fun k h1 h2 => k1.same k (by omega) h2⟩, fun k h => k1.same k (by omega) (by omega)⟩, rfl, _, hJ3⟩
    -- BODY
    refine wpIn_region_any hmx ?_
    change wpAnyIn _ _ _ _ _ _ _ _ _ (World.drew _)
    refine anyIn_one (i := 0) (by kernel_rfl) ?_
    refine opIn_value (.slice (some ⟨b, off + 64 * x.val, none⟩) 64 (cap - 64 * x.val)) rfl (by kernel_rfl) (fun _ h => by cases h) (by go_simp) ?_
    go_simp
    refine anyIn_one (i := 1) (by kernel_rfl) ?_
    refine opIn_value (.int .i64 64) rfl (by kernel_rfl) (fun _ h => by cases h) (by go_simp) ?_
    go_simp
    refine anyIn_one (i := 2) (by kernel_rfl) ?_
    refine opIn_value (.bool false) rfl (by kernel_rfl) (fun _ h => by cases h) (by go_simp) ?_
    go_simp
    refine anyIn_one (i := 3) (by kernel_rfl) ?_
    refine opIn_value (.bool false) rfl (by kernel_rfl) (fun _ h => by cases h) (by go_simp) ?_
    go_simp
    refine anyIn_three (i := 4) (j := 5) (k := 6) (by kernel_rfl) ?_ ?_ ?_
    · refine opIn_value (.func (.yield l) #[] #[]) rfl (by kernel_rfl) (fun _ h => by cases h) (by go_simp) ?_
      go_simp
      refine anyIn_two (i := 5) (j := 6) (by kernel_rfl) ?_ ?_
      · refine opIn_value (.int .i64 (pre.length : Int)) rfl (by kernel_rfl) (fun _ h => by cases h) (by go_simp) ?_
        go_simp
        refine anyIn_one (i := 6) (by kernel_rfl) ?_
        refine opIn_value (.slice (some ⟨b, off + 64 * x.val, none⟩) 64 (cap - 64 * x.val)) rfl (by kernel_rfl) (fun _ h => by cases h) (by go_simp) ?_
        go_simp
        refine anyIn_one (i := 7) (by kernel_rfl) ?_
        refine opIn_value (.pointer (some ⟨b, off + 64 * x.val, none⟩)) rfl (by kernel_rfl) (fun _ h => by cases h) (by go_simp) ?_
        go_simp
        refine anyIn_one (i := 8) (by kernel_rfl) ?_
        refine opIn_value (.agg cs.toArray) rfl (by kernel_rfl) (fun _ h => by cases h) (run_load_mid 58 (.tmp 15) rfl b (off + 64 * x.val) rfl cs hld) ?_
        go_simp
        refine anyIn_one (i := 9) (by kernel_rfl) ?_
        refine opIn_round rfl (by kernel_rfl) (fun _ h => by cases h) (by go_simp) hR ?_
        rintro e V3 ⟨⟨k1, k2⟩, hres⟩
        have f2 : V3.heap[W.heap.size + 1]? = some (.cells #[.int .i64 (pre.length : Int)] 2 (0, 0)) := (k1.same _ (by omega) (by omega)).trans e2
        rcases hres with ⟨rfl, hJ3⟩ | ⟨rfl, hJ3⟩
        · refine ⟨_, rfl, ?_⟩
          go_simp
          refine anyIn_one (i := 10) (by kernel_rfl) ?_
          refine opIn_value (.bool false) rfl (by kernel_rfl) (fun _ h => by cases h) (by go_simp) ?_
          go_simp
          refine anyIn_one (i := 11) (by kernel_rfl) ?_
          refine opIn_value (.bool false) rfl (by kernel_rfl) (fun _ h => by cases h) (by go_simp) ?_
          go_simp
          refine anyIn_done (by kernel_rfl) ?_
          have g1 := Boxed.cell f2
          have g2 := Boxed.frozen f2
          gi_wp2
          exact cont V3 k1 k2 hJ3 f2
        · refine ⟨_, rfl, ?_⟩
          go_simp
          refine anyIn_one (i := 10) (by kernel_rfl) ?_
          refine opIn_value (.bool true) rfl (by kernel_rfl) (fun _ h => by cases h) (by go_simp) ?_
          go_simp
          refine anyIn_one (i := 11) (by kernel_rfl) ?_
          refine opIn_value (.bool true) rfl (by kernel_rfl) (fun _ h => by cases h) (by go_simp) ?_
          go_simp
          refine anyIn_done (by kernel_rfl) ?_
          gi_wp2
          exact stopd V3 k1 k2 hJ3
      · refine opIn_value (.slice (some ⟨b, off + 64 * x.val, none⟩) 64 (cap - 64 * x.val)) rfl (by kernel_rfl) (fun _ h => by cases h) (by go_simp) ?_
        go_simp
        refine anyIn_two (i := 5) (j := 7) (by kernel_rfl) ?_ ?_
        · refine opIn_value (.int .i64 (pre.length : Int)) rfl (by kernel_rfl) (fun _ h => by cases h) (by go_simp) ?_
          go_simp
          refine anyIn_one (i := 7) (by kernel_rfl) ?_
          refine opIn_value (.pointer (some ⟨b, off + 64 * x.val, none⟩)) rfl (by kernel_rfl) (fun _ h => by cases h) (by go_simp) ?_
          go_simp
          refine anyIn_one (i := 8) (by kernel_rfl) ?_
          refine opIn_value (.agg cs.toArray) rfl (by kernel_rfl) (fun _ h => by cases h) (run_load_mid 58 (.tmp 15) rfl b (off + 64 * x.val) rfl cs hld) ?_
          go_simp
          refine anyIn_one (i := 9) (by kernel_rfl) ?_
          refine opIn_round rfl (by kernel_rfl) (fun _ h => by cases h) (by go_simp) hR ?_
          rintro e V3 ⟨⟨k1, k2⟩, hres⟩
          have f2 : V3.heap[W.heap.size + 1]? = some (.cells #[.int .i64 (pre.length : Int)] 2 (0, 0)) := (k1.same _ (by omega) (by omega)).trans e2
          rcases hres with ⟨rfl, hJ3⟩ | ⟨rfl, hJ3⟩
          · refine ⟨_, rfl, ?_⟩
            go_simp
            refine anyIn_one (i := 10) (by kernel_rfl) ?_
            refine opIn_value (.bool false) rfl (by kernel_rfl) (fun _ h => by cases h) (by go_simp) ?_
            go_simp
            refine anyIn_one (i := 11) (by kernel_rfl) ?_
            refine opIn_value (.bool false) rfl (by kernel_rfl) (fun _ h => by cases h) (by go_simp) ?_
            go_simp
            refine anyIn_done (by kernel_rfl) ?_
            have g1 := Boxed.cell f2
            have g2 := Boxed.frozen f2
            gi_wp2
            exact cont V3 k1 k2 hJ3 f2
          · refine ⟨_, rfl, ?_⟩
            go_simp
            refine anyIn_one (i := 10) (by kernel_rfl) ?_
            refine opIn_value (.bool true) rfl (by kernel_rfl) (fun _ h => by cases h) (by go_simp) ?_
            go_simp
            refine anyIn_one (i := 11) (by kernel_rfl) ?_
            refine opIn_value (.bool true) rfl (by kernel_rfl) (fun _ h => by cases h) (by go_simp) ?_
            go_simp
            refine anyIn_done (by kernel_rfl) ?_
            gi_wp2
            exact stopd V3 k1 k2 hJ3
        · refine opIn_value (.pointer (some ⟨b, off + 64 * x.val, none⟩)) rfl (by kernel_rfl) (fun _ h => by cases h) (by go_simp) ?_
          go_simp
          refine anyIn_two (i := 5) (j := 8) (by kernel_rfl) ?_ ?_
          · refine opIn_value (.int .i64 (pre.length : Int)) rfl (by kernel_rfl) (fun _ h => by cases h) (by go_simp) ?_
            go_simp
            refine anyIn_one (i := 8) (by kernel_rfl) ?_
            refine opIn_value (.agg cs.toArray) rfl (by kernel_rfl) (fun _ h => by cases h) (run_load_mid 58 (.tmp 15) rfl b (off + 64 * x.val) rfl cs hld) ?_
            go_simp
            refine anyIn_one (i := 9) (by kernel_rfl) ?_
            refine opIn_round rfl (by kernel_rfl) (fun _ h => by cases h) (by go_simp) hR ?_
            rintro e V3 ⟨⟨k1, k2⟩, hres⟩
            have f2 : V3.heap[W.heap.size + 1]? = some (.cells #[.int .i64 (pre.length : Int)] 2 (0, 0)) := (k1.same _ (by omega) (by omega)).trans e2
            rcases hres with ⟨rfl, hJ3⟩ | ⟨rfl, hJ3⟩
            · refine ⟨_, rfl, ?_⟩
              go_simp
              refine anyIn_one (i := 10) (by kernel_rfl) ?_
              refine opIn_value (.bool false) rfl (by kernel_rfl) (fun _ h => by cases h) (by go_simp) ?_
              go_simp
              refine anyIn_one (i := 11) (by kernel_rfl) ?_
              refine opIn_value (.bool false) rfl (by kernel_rfl) (fun _ h => by cases h) (by go_simp) ?_
              go_simp
              refine anyIn_done (by kernel_rfl) ?_
              have g1 := Boxed.cell f2
              have g2 := Boxed.frozen f2
              gi_wp2
              exact cont V3 k1 k2 hJ3 f2
            · refine ⟨_, rfl, ?_⟩
              go_simp
              refine anyIn_one (i := 10) (by kernel_rfl) ?_
              refine opIn_value (.bool true) rfl (by kernel_rfl) (fun _ h => by cases h) (by go_simp) ?_
              go_simp
              refine anyIn_one (i := 11) (by kernel_rfl) ?_
              refine opIn_value (.bool true) rfl (by kernel_rfl) (fun _ h => by cases h) (by go_simp) ?_
              go_simp
              refine anyIn_done (by kernel_rfl) ?_
              gi_wp2
              exact stopd V3 k1 k2 hJ3
          · refine opIn_value (.agg cs.toArray) rfl (by kernel_rfl) (fun _ h => by cases h) (run_load_mid 58 (.tmp 15) rfl b (off + 64 * x.val) rfl cs hld) ?_
            go_simp
            refine anyIn_one (i := 5) (by kernel_rfl) ?_
            refine opIn_value (.int .i64 (pre.length : Int)) rfl (by kernel_rfl) (fun _ h => by cases h) (by go_simp) ?_
            go_simp
            refine anyIn_one (i := 9) (by kernel_rfl) ?_
            refine opIn_round rfl (by kernel_rfl) (fun _ h => by cases h) (by go_simp) hR ?_
            rintro e V3 ⟨⟨k1, k2⟩, hres⟩
            have f2 : V3.heap[W.heap.size + 1]? = some (.cells #[.int .i64 (pre.length : Int)] 2 (0, 0)) := (k1.same _ (by omega) (by omega)).trans e2
            rcases hres with ⟨rfl, hJ3⟩ | ⟨rfl, hJ3⟩
            · refine ⟨_, rfl, ?_⟩
              go_simp
              refine anyIn_one (i := 10) (by kernel_rfl) ?_
              refine opIn_value (.bool false) rfl (by kernel_rfl) (fun _ h => by cases h) (by go_simp) ?_
              go_simp
              refine anyIn_one (i := 11) (by kernel_rfl) ?_
              refine opIn_value (.bool false) rfl (by kernel_rfl) (fun _ h => by cases h) (by go_simp) ?_
              go_simp
              refine anyIn_done (by kernel_rfl) ?_
              have g1 := Boxed.cell f2
              have g2 := Boxed.frozen f2
              gi_wp2
              exact cont V3 k1 k2 hJ3 f2
            · refine ⟨_, rfl, ?_⟩
              go_simp
              refine anyIn_one (i := 10) (by kernel_rfl) ?_
              refine opIn_value (.bool true) rfl (by kernel_rfl) (fun _ h => by cases h) (by go_simp) ?_
              go_simp
              refine anyIn_one (i := 11) (by kernel_rfl) ?_
              refine opIn_value (.bool true) rfl (by kernel_rfl) (fun _ h => by cases h) (by go_simp) ?_
              go_simp
              refine anyIn_done (by kernel_rfl) ?_
              gi_wp2
              exact stopd V3 k1 k2 hJ3
    · refine opIn_value (.int .i64 (pre.length : Int)) rfl (by kernel_rfl) (fun _ h => by cases h) (by go_simp) ?_
      go_simp
      refine anyIn_two (i := 4) (j := 6) (by kernel_rfl) ?_ ?_
      · refine opIn_value (.func (.yield l) #[] #[]) rfl (by kernel_rfl) (fun _ h => by cases h) (by go_simp) ?_
        go_simp
        refine anyIn_one (i := 6) (by kernel_rfl) ?_
        refine opIn_value (.slice (some ⟨b, off + 64 * x.val, none⟩) 64 (cap - 64 * x.val)) rfl (by kernel_rfl) (fun _ h => by cases h) (by go_simp) ?_
        go_simp
        refine anyIn_one (i := 7) (by kernel_rfl) ?_
        refine opIn_value (.pointer (some ⟨b, off + 64 * x.val, none⟩)) rfl (by kernel_rfl) (fun _ h => by cases h) (by go_simp) ?_
        go_simp
        refine anyIn_one (i := 8) (by kernel_rfl) ?_
        refine opIn_value (.agg cs.toArray) rfl (by kernel_rfl) (fun _ h => by cases h) (run_load_mid 58 (.tmp 15) rfl b (off + 64 * x.val) rfl cs hld) ?_
        go_simp
        refine anyIn_one (i := 9) (by kernel_rfl) ?_
        refine opIn_round rfl (by kernel_rfl) (fun _ h => by cases h) (by go_simp) hR ?_
        rintro e V3 ⟨⟨k1, k2⟩, hres⟩
        have f2 : V3.heap[W.heap.size + 1]? = some (.cells #[.int .i64 (pre.length : Int)] 2 (0, 0)) := (k1.same _ (by omega) (by omega)).trans e2
        rcases hres with ⟨rfl, hJ3⟩ | ⟨rfl, hJ3⟩
        · refine ⟨_, rfl, ?_⟩
          go_simp
          refine anyIn_one (i := 10) (by kernel_rfl) ?_
          refine opIn_value (.bool false) rfl (by kernel_rfl) (fun _ h => by cases h) (by go_simp) ?_
          go_simp
          refine anyIn_one (i := 11) (by kernel_rfl) ?_
          refine opIn_value (.bool false) rfl (by kernel_rfl) (fun _ h => by cases h) (by go_simp) ?_
          go_simp
          refine anyIn_done (by kernel_rfl) ?_
          have g1 := Boxed.cell f2
          have g2 := Boxed.frozen f2
          gi_wp2
          exact cont V3 k1 k2 hJ3 f2
        · refine ⟨_, rfl, ?_⟩
          go_simp
          refine anyIn_one (i := 10) (by kernel_rfl) ?_
          refine opIn_value (.bool true) rfl (by kernel_rfl) (fun _ h => by cases h) (by go_simp) ?_
          go_simp
          refine anyIn_one (i := 11) (by kernel_rfl) ?_
          refine opIn_value (.bool true) rfl (by kernel_rfl) (fun _ h => by cases h) (by go_simp) ?_
          go_simp
          refine anyIn_done (by kernel_rfl) ?_
          gi_wp2
          exact stopd V3 k1 k2 hJ3
      · refine opIn_value (.slice (some ⟨b, off + 64 * x.val, none⟩) 64 (cap - 64 * x.val)) rfl (by kernel_rfl) (fun _ h => by cases h) (by go_simp) ?_
        go_simp
        refine anyIn_two (i := 4) (j := 7) (by kernel_rfl) ?_ ?_
        · refine opIn_value (.func (.yield l) #[] #[]) rfl (by kernel_rfl) (fun _ h => by cases h) (by go_simp) ?_
          go_simp
          refine anyIn_one (i := 7) (by kernel_rfl) ?_
          refine opIn_value (.pointer (some ⟨b, off + 64 * x.val, none⟩)) rfl (by kernel_rfl) (fun _ h => by cases h) (by go_simp) ?_
          go_simp
          refine anyIn_one (i := 8) (by kernel_rfl) ?_
          refine opIn_value (.agg cs.toArray) rfl (by kernel_rfl) (fun _ h => by cases h) (run_load_mid 58 (.tmp 15) rfl b (off + 64 * x.val) rfl cs hld) ?_
          go_simp
          refine anyIn_one (i := 9) (by kernel_rfl) ?_
          refine opIn_round rfl (by kernel_rfl) (fun _ h => by cases h) (by go_simp) hR ?_
          rintro e V3 ⟨⟨k1, k2⟩, hres⟩
          have f2 : V3.heap[W.heap.size + 1]? = some (.cells #[.int .i64 (pre.length : Int)] 2 (0, 0)) := (k1.same _ (by omega) (by omega)).trans e2
          rcases hres with ⟨rfl, hJ3⟩ | ⟨rfl, hJ3⟩
          · refine ⟨_, rfl, ?_⟩
            go_simp
            refine anyIn_one (i := 10) (by kernel_rfl) ?_
            refine opIn_value (.bool false) rfl (by kernel_rfl) (fun _ h => by cases h) (by go_simp) ?_
            go_simp
            refine anyIn_one (i := 11) (by kernel_rfl) ?_
            refine opIn_value (.bool false) rfl (by kernel_rfl) (fun _ h => by cases h) (by go_simp) ?_
            go_simp
            refine anyIn_done (by kernel_rfl) ?_
            have g1 := Boxed.cell f2
            have g2 := Boxed.frozen f2
            gi_wp2
            exact cont V3 k1 k2 hJ3 f2
          · refine ⟨_, rfl, ?_⟩
            go_simp
            refine anyIn_one (i := 10) (by kernel_rfl) ?_
            refine opIn_value (.bool true) rfl (by kernel_rfl) (fun _ h => by cases h) (by go_simp) ?_
            go_simp
            refine anyIn_one (i := 11) (by kernel_rfl) ?_
            refine opIn_value (.bool true) rfl (by kernel_rfl) (fun _ h => by cases h) (by go_simp) ?_
            go_simp
            refine anyIn_done (by kernel_rfl) ?_
            gi_wp2
            exact stopd V3 k1 k2 hJ3
        · refine opIn_value (.pointer (some ⟨b, off + 64 * x.val, none⟩)) rfl (by kernel_rfl) (fun _ h => by cases h) (by go_simp) ?_
          go_simp
          refine anyIn_two (i := 4) (j := 8) (by kernel_rfl) ?_ ?_
          · refine opIn_value (.func (.yield l) #[] #[]) rfl (by kernel_rfl) (fun _ h => by cases h) (by go_simp) ?_
            go_simp
            refine anyIn_one (i := 8) (by kernel_rfl) ?_
            refine opIn_value (.agg cs.toArray) rfl (by kernel_rfl) (fun _ h => by cases h) (run_load_mid 58 (.tmp 15) rfl b (off + 64 * x.val) rfl cs hld) ?_
            go_simp
            refine anyIn_one (i := 9) (by kernel_rfl) ?_
            refine opIn_round rfl (by kernel_rfl) (fun _ h => by cases h) (by go_simp) hR ?_
            rintro e V3 ⟨⟨k1, k2⟩, hres⟩
            have f2 : V3.heap[W.heap.size + 1]? = some (.cells #[.int .i64 (pre.length : Int)] 2 (0, 0)) := (k1.same _ (by omega) (by omega)).trans e2
            rcases hres with ⟨rfl, hJ3⟩ | ⟨rfl, hJ3⟩
            · refine ⟨_, rfl, ?_⟩
              go_simp
              refine anyIn_one (i := 10) (by kernel_rfl) ?_
              refine opIn_value (.bool false) rfl (by kernel_rfl) (fun _ h => by cases h) (by go_simp) ?_
              go_simp
              refine anyIn_one (i := 11) (by kernel_rfl) ?_
              refine opIn_value (.bool false) rfl (by kernel_rfl) (fun _ h => by cases h) (by go_simp) ?_
              go_simp
              refine anyIn_done (by kernel_rfl) ?_
              have g1 := Boxed.cell f2
              have g2 := Boxed.frozen f2
              gi_wp2
              exact cont V3 k1 k2 hJ3 f2
            · refine ⟨_, rfl, ?_⟩
              go_simp
              refine anyIn_one (i := 10) (by kernel_rfl) ?_
              refine opIn_value (.bool true) rfl (by kernel_rfl) (fun _ h => by cases h) (by go_simp) ?_
              go_simp
              refine anyIn_one (i := 11) (by kernel_rfl) ?_
              refine opIn_value (.bool true) rfl (by kernel_rfl) (fun _ h => by cases h) (by go_simp) ?_
              go_simp
              refine anyIn_done (by kernel_rfl) ?_
              gi_wp2
              exact stopd V3 k1 k2 hJ3
          · refine opIn_value (.agg cs.toArray) rfl (by kernel_rfl) (fun _ h => by cases h) (run_load_mid 58 (.tmp 15) rfl b (off + 64 * x.val) rfl cs hld) ?_
            go_simp
            refine anyIn_one (i := 4) (by kernel_rfl) ?_
            refine opIn_value (.func (.yield l) #[] #[]) rfl (by kernel_rfl) (fun _ h => by cases h) (by go_simp) ?_
            go_simp
            refine anyIn_one (i := 9) (by kernel_rfl) ?_
            refine opIn_round rfl (by kernel_rfl) (fun _ h => by cases h) (by go_simp) hR ?_
            rintro e V3 ⟨⟨k1, k2⟩, hres⟩
            have f2 : V3.heap[W.heap.size + 1]? = some (.cells #[.int .i64 (pre.length : Int)] 2 (0, 0)) := (k1.same _ (by omega) (by omega)).trans e2
            rcases hres with ⟨rfl, hJ3⟩ | ⟨rfl, hJ3⟩
            · refine ⟨_, rfl, ?_⟩
              go_simp
              refine anyIn_one (i := 10) (by kernel_rfl) ?_
              refine opIn_value (.bool false) rfl (by kernel_rfl) (fun _ h => by cases h) (by go_simp) ?_
              go_simp
              refine anyIn_one (i := 11) (by kernel_rfl) ?_
              refine opIn_value (.bool false) rfl (by kernel_rfl) (fun _ h => by cases h) (by go_simp) ?_
              go_simp
              refine anyIn_done (by kernel_rfl) ?_
              have g1 := Boxed.cell f2
              have g2 := Boxed.frozen f2
              gi_wp2
              exact cont V3 k1 k2 hJ3 f2
            · refine ⟨_, rfl, ?_⟩
              go_simp
              refine anyIn_one (i := 10) (by kernel_rfl) ?_
              refine opIn_value (.bool true) rfl (by kernel_rfl) (fun _ h => by cases h) (by go_simp) ?_
              go_simp
              refine anyIn_one (i := 11) (by kernel_rfl) ?_
              refine opIn_value (.bool true) rfl (by kernel_rfl) (fun _ h => by cases h) (by go_simp) ?_
              go_simp
              refine anyIn_done (by kernel_rfl) ?_
              gi_wp2
              exact stopd V3 k1 k2 hJ3
    · refine opIn_value (.slice (some ⟨b, off + 64 * x.val, none⟩) 64 (cap - 64 * x.val)) rfl (by kernel_rfl) (fun _ h => by cases h) (by go_simp) ?_
      go_simp
      refine anyIn_three (i := 4) (j := 5) (k := 7) (by kernel_rfl) ?_ ?_ ?_
      · refine opIn_value (.func (.yield l) #[] #[]) rfl (by kernel_rfl) (fun _ h => by cases h) (by go_simp) ?_
        go_simp
        refine anyIn_two (i := 5) (j := 7) (by kernel_rfl) ?_ ?_
        · refine opIn_value (.int .i64 (pre.length : Int)) rfl (by kernel_rfl) (fun _ h => by cases h) (by go_simp) ?_
          go_simp
          refine anyIn_one (i := 7) (by kernel_rfl) ?_
          refine opIn_value (.pointer (some ⟨b, off + 64 * x.val, none⟩)) rfl (by kernel_rfl) (fun _ h => by cases h) (by go_simp) ?_
          go_simp
          refine anyIn_one (i := 8) (by kernel_rfl) ?_
          refine opIn_value (.agg cs.toArray) rfl (by kernel_rfl) (fun _ h => by cases h) (run_load_mid 58 (.tmp 15) rfl b (off + 64 * x.val) rfl cs hld) ?_
          go_simp
          refine anyIn_one (i := 9) (by kernel_rfl) ?_
          refine opIn_round rfl (by kernel_rfl) (fun _ h => by cases h) (by go_simp) hR ?_
          rintro e V3 ⟨⟨k1, k2⟩, hres⟩
          have f2 : V3.heap[W.heap.size + 1]? = some (.cells #[.int .i64 (pre.length : Int)] 2 (0, 0)) := (k1.same _ (by omega) (by omega)).trans e2
          rcases hres with ⟨rfl, hJ3⟩ | ⟨rfl, hJ3⟩
          · refine ⟨_, rfl, ?_⟩
            go_simp
            refine anyIn_one (i := 10) (by kernel_rfl) ?_
            refine opIn_value (.bool false) rfl (by kernel_rfl) (fun _ h => by cases h) (by go_simp) ?_
            go_simp
            refine anyIn_one (i := 11) (by kernel_rfl) ?_
            refine opIn_value (.bool false) rfl (by kernel_rfl) (fun _ h => by cases h) (by go_simp) ?_
            go_simp
            refine anyIn_done (by kernel_rfl) ?_
            have g1 := Boxed.cell f2
            have g2 := Boxed.frozen f2
            gi_wp2
            exact cont V3 k1 k2 hJ3 f2
          · refine ⟨_, rfl, ?_⟩
            go_simp
            refine anyIn_one (i := 10) (by kernel_rfl) ?_
            refine opIn_value (.bool true) rfl (by kernel_rfl) (fun _ h => by cases h) (by go_simp) ?_
            go_simp
            refine anyIn_one (i := 11) (by kernel_rfl) ?_
            refine opIn_value (.bool true) rfl (by kernel_rfl) (fun _ h => by cases h) (by go_simp) ?_
            go_simp
            refine anyIn_done (by kernel_rfl) ?_
            gi_wp2
            exact stopd V3 k1 k2 hJ3
        · refine opIn_value (.pointer (some ⟨b, off + 64 * x.val, none⟩)) rfl (by kernel_rfl) (fun _ h => by cases h) (by go_simp) ?_
          go_simp
          refine anyIn_two (i := 5) (j := 8) (by kernel_rfl) ?_ ?_
          · refine opIn_value (.int .i64 (pre.length : Int)) rfl (by kernel_rfl) (fun _ h => by cases h) (by go_simp) ?_
            go_simp
            refine anyIn_one (i := 8) (by kernel_rfl) ?_
            refine opIn_value (.agg cs.toArray) rfl (by kernel_rfl) (fun _ h => by cases h) (run_load_mid 58 (.tmp 15) rfl b (off + 64 * x.val) rfl cs hld) ?_
            go_simp
            refine anyIn_one (i := 9) (by kernel_rfl) ?_
            refine opIn_round rfl (by kernel_rfl) (fun _ h => by cases h) (by go_simp) hR ?_
            rintro e V3 ⟨⟨k1, k2⟩, hres⟩
            have f2 : V3.heap[W.heap.size + 1]? = some (.cells #[.int .i64 (pre.length : Int)] 2 (0, 0)) := (k1.same _ (by omega) (by omega)).trans e2
            rcases hres with ⟨rfl, hJ3⟩ | ⟨rfl, hJ3⟩
            · refine ⟨_, rfl, ?_⟩
              go_simp
              refine anyIn_one (i := 10) (by kernel_rfl) ?_
              refine opIn_value (.bool false) rfl (by kernel_rfl) (fun _ h => by cases h) (by go_simp) ?_
              go_simp
              refine anyIn_one (i := 11) (by kernel_rfl) ?_
              refine opIn_value (.bool false) rfl (by kernel_rfl) (fun _ h => by cases h) (by go_simp) ?_
              go_simp
              refine anyIn_done (by kernel_rfl) ?_
              have g1 := Boxed.cell f2
              have g2 := Boxed.frozen f2
              gi_wp2
              exact cont V3 k1 k2 hJ3 f2
            · refine ⟨_, rfl, ?_⟩
              go_simp
              refine anyIn_one (i := 10) (by kernel_rfl) ?_
              refine opIn_value (.bool true) rfl (by kernel_rfl) (fun _ h => by cases h) (by go_simp) ?_
              go_simp
              refine anyIn_one (i := 11) (by kernel_rfl) ?_
              refine opIn_value (.bool true) rfl (by kernel_rfl) (fun _ h => by cases h) (by go_simp) ?_
              go_simp
              refine anyIn_done (by kernel_rfl) ?_
              gi_wp2
              exact stopd V3 k1 k2 hJ3
          · refine opIn_value (.agg cs.toArray) rfl (by kernel_rfl) (fun _ h => by cases h) (run_load_mid 58 (.tmp 15) rfl b (off + 64 * x.val) rfl cs hld) ?_
            go_simp
            refine anyIn_one (i := 5) (by kernel_rfl) ?_
            refine opIn_value (.int .i64 (pre.length : Int)) rfl (by kernel_rfl) (fun _ h => by cases h) (by go_simp) ?_
            go_simp
            refine anyIn_one (i := 9) (by kernel_rfl) ?_
            refine opIn_round rfl (by kernel_rfl) (fun _ h => by cases h) (by go_simp) hR ?_
            rintro e V3 ⟨⟨k1, k2⟩, hres⟩
            have f2 : V3.heap[W.heap.size + 1]? = some (.cells #[.int .i64 (pre.length : Int)] 2 (0, 0)) := (k1.same _ (by omega) (by omega)).trans e2
            rcases hres with ⟨rfl, hJ3⟩ | ⟨rfl, hJ3⟩
            · refine ⟨_, rfl, ?_⟩
              go_simp
              refine anyIn_one (i := 10) (by kernel_rfl) ?_
              refine opIn_value (.bool false) rfl (by kernel_rfl) (fun _ h => by cases h) (by go_simp) ?_
              go_simp
              refine anyIn_one (i := 11) (by kernel_rfl) ?_
              refine opIn_value (.bool false) rfl (by kernel_rfl) (fun _ h => by cases h) (by go_simp) ?_
              go_simp
              refine anyIn_done (by kernel_rfl) ?_
              have g1 := Boxed.cell f2
              have g2 := Boxed.frozen f2
              gi_wp2
              exact cont V3 k1 k2 hJ3 f2
            · refine ⟨_, rfl, ?_⟩
              go_simp
              refine anyIn_one (i := 10) (by kernel_rfl) ?_
              refine opIn_value (.bool true) rfl (by kernel_rfl) (fun _ h => by cases h) (by go_simp) ?_
              go_simp
              refine anyIn_one (i := 11) (by kernel_rfl) ?_
              refine opIn_value (.bool true) rfl (by kernel_rfl) (fun _ h => by cases h) (by go_simp) ?_
              go_simp
              refine anyIn_done (by kernel_rfl) ?_
              gi_wp2
              exact stopd V3 k1 k2 hJ3
      · refine opIn_value (.int .i64 (pre.length : Int)) rfl (by kernel_rfl) (fun _ h => by cases h) (by go_simp) ?_
        go_simp
        refine anyIn_two (i := 4) (j := 7) (by kernel_rfl) ?_ ?_
        · refine opIn_value (.func (.yield l) #[] #[]) rfl (by kernel_rfl) (fun _ h => by cases h) (by go_simp) ?_
          go_simp
          refine anyIn_one (i := 7) (by kernel_rfl) ?_
          refine opIn_value (.pointer (some ⟨b, off + 64 * x.val, none⟩)) rfl (by kernel_rfl) (fun _ h => by cases h) (by go_simp) ?_
          go_simp
          refine anyIn_one (i := 8) (by kernel_rfl) ?_
          refine opIn_value (.agg cs.toArray) rfl (by kernel_rfl) (fun _ h => by cases h) (run_load_mid 58 (.tmp 15) rfl b (off + 64 * x.val) rfl cs hld) ?_
          go_simp
          refine anyIn_one (i := 9) (by kernel_rfl) ?_
          refine opIn_round rfl (by kernel_rfl) (fun _ h => by cases h) (by go_simp) hR ?_
          rintro e V3 ⟨⟨k1, k2⟩, hres⟩
          have f2 : V3.heap[W.heap.size + 1]? = some (.cells #[.int .i64 (pre.length : Int)] 2 (0, 0)) := (k1.same _ (by omega) (by omega)).trans e2
          rcases hres with ⟨rfl, hJ3⟩ | ⟨rfl, hJ3⟩
          · refine ⟨_, rfl, ?_⟩
            go_simp
            refine anyIn_one (i := 10) (by kernel_rfl) ?_
            refine opIn_value (.bool false) rfl (by kernel_rfl) (fun _ h => by cases h) (by go_simp) ?_
            go_simp
            refine anyIn_one (i := 11) (by kernel_rfl) ?_
            refine opIn_value (.bool false) rfl (by kernel_rfl) (fun _ h => by cases h) (by go_simp) ?_
            go_simp
            refine anyIn_done (by kernel_rfl) ?_
            have g1 := Boxed.cell f2
            have g2 := Boxed.frozen f2
            gi_wp2
            exact cont V3 k1 k2 hJ3 f2
          · refine ⟨_, rfl, ?_⟩
            go_simp
            refine anyIn_one (i := 10) (by kernel_rfl) ?_
            refine opIn_value (.bool true) rfl (by kernel_rfl) (fun _ h => by cases h) (by go_simp) ?_
            go_simp
            refine anyIn_one (i := 11) (by kernel_rfl) ?_
            refine opIn_value (.bool true) rfl (by kernel_rfl) (fun _ h => by cases h) (by go_simp) ?_
            go_simp
            refine anyIn_done (by kernel_rfl) ?_
            gi_wp2
            exact stopd V3 k1 k2 hJ3
        · refine opIn_value (.pointer (some ⟨b, off + 64 * x.val, none⟩)) rfl (by kernel_rfl) (fun _ h => by cases h) (by go_simp) ?_
          go_simp
          refine anyIn_two (i := 4) (j := 8) (by kernel_rfl) ?_ ?_
          · refine opIn_value (.func (.yield l) #[] #[]) rfl (by kernel_rfl) (fun _ h => by cases h) (by go_simp) ?_
            go_simp
            refine anyIn_one (i := 8) (by kernel_rfl) ?_
            refine opIn_value (.agg cs.toArray) rfl (by kernel_rfl) (fun _ h => by cases h) (run_load_mid 58 (.tmp 15) rfl b (off + 64 * x.val) rfl cs hld) ?_
            go_simp
            refine anyIn_one (i := 9) (by kernel_rfl) ?_
            refine opIn_round rfl (by kernel_rfl) (fun _ h => by cases h) (by go_simp) hR ?_
            rintro e V3 ⟨⟨k1, k2⟩, hres⟩
            have f2 : V3.heap[W.heap.size + 1]? = some (.cells #[.int .i64 (pre.length : Int)] 2 (0, 0)) := (k1.same _ (by omega) (by omega)).trans e2
            rcases hres with ⟨rfl, hJ3⟩ | ⟨rfl, hJ3⟩
            · refine ⟨_, rfl, ?_⟩
              go_simp
              refine anyIn_one (i := 10) (by kernel_rfl) ?_
              refine opIn_value (.bool false) rfl (by kernel_rfl) (fun _ h => by cases h) (by go_simp) ?_
              go_simp
              refine anyIn_one (i := 11) (by kernel_rfl) ?_
              refine opIn_value (.bool false) rfl (by kernel_rfl) (fun _ h => by cases h) (by go_simp) ?_
              go_simp
              refine anyIn_done (by kernel_rfl) ?_
              have g1 := Boxed.cell f2
              have g2 := Boxed.frozen f2
              gi_wp2
              exact cont V3 k1 k2 hJ3 f2
            · refine ⟨_, rfl, ?_⟩
              go_simp
              refine anyIn_one (i := 10) (by kernel_rfl) ?_
              refine opIn_value (.bool true) rfl (by kernel_rfl) (fun _ h => by cases h) (by go_simp) ?_
              go_simp
              refine anyIn_one (i := 11) (by kernel_rfl) ?_
              refine opIn_value (.bool true) rfl (by kernel_rfl) (fun _ h => by cases h) (by go_simp) ?_
              go_simp
              refine anyIn_done (by kernel_rfl) ?_
              gi_wp2
              exact stopd V3 k1 k2 hJ3
          · refine opIn_value (.agg cs.toArray) rfl (by kernel_rfl) (fun _ h => by cases h) (run_load_mid 58 (.tmp 15) rfl b (off + 64 * x.val) rfl cs hld) ?_
            go_simp
            refine anyIn_one (i := 4) (by kernel_rfl) ?_
            refine opIn_value (.func (.yield l) #[] #[]) rfl (by kernel_rfl) (fun _ h => by cases h) (by go_simp) ?_
            go_simp
            refine anyIn_one (i := 9) (by kernel_rfl) ?_
            refine opIn_round rfl (by kernel_rfl) (fun _ h => by cases h) (by go_simp) hR ?_
            rintro e V3 ⟨⟨k1, k2⟩, hres⟩
            have f2 : V3.heap[W.heap.size + 1]? = some (.cells #[.int .i64 (pre.length : Int)] 2 (0, 0)) := (k1.same _ (by omega) (by omega)).trans e2
            rcases hres with ⟨rfl, hJ3⟩ | ⟨rfl, hJ3⟩
            · refine ⟨_, rfl, ?_⟩
              go_simp
              refine anyIn_one (i := 10) (by kernel_rfl) ?_
              refine opIn_value (.bool false) rfl (by kernel_rfl) (fun _ h => by cases h) (by go_simp) ?_
              go_simp
              refine anyIn_one (i := 11) (by kernel_rfl) ?_
              refine opIn_value (.bool false) rfl (by kernel_rfl) (fun _ h => by cases h) (by go_simp) ?_
              go_simp
              refine anyIn_done (by kernel_rfl) ?_
              have g1 := Boxed.cell f2
              have g2 := Boxed.frozen f2
              gi_wp2
              exact cont V3 k1 k2 hJ3 f2
            · refine ⟨_, rfl, ?_⟩
              go_simp
              refine anyIn_one (i := 10) (by kernel_rfl) ?_
              refine opIn_value (.bool true) rfl (by kernel_rfl) (fun _ h => by cases h) (by go_simp) ?_
              go_simp
              refine anyIn_one (i := 11) (by kernel_rfl) ?_
              refine opIn_value (.bool true) rfl (by kernel_rfl) (fun _ h => by cases h) (by go_simp) ?_
              go_simp
              refine anyIn_done (by kernel_rfl) ?_
              gi_wp2
              exact stopd V3 k1 k2 hJ3
      · refine opIn_value (.pointer (some ⟨b, off + 64 * x.val, none⟩)) rfl (by kernel_rfl) (fun _ h => by cases h) (by go_simp) ?_
        go_simp
        refine anyIn_three (i := 4) (j := 5) (k := 8) (by kernel_rfl) ?_ ?_ ?_
        · refine opIn_value (.func (.yield l) #[] #[]) rfl (by kernel_rfl) (fun _ h => by cases h) (by go_simp) ?_
          go_simp
          refine anyIn_two (i := 5) (j := 8) (by kernel_rfl) ?_ ?_
          · refine opIn_value (.int .i64 (pre.length : Int)) rfl (by kernel_rfl) (fun _ h => by cases h) (by go_simp) ?_
            go_simp
            refine anyIn_one (i := 8) (by kernel_rfl) ?_
            refine opIn_value (.agg cs.toArray) rfl (by kernel_rfl) (fun _ h => by cases h) (run_load_mid 58 (.tmp 15) rfl b (off + 64 * x.val) rfl cs hld) ?_
            go_simp
            refine anyIn_one (i := 9) (by kernel_rfl) ?_
            refine opIn_round rfl (by kernel_rfl) (fun _ h => by cases h) (by go_simp) hR ?_
            rintro e V3 ⟨⟨k1, k2⟩, hres⟩
            have f2 : V3.heap[W.heap.size + 1]? = some (.cells #[.int .i64 (pre.length : Int)] 2 (0, 0)) := (k1.same _ (by omega) (by omega)).trans e2
            rcases hres with ⟨rfl, hJ3⟩ | ⟨rfl, hJ3⟩
            · refine ⟨_, rfl, ?_⟩
              go_simp
              refine anyIn_one (i := 10) (by kernel_rfl) ?_
              refine opIn_value (.bool false) rfl (by kernel_rfl) (fun _ h => by cases h) (by go_simp) ?_
              go_simp
              refine anyIn_one (i := 11) (by kernel_rfl) ?_
              refine opIn_value (.bool false) rfl (by kernel_rfl) (fun _ h => by cases h) (by go_simp) ?_
              go_simp
              refine anyIn_done (by kernel_rfl) ?_
              have g1 := Boxed.cell f2
              have g2 := Boxed.frozen f2
              gi_wp2
              exact cont V3 k1 k2 hJ3 f2
            · refine ⟨_, rfl, ?_⟩
              go_simp
              refine anyIn_one (i := 10) (by kernel_rfl) ?_
              refine opIn_value (.bool true) rfl (by kernel_rfl) (fun _ h => by cases h) (by go_simp) ?_
              go_simp
              refine anyIn_one (i := 11) (by kernel_rfl) ?_
              refine opIn_value (.bool true) rfl (by kernel_rfl) (fun _ h => by cases h) (by go_simp) ?_
              go_simp
              refine anyIn_done (by kernel_rfl) ?_
              gi_wp2
              exact stopd V3 k1 k2 hJ3
          · refine opIn_value (.agg cs.toArray) rfl (by kernel_rfl) (fun _ h => by cases h) (run_load_mid 58 (.tmp 15) rfl b (off + 64 * x.val) rfl cs hld) ?_
            go_simp
            refine anyIn_one (i := 5) (by kernel_rfl) ?_
            refine opIn_value (.int .i64 (pre.length : Int)) rfl (by kernel_rfl) (fun _ h => by cases h) (by go_simp) ?_
            go_simp
            refine anyIn_one (i := 9) (by kernel_rfl) ?_
            refine opIn_round rfl (by kernel_rfl) (fun _ h => by cases h) (by go_simp) hR ?_
            rintro e V3 ⟨⟨k1, k2⟩, hres⟩
            have f2 : V3.heap[W.heap.size + 1]? = some (.cells #[.int .i64 (pre.length : Int)] 2 (0, 0)) := (k1.same _ (by omega) (by omega)).trans e2
            rcases hres with ⟨rfl, hJ3⟩ | ⟨rfl, hJ3⟩
            · refine ⟨_, rfl, ?_⟩
              go_simp
              refine anyIn_one (i := 10) (by kernel_rfl) ?_
              refine opIn_value (.bool false) rfl (by kernel_rfl) (fun _ h => by cases h) (by go_simp) ?_
              go_simp
              refine anyIn_one (i := 11) (by kernel_rfl) ?_
              refine opIn_value (.bool false) rfl (by kernel_rfl) (fun _ h => by cases h) (by go_simp) ?_
              go_simp
              refine anyIn_done (by kernel_rfl) ?_
              have g1 := Boxed.cell f2
              have g2 := Boxed.frozen f2
              gi_wp2
              exact cont V3 k1 k2 hJ3 f2
            · refine ⟨_, rfl, ?_⟩
              go_simp
              refine anyIn_one (i := 10) (by kernel_rfl) ?_
              refine opIn_value (.bool true) rfl (by kernel_rfl) (fun _ h => by cases h) (by go_simp) ?_
              go_simp
              refine anyIn_one (i := 11) (by kernel_rfl) ?_
              refine opIn_value (.bool true) rfl (by kernel_rfl) (fun _ h => by cases h) (by go_simp) ?_
              go_simp
              refine anyIn_done (by kernel_rfl) ?_
              gi_wp2
              exact stopd V3 k1 k2 hJ3
        · refine opIn_value (.int .i64 (pre.length : Int)) rfl (by kernel_rfl) (fun _ h => by cases h) (by go_simp) ?_
          go_simp
          refine anyIn_two (i := 4) (j := 8) (by kernel_rfl) ?_ ?_
          · refine opIn_value (.func (.yield l) #[] #[]) rfl (by kernel_rfl) (fun _ h => by cases h) (by go_simp) ?_
            go_simp
            refine anyIn_one (i := 8) (by kernel_rfl) ?_
            refine opIn_value (.agg cs.toArray) rfl (by kernel_rfl) (fun _ h => by cases h) (run_load_mid 58 (.tmp 15) rfl b (off + 64 * x.val) rfl cs hld) ?_
            go_simp
            refine anyIn_one (i := 9) (by kernel_rfl) ?_
            refine opIn_round rfl (by kernel_rfl) (fun _ h => by cases h) (by go_simp) hR ?_
            rintro e V3 ⟨⟨k1, k2⟩, hres⟩
            have f2 : V3.heap[W.heap.size + 1]? = some (.cells #[.int .i64 (pre.length : Int)] 2 (0, 0)) := (k1.same _ (by omega) (by omega)).trans e2
            rcases hres with ⟨rfl, hJ3⟩ | ⟨rfl, hJ3⟩
            · refine ⟨_, rfl, ?_⟩
              go_simp
              refine anyIn_one (i := 10) (by kernel_rfl) ?_
              refine opIn_value (.bool false) rfl (by kernel_rfl) (fun _ h => by cases h) (by go_simp) ?_
              go_simp
              refine anyIn_one (i := 11) (by kernel_rfl) ?_
              refine opIn_value (.bool false) rfl (by kernel_rfl) (fun _ h => by cases h) (by go_simp) ?_
              go_simp
              refine anyIn_done (by kernel_rfl) ?_
              have g1 := Boxed.cell f2
              have g2 := Boxed.frozen f2
              gi_wp2
              exact cont V3 k1 k2 hJ3 f2
            · refine ⟨_, rfl, ?_⟩
              go_simp
              refine anyIn_one (i := 10) (by kernel_rfl) ?_
              refine opIn_value (.bool true) rfl (by kernel_rfl) (fun _ h => by cases h) (by go_simp) ?_
              go_simp
              refine anyIn_one (i := 11) (by kernel_rfl) ?_
              refine opIn_value (.bool true) rfl (by kernel_rfl) (fun _ h => by cases h) (by go_simp) ?_
              go_simp
              refine anyIn_done (by kernel_rfl) ?_
              gi_wp2
              exact stopd V3 k1 k2 hJ3
          · refine opIn_value (.agg cs.toArray) rfl (by kernel_rfl) (fun _ h => by cases h) (run_load_mid 58 (.tmp 15) rfl b (off + 64 * x.val) rfl cs hld) ?_
            go_simp
            refine anyIn_one (i := 4) (by kernel_rfl) ?_
            refine opIn_value (.func (.yield l) #[] #[]) rfl (by kernel_rfl) (fun _ h => by cases h) (by go_simp) ?_
            go_simp
            refine anyIn_one (i := 9) (by kernel_rfl) ?_
            refine opIn_round rfl (by kernel_rfl) (fun _ h => by cases h) (by go_simp) hR ?_
            rintro e V3 ⟨⟨k1, k2⟩, hres⟩
            have f2 : V3.heap[W.heap.size + 1]? = some (.cells #[.int .i64 (pre.length : Int)] 2 (0, 0)) := (k1.same _ (by omega) (by omega)).trans e2
            rcases hres with ⟨rfl, hJ3⟩ | ⟨rfl, hJ3⟩
            · refine ⟨_, rfl, ?_⟩
              go_simp
              refine anyIn_one (i := 10) (by kernel_rfl) ?_
              refine opIn_value (.bool false) rfl (by kernel_rfl) (fun _ h => by cases h) (by go_simp) ?_
              go_simp
              refine anyIn_one (i := 11) (by kernel_rfl) ?_
              refine opIn_value (.bool false) rfl (by kernel_rfl) (fun _ h => by cases h) (by go_simp) ?_
              go_simp
              refine anyIn_done (by kernel_rfl) ?_
              have g1 := Boxed.cell f2
              have g2 := Boxed.frozen f2
              gi_wp2
              exact cont V3 k1 k2 hJ3 f2
            · refine ⟨_, rfl, ?_⟩
              go_simp
              refine anyIn_one (i := 10) (by kernel_rfl) ?_
              refine opIn_value (.bool true) rfl (by kernel_rfl) (fun _ h => by cases h) (by go_simp) ?_
              go_simp
              refine anyIn_one (i := 11) (by kernel_rfl) ?_
              refine opIn_value (.bool true) rfl (by kernel_rfl) (fun _ h => by cases h) (by go_simp) ?_
              go_simp
              refine anyIn_done (by kernel_rfl) ?_
              gi_wp2
              exact stopd V3 k1 k2 hJ3
        · refine opIn_value (.agg cs.toArray) rfl (by kernel_rfl) (fun _ h => by cases h) (run_load_mid 58 (.tmp 15) rfl b (off + 64 * x.val) rfl cs hld) ?_
          go_simp
          refine anyIn_two (i := 4) (j := 5) (by kernel_rfl) ?_ ?_
          · refine opIn_value (.func (.yield l) #[] #[]) rfl (by kernel_rfl) (fun _ h => by cases h) (by go_simp) ?_
            go_simp
            refine anyIn_one (i := 5) (by kernel_rfl) ?_
            refine opIn_value (.int .i64 (pre.length : Int)) rfl (by kernel_rfl) (fun _ h => by cases h) (by go_simp) ?_
            go_simp
            refine anyIn_one (i := 9) (by kernel_rfl) ?_
            refine opIn_round rfl (by kernel_rfl) (fun _ h => by cases h) (by go_simp) hR ?_
            rintro e V3 ⟨⟨k1, k2⟩, hres⟩
            have f2 : V3.heap[W.heap.size + 1]? = some (.cells #[.int .i64 (pre.length : Int)] 2 (0, 0)) := (k1.same _ (by omega) (by omega)).trans e2
            rcases hres with ⟨rfl, hJ3⟩ | ⟨rfl, hJ3⟩
            · refine ⟨_, rfl, ?_⟩
              go_simp
              refine anyIn_one (i := 10) (by kernel_rfl) ?_
              refine opIn_value (.bool false) rfl (by kernel_rfl) (fun _ h => by cases h) (by go_simp) ?_
              go_simp
              refine anyIn_one (i := 11) (by kernel_rfl) ?_
              refine opIn_value (.bool false) rfl (by kernel_rfl) (fun _ h => by cases h) (by go_simp) ?_
              go_simp
              refine anyIn_done (by kernel_rfl) ?_
              have g1 := Boxed.cell f2
              have g2 := Boxed.frozen f2
              gi_wp2
              exact cont V3 k1 k2 hJ3 f2
            · refine ⟨_, rfl, ?_⟩
              go_simp
              refine anyIn_one (i := 10) (by kernel_rfl) ?_
              refine opIn_value (.bool true) rfl (by kernel_rfl) (fun _ h => by cases h) (by go_simp) ?_
              go_simp
              refine anyIn_one (i := 11) (by kernel_rfl) ?_
              refine opIn_value (.bool true) rfl (by kernel_rfl) (fun _ h => by cases h) (by go_simp) ?_
              go_simp
              refine anyIn_done (by kernel_rfl) ?_
              gi_wp2
              exact stopd V3 k1 k2 hJ3
          · refine opIn_value (.int .i64 (pre.length : Int)) rfl (by kernel_rfl) (fun _ h => by cases h) (by go_simp) ?_
            go_simp
            refine anyIn_one (i := 4) (by kernel_rfl) ?_
            refine opIn_value (.func (.yield l) #[] #[]) rfl (by kernel_rfl) (fun _ h => by cases h) (by go_simp) ?_
            go_simp
            refine anyIn_one (i := 9) (by kernel_rfl) ?_
            refine opIn_round rfl (by kernel_rfl) (fun _ h => by cases h) (by go_simp) hR ?_
            rintro e V3 ⟨⟨k1, k2⟩, hres⟩
            have f2 : V3.heap[W.heap.size + 1]? = some (.cells #[.int .i64 (pre.length : Int)] 2 (0, 0)) := (k1.same _ (by omega) (by omega)).trans e2
            rcases hres with ⟨rfl, hJ3⟩ | ⟨rfl, hJ3⟩
            · refine ⟨_, rfl, ?_⟩
              go_simp
              refine anyIn_one (i := 10) (by kernel_rfl) ?_
              refine opIn_value (.bool false) rfl (by kernel_rfl) (fun _ h => by cases h) (by go_simp) ?_
              go_simp
              refine anyIn_one (i := 11) (by kernel_rfl) ?_
              refine opIn_value (.bool false) rfl (by kernel_rfl) (fun _ h => by cases h) (by go_simp) ?_
              go_simp
              refine anyIn_done (by kernel_rfl) ?_
              have g1 := Boxed.cell f2
              have g2 := Boxed.frozen f2
              gi_wp2
              exact cont V3 k1 k2 hJ3 f2
            · refine ⟨_, rfl, ?_⟩
              go_simp
              refine anyIn_one (i := 10) (by kernel_rfl) ?_
              refine opIn_value (.bool true) rfl (by kernel_rfl) (fun _ h => by cases h) (by go_simp) ?_
              go_simp
              refine anyIn_one (i := 11) (by kernel_rfl) ?_
              refine opIn_value (.bool true) rfl (by kernel_rfl) (fun _ h => by cases h) (by go_simp) ?_
              go_simp
              refine anyIn_done (by kernel_rfl) ?_
              gi_wp2
              exact stopd V3 k1 k2 hJ3
  case done =>
    rintro M D xs V hD hS ⟨⟨zs, hz, hJz⟩, ⟨e1, e2⟩, e3⟩ hK
    gi_wp2
    refine ⟨by simp, .inl ⟨_, _, rfl, run_takeDeferred hK, ?_⟩⟩
    have hl : xs.length = K := by have := congrArg List.length hS; simpa using this
    refine ⟨_, results_none rfl _ _ _, ⟨_, rfl⟩, .inl ⟨M, zs, by rw [hz, hS, hl], ?_⟩⟩
    exact (hJ M).putObj _ hJz (by omega) hK rfl
  case stop =>
    rintro M D c pre V hD _ ⟨rfl, zs, hx⟩ hK
    gi_wp2
    refine ⟨by simp, .inl ⟨_, _, rfl, run_takeDeferred hK, ?_⟩⟩
    refine ⟨_, results_none rfl _ _ _, ⟨_, rfl⟩, .inr ⟨M, zs, trivial, ?_⟩⟩
    exact (hJx M).putObj _ hx (by omega) hK rfl

end Go.Proofs.YtaciallijnhieaaDoor
