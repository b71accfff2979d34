/- Several short texts in one: BitPutSpec, IntsP, Ints, SzB, SzI, Flat. -/
import Derived.Test.YtmfkgnifkkkkiaaDoorBitSpec
import Derived.Test.YtmfkgnifkkkkiaaDoorGeoSpec
import Derived.Test.YtmfkgnifkkkkiaaDoorRows
import Derived.Test.YtmfkgnifkkkkiaaDoorMem
namespace Go.Proofs.YtmfkgnifkkkkiaaDoor
open Go.RowKit

/-- A byte with bit r on or off. -/
def putBit (x : Int) (r : Nat) (on : Bool) : Int :=
  if decide (x.toNat / 2 ^ r % 2 = 1) = on then x else if on then x + 2 ^ r else x - 2 ^ r
def bitP (xs : List Int) (i : Int) (on : Bool) : List Int := if InMap xs i then xs.set (i.toNat / 8) (putBit (xs.getD (i.toNat / 8) 0) (i.toNat % 8) on) else []

theorem bitP_in {xs : List Int} {m : Nat} {on : Bool} (h : InMap xs m) : bitP xs m on = xs.set (m / 8) (putBit (xs.getD (m / 8) 0) (m % 8) on) := by unfold bitP; rw [if_pos h]; simp
theorem bitP_out {xs : List Int} {i : Int} {on : Bool} (h : ¬ InMap xs i) : bitP xs i on = [] := by unfold bitP; rw [if_neg h]
theorem bitP_len (xs : List Int) (i : Int) (on : Bool) : (bitP xs i on).length ≤ xs.length := by unfold bitP; split <;> simp

theorem up_bound {x r : Nat} (hx : x < 256) (hr : r < 8) (h : ¬ x / 2 ^ r % 2 = 1) : x + 2 ^ r < 256 := by
  match r, hr with
  | 0, _ | 1, _ | 2, _ | 3, _ | 4, _ | 5, _ | 6, _ | 7, _ => simp at h ⊢; omega
theorem down_bound {x r : Nat} (hr : r < 8) (h : x / 2 ^ r % 2 = 1) : 2 ^ r ≤ x := by
  match r, hr with
  | 0, _ | 1, _ | 2, _ | 3, _ | 4, _ | 5, _ | 6, _ | 7, _ => simp at h ⊢; omega
theorem pow_bound {r : Nat} (hr : r < 8) : 2 ^ r ≤ 128 := by
  match r, hr with
  | 0, _ | 1, _ | 2, _ | 3, _ | 4, _ | 5, _ | 6, _ | 7, _ => simp

theorem putBit_up {x r : Nat} (h : ¬ x / 2 ^ r % 2 = 1) : putBit x r true = ((x + 2 ^ r : Nat) : Int) := by unfold putBit; rw [if_neg (by simpa using h)]; simp
theorem putBit_down {x r : Nat} (hr : r < 8) (h : x / 2 ^ r % 2 = 1) : putBit x r false = ((x - 2 ^ r : Nat) : Int) := by
  have := down_bound hr h
  unfold putBit; rw [if_neg (by simpa using h), Int.ofNat_sub this]; simp
theorem putBit_same {x r : Nat} {on : Bool} (h : decide (x / 2 ^ r % 2 = 1) = on) : putBit x r on = x := by unfold putBit; rw [if_pos (by simpa using h)]

theorem OwnB.at {w : World} {base : Nat} {e : TypeId} {v : Value} {xs : List Int} (h : OwnB w base e v xs) (hn : 0 < xs.length) : ∃ g cap, v = .slice (some ⟨g, 0, none⟩) xs.length cap ∧ base ≤ g ∧ g < w.heap.size := by
  have hb := h.lt
  obtain ⟨_, h2⟩ := h
  rcases h2 with ⟨_, h0⟩ | ⟨g, cap, cur, rfl, hg, _⟩
  · omega
  · exact ⟨g, cap, rfl, hg, (hb g rfl).2⟩

theorem OwnB.putAt {w : World} {base g n cap : Nat} {e : TypeId} {xs : List Int} (h : OwnB w base e (.slice (some ⟨g, 0, none⟩) n cap) xs) (hn : xs.length = n) (i : Nat) (x : Int) :
    OwnB (w.setCell ⟨g, i, none⟩ (.int .u8 x)) base e (.slice (some ⟨g, 0, none⟩) n cap) (xs.set i x) := by
  subst hn
  have := (World.ownsRow.stored h i (.int .u8 x)).1
  unfold OwnB at *
  rw [List.length_set, List.map_set]
  exact this

set_option maxRecDepth 20000 in
set_option maxHeartbeats 1000000 in
theorem specBitPut_some (w : World) (xs : List Int) (m : Nat) (on : Bool) (lo hi b off cap : Nat) (hB : Byt xs) (hl : xs.length ≤ 2048) (hm : m < 8 * xs.length)
    (hV : View w lo hi .u8 (.slice (some ⟨b, off, none⟩) xs.length cap) xs) :
    Calls Tryd.prog 17 #[.slice (some ⟨b, off, none⟩) xs.length cap, .int .i64 m, .bool on] w fun e w' => ∃ v, e = .returned v ∧ OwnB w' w.heap.size 5 v (xs.set (m / 8) (putBit (xs.getD (m / 8) 0) (m % 8) on)) ∧ Chg 0 0 w w' := by
  have hb := hB.getD (m / 8)
  obtain ⟨y, hy⟩ : ∃ y : Nat, xs.getD (m / 8) 0 = y := ⟨(xs.getD (m / 8) 0).toNat, by omega⟩
  have HF : Hid (bitG xs m = decide (y / 2 ^ (m % 8) % 2 = 1)) := by show _ = _; rw [bitG_in ⟨hl, by omega, by omega⟩]; unfold bitN; rw [hy]; rfl
  have HV : Hid (View w lo hi .u8 (.slice (some ⟨b, off, none⟩) xs.length cap) xs) := hV
  have HY : Hid (xs.getD (m / 8) 0 = y) := hy
  rw [hy] at hb ⊢
  have hq : ((m / 8 : Nat) : Int) < (xs.length : Int) := by omega
  have e1 : ¬ (2048 : Int) < (xs.length : Int) := by omega
  have e2 : ¬ ((m : Int)) < 0 := by omega
  have e3 : ¬ 8 * (xs.length : Int) ≤ (m : Int) := by omega
  have hr : m % 8 < 8 := by omega
  have hN := l1Copy_calls w (by omega) hV
  clear hy hV
  go_enter Tryd.func17, Tryd.ntmps17
  go_wp2_with fail
  refine hN.mono ?_
  rintro e w1 ⟨v, rfl, ov, hc⟩
  have HC : Hid (Chg 0 0 w w1) := hc
  obtain ⟨g, gcap, rfl, hg, hg'⟩ := ov.at (by omega)
  have HO : Hid (OwnB w1 w.heap.size 5 (.slice (some ⟨g, 0, none⟩) xs.length gcap) xs) := ov
  clear hN ov hc
  obtain ⟨r, Hr⟩ : ∃ r : Nat, Hid (m % 8 = r) := ⟨_, rfl⟩
  have hmr : ((m : Int) % 8) = (r : Int) := by have := Hr.out; omega
  rw [Hr.out] at HF hr
  have hmr' : m % 8 = r := Hr.out
  have hpw := pow_bound hr
  have HG : Hid (y / 2 ^ r % 2 = 1 → 2 ^ r ≤ y) := fun h => down_bound hr h
  have HU : Hid (¬ y / 2 ^ r % 2 = 1 → y + 2 ^ r < 256) := fun h => up_bound (by omega) hr h
  have C1 : w1.cell? ⟨g, m / 8, none⟩ = some (.int .u8 y) := by
    have := World.ownsRow.cellAt HO.out (m / 8) (by omega)
    rw [this, List.getElem?_map]
    have e : xs[m / 8]? = some (y : Int) := by
      have := HY.out
      rw [List.getD_eq_getElem?_getD] at this
      rw [List.getElem?_eq_getElem (by omega)] at this ⊢
      exact congrArg some this
    rw [e]; rfl
  have C2 : w1.frozen? ⟨g, m / 8, none⟩ = false := World.ownsRow.frozenAt HO.out (m / 8)
  have hC := specBitGet_calls w1 m hB (by omega) (HV.out.chg HC.out (by omega))
  rw [HF.out] at hC
  have HS : Hid (∀ z : Nat, OwnB (w1.setCell ⟨g, m / 8, none⟩ (.int .u8 z)) w.heap.size 5 (.slice (some ⟨g, 0, none⟩) xs.length gcap) (xs.set (m / 8) z)) := fun z => HO.out.putAt rfl (m / 8) z
  have HCS : Hid (∀ z : Nat, Chg 0 0 w (w1.setCell ⟨g, m / 8, none⟩ (.int .u8 z))) := fun z => HC.out.setCell (Or.inr hg) _
  have HSame : Hid (xs.set (m / 8) (y : Int) = xs) := by
    show _ = _
    refine List.ext_getElem? fun i => ?_
    by_cases e : i = m / 8
    · subst e
      rw [List.getElem?_set_self (by omega)]
      have := HY.out
      rw [List.getD_eq_getElem?_getD, List.getElem?_eq_getElem (by omega)] at this
      rw [List.getElem?_eq_getElem (by omega)]
      exact congrArg some this.symm
    · rw [List.getElem?_set_ne (fun h => e h.symm)]
  go_wp2
  generalize hP : 2 ^ r = P at *
  have HP : Hid (2 ^ r = P) := hP
  clear hP
  go_loopw [8, 9] (fun u k wr => wr = w1 ∧ ∃ j : Nat, j ≤ r ∧ k = .int .i64 ((r - j : Nat) : Int) ∧ u = .int .u8 ((2 ^ j : Nat) : Int)) (fun _ k _ => (intOf k).toNat)
  case atStart => exact ⟨rfl, 0, Nat.zero_le _, by rw [hmr]; simp, by simp⟩
  case round =>
    obtain ⟨rfl, j, hj, rfl, rfl⟩ := hrel
    by_cases hlt : j < r
    · have hp : (0 : Int) < ((r - j : Nat) : Int) := by omega
      have hz : 2 ^ j ≤ 64 := by
        have : j < 7 := by omega
        match j, this with
        | 0, _ | 1, _ | 2, _ | 3, _ | 4, _ | 5, _ | 6, _ => simp
      have Hs : Hid (2 ^ j * 2 = 2 ^ (j + 1)) := (Nat.pow_succ 2 j).symm
      generalize 2 ^ j = z at *
      generalize hrj : r - j = d at *
      have Hd : Hid (r - j = d) := hrj
      have hdb : d ≤ 8 := by omega
      clear hrj hC
      go_wp2
      go_roundw
      case rel => exact ⟨trivial, j + 1, by omega, by have := Hd.out; congr 1; omega, by rw [← Hs.out]; go_num⟩
      case measure => simp [intOf]; omega
    · obtain rfl : j = r := by omega
      rw [Nat.sub_self, HP.out]
      go_wp2_with fail
      refine hC.mono ?_
      rintro e w2 ⟨rfl, rfl⟩
      clear hC
      by_cases hbit : y / P % 2 = 1
      · have hPy : P ≤ y := HG.out hbit
        have Hz : Hid (putBit y j false = ((y - P : Nat) : Int)) := by show _ = _; rw [← HP.out]; exact putBit_down hr (by rw [HP.out]; exact hbit)
        have Ho : Hid (putBit y j true = (y : Int)) := putBit_same (by rw [HP.out]; simpa using hbit)
        rw [decide_eq_true hbit]
        clear hbit
        cases on with
        | true =>
          go_wp2
          go_ret
          exact ⟨_, rfl, by rw [Hr.out, Ho.out, HSame.out]; exact HO.out, HC.out⟩
        | false =>
          have hsub : (y : Int) - (P : Int) = ((y - P : Nat) : Int) := by omega
          go_wp2
          go_ret
          refine ⟨_, rfl, by rw [Hr.out, Hz.out]; exact HS.out _, HCS.out _⟩
      · have hPy : y + P < 256 := HU.out hbit
        have Hz : Hid (putBit y j true = ((y + P : Nat) : Int)) := by show _ = _; rw [← HP.out]; exact putBit_up (by rw [HP.out]; exact hbit)
        have Ho : Hid (putBit y j false = (y : Int)) := putBit_same (by rw [HP.out]; simpa using hbit)
        rw [decide_eq_false hbit]
        clear hbit
        cases on with
        | true =>
          go_wp2
          go_ret
          refine ⟨_, rfl, by rw [Hr.out, Hz.out]; exact HS.out _, HCS.out _⟩
        | false =>
          go_wp2
          go_ret
          exact ⟨_, rfl, by rw [Hr.out, Ho.out, HSame.out]; exact HO.out, HC.out⟩

set_option maxRecDepth 20000 in
set_option maxHeartbeats 400000 in
theorem specBitPut_out (w : World) (n : Nat) (ao : Option Addr) (cap : Nat) (i : Int) (on : Bool) (hl : n ≤ 1048576) (ho : ¬ (n ≤ 2048 ∧ 0 ≤ i ∧ i < 8 * (n : Int))) :
    Calls Tryd.prog 17 #[.slice ao n cap, .int .i64 i, .bool on] w fun e w' => ∃ v, e = .returned v ∧ OwnB w' w.heap.size 5 v [] ∧ Chg 0 0 w w' := by
  have H0 : Hid (OwnB (w.alloc (.cells #[] 5)) w.heap.size 5 (.slice (some ⟨w.heap.size, 0, none⟩) 0 0) []) :=
    ⟨rfl, Or.inr ⟨w.heap.size, 0, #[], rfl, Nat.le_refl _, heap_new w _, Nat.le_refl _, Nat.zero_le _, rfl, rfl⟩⟩
  have HC : Hid (Chg 0 0 w (w.alloc (.cells #[] 5))) := Chg.alloc (Chg.refl 0 0 w) _
  by_cases h0 : n ≤ 2048
  · by_cases h1 : i < 0
    · go_enter Tryd.func17, Tryd.ntmps17
      go_wp2
      go_ret
      exact ⟨_, rfl, H0.out, HC.out⟩
    · have h2 : 8 * (n : Int) ≤ i := by omega
      clear ho
      go_enter Tryd.func17, Tryd.ntmps17
      go_wp2
      go_ret
      exact ⟨_, rfl, H0.out, HC.out⟩
  · have h1 : (2048 : Int) < (n : Int) := by omega
    clear ho
    go_enter Tryd.func17, Tryd.ntmps17
    go_wp2
    go_ret
    exact ⟨_, rfl, H0.out, HC.out⟩

theorem specBitPut_calls (w : World) {lo hi : Nat} {a : Value} {xs : List Int} (i : Int) (on : Bool) (hB : Byt xs) (hl : xs.length ≤ 1048576) (h1 : View w lo hi .u8 a xs) :
    Calls Tryd.prog 17 #[a, .int .i64 i, .bool on] w fun e w' => ∃ v, e = .returned v ∧ OwnB w' w.heap.size 5 v (bitP xs i on) ∧ Chg 0 0 w w' := by
  have hV := h1
  obtain ⟨ao, cap, rfl, _, _, h1⟩ := h1
  by_cases ho : InMap xs i
  · obtain ⟨m, rfl⟩ : ∃ m : Nat, i = m := ⟨i.toNat, by have := ho.2.1; omega⟩
    rw [bitP_in ho]
    have h3 := ho.2.2
    rcases h1 with rfl | ⟨x, off, rfl, _, _, h1⟩
    · simp at h3; omega
    · exact specBitPut_some w xs m on lo hi x off cap hB ho.1 (by omega) hV
  · rw [bitP_out ho]
    exact specBitPut_out w xs.length ao cap i on hl ho

end Go.Proofs.YtmfkgnifkkkkiaaDoor

namespace Go.Proofs.YtmfkgnifkkkkiaaDoor
open Go.RowKit

theorem Tryd.infoI : (Tryd.prog.info? 2).map (fun i => (i.zero, i.size, i.bytes)) = some (some (.int .i64 0), 1, 8) := by kernel_rfl

/-- A row of numbers that is this slice's own. -/
def OwnI (w : World) (base : Nat) (e : TypeId) (v : Value) (xs : List Int) : Prop := w.ownsRow base e 1 v xs.length (xs.map (Value.int .i64))

theorem OwnI.view {w : World} {base : Nat} {e : TypeId} {v : Value} {xs : List Int} (h : OwnI w base e v xs) (hl : xs.length ≤ 9223372036854775807) {hi : Nat} (hb : ∀ g, v.ownBlock = some g → g < hi) : View w base hi .i64 v xs := by
  have h' := h
  obtain ⟨_, h2⟩ := h
  rcases h2 with ⟨rfl, h0⟩ | ⟨g, cap, cur, rfl, hg, hh, hc, hm, hs, ht⟩
  · obtain rfl : xs = [] := List.eq_nil_of_length_eq_zero h0
    exact View.nil _ _ _ _
  · refine ⟨_, cap, rfl, hl, ⟨hc, by simp⟩, ?_⟩
    refine Or.inr ⟨g, 0, rfl, hg, hb g rfl, fun i hi => ?_⟩
    have := World.ownsRow.cellAt h' i (by simpa using hi)
    rw [Nat.zero_add, this]
    simp [hi]

theorem OwnI.chg {w w' : World} {base l r : Nat} {e : TypeId} {v : Value} {xs : List Int} (h : OwnI w base e v xs) (c : Chg l r w w') (d : ∀ g, v.ownBlock = some g → g < l ∨ r ≤ g) : OwnI w' base e v xs := by
  obtain ⟨h1, h2⟩ := h
  refine ⟨h1, ?_⟩
  rcases h2 with h2 | ⟨g, cap, cur, hv, hg, hh, r⟩
  · exact Or.inl h2
  · refine Or.inr ⟨g, cap, cur, hv, hg, ?_, r⟩
    rw [c.block g (Array.getElem?_eq_some_iff.1 hh).1 (d g (by rw [hv]; rfl))]; exact hh


theorem OwnI.lt {w : World} {base : Nat} {e : TypeId} {v : Value} {xs : List Int} (h : OwnI w base e v xs) : ∀ g, v.ownBlock = some g → base ≤ g ∧ g < w.heap.size := World.ownsRow.lt h

end Go.Proofs.YtmfkgnifkkkkiaaDoor

namespace Go.Proofs.YtmfkgnifkkkkiaaDoor
open Go.RowKit

theorem take_set_dropI (xs : List Int) (k : Nat) (h : k < xs.length) :
    ((xs.take k ++ List.replicate (xs.length - k) 0).map (Value.int .i64)).set k (.int .i64 (xs.getD k 0)) = (xs.take (k + 1) ++ List.replicate (xs.length - (k + 1)) 0).map (Value.int .i64) := by
  have e : xs.length - k = (xs.length - (k + 1)) + 1 := by omega
  rw [e, List.replicate_succ, List.map_append, List.map_cons, List.set_append]
  simp only [List.length_map, List.length_take, Nat.min_eq_left (Nat.le_of_lt h), Nat.lt_irrefl, if_false, Nat.sub_self, List.set_cons_zero]
  rw [List.take_succ_eq_append_getElem h, List.map_append, List.map_append]
  simp [List.getD_eq_getElem?_getD, h]

/-- The marks k, k + 1, .. -/
def marksI (k n : Nat) : List Int := (List.range n).map fun i => ((k + i : Nat) : Int)
theorem marksI_length (k n : Nat) : (marksI k n).length = n := by simp [marksI]
theorem marksI_succ (k0 k : Nat) : marksI k0 (k + 1) = marksI k0 k ++ [((k0 + k : Nat) : Int)] := by
  simp [marksI, List.range_succ]
theorem marksI_set (k0 k : Nat) (xs : List Int) (h : k < xs.length) :
    ((marksI k0 k ++ xs.drop k).map (Value.int .i64)).set k (.int .i64 ((k0 + k : Nat) : Int)) = (marksI k0 (k + 1) ++ xs.drop (k + 1)).map (Value.int .i64) := by
  have hd : xs.drop k = xs[k] :: xs.drop (k + 1) := by simp
  rw [hd, marksI_succ, List.map_append, List.map_cons, List.set_append]
  simp [marksI_length]

end Go.Proofs.YtmfkgnifkkkkiaaDoor

namespace Go.Proofs.YtmfkgnifkkkkiaaDoor
open Go.RowKit

/-- What is left of a count of at most left where n are taken: -1 if there are not so many. -/
def lft (left n : Nat) : Int := if n ≤ left then ((left - n : Nat) : Int) else -1

theorem lft_pos {left n : Nat} (h : n ≤ left) : lft left n = ((left - n : Nat) : Int) := by unfold lft; rw [if_pos h]
theorem lft_neg {left n : Nat} (h : ¬ n ≤ left) : lft left n = -1 := by unfold lft; rw [if_neg h]

end Go.Proofs.YtmfkgnifkkkkiaaDoor

namespace Go.Proofs.YtmfkgnifkkkkiaaDoor
open Go.RowKit

end Go.Proofs.YtmfkgnifkkkkiaaDoor

namespace Go.Proofs.YtmfkgnifkkkkiaaDoor
open Go.RowKit

/-- k structs of n numbers each: all their numbers in a row. -/
def FView (n : Nat) (w : World) (lo hi : Nat) (v : Value) (k : Nat) (fs : List Int) : Prop :=
  ∃ ao cap, v = .slice ao k cap ∧ fs.length = k * n ∧ k ≤ 9223372036854775807 ∧ (k ≤ cap ∧ (ao = none → cap = 0)) ∧
    (k = 0 ∨ ∃ b off, ao = some ⟨b, off, none⟩ ∧ lo ≤ b ∧ b < hi ∧ ∀ j, j < k * n → w.cell? ⟨b, off + j, none⟩ = some (.int .i64 (fs.getD j 0)))

theorem FView.chg {n : Nat} {w w' : World} {lo hi l r : Nat} {v : Value} {k : Nat} {fs : List Int} (h : FView n w lo hi v k fs) (c : Chg l r w w') (d : hi ≤ l ∨ r ≤ lo ∨ r ≤ l) : FView n w' lo hi v k fs := by
  obtain ⟨ao, cap, hv, h1, h2, h3, h4⟩ := h
  refine ⟨ao, cap, hv, h1, h2, h3, ?_⟩
  rcases h4 with h4 | ⟨b, off, hao, hb, hb', h4⟩
  · exact Or.inl h4
  · exact Or.inr ⟨b, off, hao, hb, hb', fun j hj => c.cell (h4 j hj) (by show b < l ∨ r ≤ b; omega)⟩

theorem FView.slice {n : Nat} {w : World} {lo hi : Nat} {v : Value} {k : Nat} {fs : List Int} (h : FView n w lo hi v k fs) : ∃ ao cap, v = .slice ao k cap := by
  obtain ⟨ao, cap, rfl, _⟩ := h; exact ⟨ao, cap, rfl⟩

/-- The same, owned. -/
def OwnF (n : Nat) (w : World) (base : Nat) (e : TypeId) (v : Value) (k : Nat) (fs : List Int) : Prop := w.ownsRow base e n v k (fs.map (Value.int .i64))

theorem OwnF.lt {n : Nat} {w : World} {base : Nat} {e : TypeId} {v : Value} {k : Nat} {fs : List Int} (h : OwnF n w base e v k fs) : ∀ g, v.ownBlock = some g → base ≤ g ∧ g < w.heap.size := World.ownsRow.lt h

theorem OwnF.chg {n : Nat} {w w' : World} {base l r : Nat} {e : TypeId} {v : Value} {k : Nat} {fs : List Int} (h : OwnF n w base e v k fs) (c : Chg l r w w') (d : ∀ g, v.ownBlock = some g → g < l ∨ r ≤ g) : OwnF n w' base e v k fs := by
  obtain ⟨h1, h2⟩ := h
  refine ⟨h1, ?_⟩
  rcases h2 with h2 | ⟨g, cap, cur, hv, hg, hh, r⟩
  · exact Or.inl h2
  · refine Or.inr ⟨g, cap, cur, hv, hg, ?_, r⟩
    rw [c.block g (Array.getElem?_eq_some_iff.1 hh).1 (d g (by rw [hv]; rfl))]; exact hh

theorem OwnF.base {n : Nat} {w : World} {base base' : Nat} {e : TypeId} {v : Value} {k : Nat} {fs : List Int} (h : OwnF n w base e v k fs) (hb : ∀ g, v.ownBlock = some g → base' ≤ g) : OwnF n w base' e v k fs := by
  obtain ⟨h1, h2⟩ := h
  refine ⟨h1, ?_⟩
  rcases h2 with h2 | ⟨g, cap, cur, hv, hg, hh, r⟩
  · exact Or.inl h2
  · exact Or.inr ⟨g, cap, cur, hv, hb g (by rw [hv]; rfl), hh, r⟩

theorem OwnF.len {n : Nat} {w : World} {base : Nat} {e : TypeId} {v : Value} {k : Nat} {fs : List Int} (h : OwnF n w base e v k fs) : fs.length = k * n := by
  have := h.1; rwa [List.length_map] at this

theorem OwnF.view {n : Nat} {w : World} {base : Nat} {e : TypeId} {v : Value} {k : Nat} {fs : List Int} (h : OwnF n w base e v k fs) (hk : k ≤ 9223372036854775807) {hi : Nat} (hb : ∀ g, v.ownBlock = some g → g < hi) : FView n w base hi v k fs := by
  have h' := h
  have hlen := h.len
  obtain ⟨_, h2⟩ := h
  rcases h2 with ⟨rfl, h0⟩ | ⟨g, cap, cur, rfl, hg, hh, hc, hm, hs, ht⟩
  · subst h0; exact ⟨none, 0, rfl, hlen, hk, ⟨Nat.le_refl _, fun _ => rfl⟩, Or.inl rfl⟩
  · refine ⟨_, cap, rfl, hlen, hk, ⟨hc, fun h => by cases h⟩, Or.inr ⟨g, 0, rfl, hg, hb g rfl, fun j hj => ?_⟩⟩
    rw [Nat.zero_add, World.ownsRow.cellAt h' j hj]
    rw [List.getElem?_map, List.getElem?_eq_getElem (by omega)]
    simp [List.getD_eq_getElem?_getD, List.getElem?_eq_getElem (show j < fs.length by omega)]

/-- Numbers that count up. -/
def marksF (k0 m : Nat) : List Int := (List.range m).map fun i => ((k0 + i : Nat) : Int)
theorem marksF_length (k0 m : Nat) : (marksF k0 m).length = m := by simp [marksF]
theorem marksF_getD (k0 m i : Nat) (h : i < m) : (marksF k0 m).getD i 0 = ((k0 + i : Nat) : Int) := by simp [marksF, List.getD_eq_getElem?_getD, h]
theorem marksF_set (k0 m : Nat) (fs : List Int) (h : m < fs.length) : ((marksF k0 m ++ fs.drop m).map (Value.int .i64)).set m (.int .i64 ((k0 + m : Nat) : Int)) = (marksF k0 (m + 1) ++ fs.drop (m + 1)).map (Value.int .i64) := by
  rw [← List.map_set]
  congr 1
  rw [List.set_append, marksF_length, if_neg (by omega), Nat.sub_self, List.drop_eq_getElem_cons h, List.set_cons_zero]
  have : marksF k0 (m + 1) = marksF k0 m ++ [((k0 + m : Nat) : Int)] := by simp [marksF, List.range_succ]
  rw [this, List.append_assoc]; rfl

/-- append of structs that are seen to structs that are owned. -/
theorem wpList_app_flat {n : Nat} {P : Program} {w : World} {ops : Array Oper} {rest : List Oper} {o : Oper} {a : Act} {Q : Exit → Act → World → Prop} (hgd : o.guard = none) (s x : Operand) (t : TypeId)
    (ho : o.op = .call { callee := .builtin .append, args := #[s, x], argTypes := #[t, t] }) (base : Nat) (e : TypeId) (i : TypeInfo) (z : Value) (bytes : Nat) (ht : P.underlying t = some (.slice e)) (hi : P.info? e = some i) (hz : i.zero = some z)
    (hsize : i.size = n) (hby : i.bytes = bytes) (hzs : z.cells.size = n) (hsz : 0 < n) (v : Value) (k : Nat) (fs : List Int) (hs : a.eval s = v) (hown : OwnF n w base e v k fs)
    (b m c : Nat) (ys : List Int) (hx : a.eval x = .slice (some ⟨b, 0, none⟩) m c) (hl : ys.length = m * n) (hm : 0 < m) (hc : ∀ j, j < m * n → w.cell? ⟨b, j, none⟩ = some (.int .i64 (ys.getD j 0)))
    (hk : k + m ≤ 1048576) (hb64 : bytes ≤ 1024) (hbase : base ≤ w.heap.size)
    (h : ∀ v' w', (∃ g cap, v' = .slice (some ⟨g, 0, none⟩) (k + m) cap) → OwnF n w' base e v' (k + m) (fs ++ ys) → Chg base w.heap.size w w' → wpList P ops Q rest (a.put o.dst v') w') : wpList P ops Q (o :: rest) a w := by
  refine wpList_append_own w hgd s x t ho base e i z n bytes ht hi hz hsize hby hzs hsz v k _ hs hown ⟨b, 0, none⟩ m c (ys.map (Value.int .i64)) hx (by rw [List.length_map]; exact hl) ?_ ?_ (by unfold maxLen; omega) (Nat.le_trans (Nat.mul_le_mul hk hb64) (by omega)) hbase ?_
  · intro j u hj
    obtain ⟨hj', hu⟩ := List.getElem?_eq_some_iff.1 hj
    rw [List.length_map] at hj'
    have := hc j (by omega)
    rw [Go.WideShapes.add_plain, Nat.zero_add, this, ← hu]
    simp [List.getD_eq_getElem?_getD, List.getElem?_eq_getElem hj']
  · intro u hu
    obtain ⟨y, _, rfl⟩ := List.mem_map.1 hu
    rfl
  · intro v' w' h1 h2 _
    refine h v' w' ?_ (by unfold OwnF; rw [List.map_append]; exact h1) (Chg.ofGrown h2 (fun g hg hlt => ⟨(World.ownsRow.lt hown g hg).1, hlt⟩))
    rcases h1.2 with ⟨_, h0⟩ | ⟨g', cap', cur, e', _⟩
    · omega
    · exact ⟨g', cap', e'⟩

theorem OwnF.nil {n : Nat} (w : World) (e : TypeId) : OwnF n (w.alloc (.cells #[] e)) w.heap.size e (.slice (some ⟨w.heap.size, 0, none⟩) 0 0) 0 [] := by
  have := World.ownsRow_lit (base := w.heap.size) (e := e) (size := n) w #[] 0 (Nat.le_refl _) (by unfold maxLen; omega) (by simp)
  simpa [OwnF] using this

theorem OwnF.at {n : Nat} {w : World} {base : Nat} {e : TypeId} {v : Value} {k : Nat} {fs : List Int} (h : OwnF n w base e v k fs) (hk : 0 < k) : ∃ g cap, v = .slice (some ⟨g, 0, none⟩) k cap ∧ base ≤ g ∧ g < w.heap.size := by
  have hb := h.lt
  obtain ⟨_, h2⟩ := h
  rcases h2 with ⟨_, h0⟩ | ⟨g, cap, cur, rfl, hg, _⟩
  · omega
  · exact ⟨g, cap, rfl, hg, (hb g rfl).2⟩

theorem OwnF.cell {n : Nat} {w : World} {base : Nat} {e : TypeId} {g k cap : Nat} {fs : List Int} (h : OwnF n w base e (.slice (some ⟨g, 0, none⟩) k cap) k fs) (j : Nat) (hj : j < k * n) :
    w.cell? ⟨g, j, none⟩ = some (.int .i64 (fs.getD j 0)) ∧ w.frozen? ⟨g, j, none⟩ = false := by
  have hlen := h.len
  refine ⟨?_, World.ownsRow.frozenAt h j⟩
  rw [World.ownsRow.cellAt h j hj, List.getElem?_map, List.getElem?_eq_getElem (by omega)]
  simp [List.getD_eq_getElem?_getD, List.getElem?_eq_getElem (show j < fs.length by omega)]

theorem OwnF.put {n : Nat} {w : World} {base : Nat} {e : TypeId} {g k cap : Nat} {fs : List Int} (h : OwnF n w base e (.slice (some ⟨g, 0, none⟩) k cap) k fs) (j : Nat) (x : Int) :
    OwnF n (w.setCell ⟨g, j, none⟩ (.int .i64 x)) base e (.slice (some ⟨g, 0, none⟩) k cap) k (fs.set j x) := by
  have := (World.ownsRow.stored h j (.int .i64 x)).1
  unfold OwnF at *
  rw [List.map_set]; exact this

end Go.Proofs.YtmfkgnifkkkkiaaDoor
