/- BitPut of the model. -/
import Derived.Test.YtjledihgmlhmaaaBitSpec
import Derived.Test.YtjledihgmlhmaaaCopy
namespace Go.Proofs.Ytjledihgmlhmaaa
open Go.RowKit

/-- A byte with bit r on or off. -/
def putBit (x : Int) (r : Nat) (on : Bool) : Int :=
  if decide (x.toNat / 2 ^ r % 2 = 1) = on then x else if on then x + 2 ^ r else x - 2 ^ r
def bitP (xs : List Int) (i : Int) (on : Bool) : List Int := if InMap xs i then xs.set (i.toNat / 8) (putBit (xs.getD (i.toNat / 8) 0) (i.toNat % 8) on) else []

theorem bitP_in {xs : List Int} {m : Nat} {on : Bool} (h : InMap xs m) : bitP xs m on = xs.set (m / 8) (putBit (xs.getD (m / 8) 0) (m % 8) on) := by unfold bitP; rw [if_pos h]; simp
theorem bitP_out {xs : List Int} {i : Int} {on : Bool} (h : ¬ InMap xs i) : bitP xs i on = [] := by unfold bitP; rw [if_neg h]
theorem bitP_len (xs : List Int) (i : Int) (on : Bool) : (bitP xs i on).length ≤ xs.length := by unfold bitP; split <;> simp

theorem up_bound {x r : Nat} (hx : x < 256) (hr : r < 8) (h : ¬ x / 2 ^ r % 2 = 1) : x + 2 ^ r < 256 := by
  match r, hr with
  | 0, _ | 1, _ | 2, _ | 3, _ | 4, _ | 5, _ | 6, _ | 7, _ => simp at h ⊢; omega
theorem down_bound {x r : Nat} (hr : r < 8) (h : x / 2 ^ r % 2 = 1) : 2 ^ r ≤ x := by
  match r, hr with
  | 0, _ | 1, _ | 2, _ | 3, _ | 4, _ | 5, _ | 6, _ | 7, _ => simp at h ⊢; omega
theorem pow_bound {r : Nat} (hr : r < 8) : 2 ^ r ≤ 128 := by
  match r, hr with
  | 0, _ | 1, _ | 2, _ | 3, _ | 4, _ | 5, _ | 6, _ | 7, _ => simp

theorem putBit_up {x r : Nat} (h : ¬ x / 2 ^ r % 2 = 1) : putBit x r true = ((x + 2 ^ r : Nat) : Int) := by unfold putBit; rw [if_neg (by simpa using h)]; simp
theorem putBit_down {x r : Nat} (hr : r < 8) (h : x / 2 ^ r % 2 = 1) : putBit x r false = ((x - 2 ^ r : Nat) : Int) := by
  have := down_bound hr h
  unfold putBit; rw [if_neg (by simpa using h), Int.ofNat_sub this]; simp
theorem putBit_same {x r : Nat} {on : Bool} (h : decide (x / 2 ^ r % 2 = 1) = on) : putBit x r on = x := by unfold putBit; rw [if_pos (by simpa using h)]

theorem OwnB.at {w : World} {base : Nat} {e : TypeId} {v : Value} {xs : List Int} (h : OwnB w base e v xs) (hn : 0 < xs.length) : ∃ g cap, v = .slice (some ⟨g, 0, none⟩) xs.length cap ∧ base ≤ g ∧ g < w.heap.size := by
  have hb := h.lt
  obtain ⟨_, h2⟩ := h
  rcases h2 with ⟨_, h0⟩ | ⟨g, cap, cur, rfl, hg, _⟩
  · omega
  · exact ⟨g, cap, rfl, hg, (hb g rfl).2⟩

theorem OwnB.putAt {w : World} {base g n cap : Nat} {e : TypeId} {xs : List Int} (h : OwnB w base e (.slice (some ⟨g, 0, none⟩) n cap) xs) (hn : xs.length = n) (i : Nat) (x : Int) :
    OwnB (w.setCell ⟨g, i, none⟩ (.int .u8 x)) base e (.slice (some ⟨g, 0, none⟩) n cap) (xs.set i x) := by
  subst hn
  have := (World.ownsRow.stored h i (.int .u8 x)).1
  unfold OwnB at *
  rw [List.length_set, List.map_set]
  exact this

set_option maxRecDepth 20000 in
set_option maxHeartbeats 1000000 in
theorem specBitPut_some (w : World) (xs : List Int) (m : Nat) (on : Bool) (lo hi b off cap : Nat) (hB : Byt xs) (hl : xs.length ≤ 2048) (hm : m < 8 * xs.length)
    (hV : View w lo hi .u8 (.slice (some ⟨b, off, none⟩) xs.length cap) xs) :
    Calls Try.prog 4 #[.slice (some ⟨b, off, none⟩) xs.length cap, .int .i64 m, .bool on] w fun e w' => ∃ v, e = .returned v ∧ OwnB w' w.heap.size 5 v (xs.set (m / 8) (putBit (xs.getD (m / 8) 0) (m % 8) on)) ∧ Chg 0 0 w w' := by
  have hb := hB.getD (m / 8)
  obtain ⟨y, hy⟩ : ∃ y : Nat, xs.getD (m / 8) 0 = y := ⟨(xs.getD (m / 8) 0).toNat, by omega⟩
  have HF : Hid (bitG xs m = decide (y / 2 ^ (m % 8) % 2 = 1)) := by show _ = _; rw [bitG_in ⟨hl, by omega, by omega⟩]; unfold bitN; rw [hy]; rfl
  have HV : Hid (View w lo hi .u8 (.slice (some ⟨b, off, none⟩) xs.length cap) xs) := hV
  have HY : Hid (xs.getD (m / 8) 0 = y) := hy
  rw [hy] at hb ⊢
  have hq : ((m / 8 : Nat) : Int) < (xs.length : Int) := by omega
  have e1 : ¬ (2048 : Int) < (xs.length : Int) := by omega
  have e2 : ¬ ((m : Int)) < 0 := by omega
  have e3 : ¬ 8 * (xs.length : Int) ≤ (m : Int) := by omega
  have hr : m % 8 < 8 := by omega
  have hN := l1Copy_calls w (by omega) hV
  clear hy hV
  go_enter Try.func4, Try.ntmps4
  go_wp2_with fail
  refine hN.mono ?_
  rintro e w1 ⟨v, rfl, ov, hc⟩
  have HC : Hid (Chg 0 0 w w1) := hc
  obtain ⟨g, gcap, rfl, hg, hg'⟩ := ov.at (by omega)
  have HO : Hid (OwnB w1 w.heap.size 5 (.slice (some ⟨g, 0, none⟩) xs.length gcap) xs) := ov
  clear hN ov hc
  obtain ⟨r, Hr⟩ : ∃ r : Nat, Hid (m % 8 = r) := ⟨_, rfl⟩
  have hmr : ((m : Int) % 8) = (r : Int) := by have := Hr.out; omega
  rw [Hr.out] at HF hr
  have hmr' : m % 8 = r := Hr.out
  have hpw := pow_bound hr
  have HG : Hid (y / 2 ^ r % 2 = 1 → 2 ^ r ≤ y) := fun h => down_bound hr h
  have HU : Hid (¬ y / 2 ^ r % 2 = 1 → y + 2 ^ r < 256) := fun h => up_bound (by omega) hr h
  have C1 : w1.cell? ⟨g, m / 8, none⟩ = some (.int .u8 y) := by
    have := World.ownsRow.cellAt HO.out (m / 8) (by omega)
    rw [this, List.getElem?_map]
    have e : xs[m / 8]? = some (y : Int) := by
      have := HY.out
      rw [List.getD_eq_getElem?_getD] at this
      rw [List.getElem?_eq_getElem (by omega)] at this ⊢
      exact congrArg some this
    rw [e]; rfl
  have C2 : w1.frozen? ⟨g, m / 8, none⟩ = false := World.ownsRow.frozenAt HO.out (m / 8)
  have hC := specBitGet_calls w1 m hB (by omega) (HV.out.chg HC.out (by omega))
  rw [HF.out] at hC
  have HS : Hid (∀ z : Nat, OwnB (w1.setCell ⟨g, m / 8, none⟩ (.int .u8 z)) w.heap.size 5 (.slice (some ⟨g, 0, none⟩) xs.length gcap) (xs.set (m / 8) z)) := fun z => HO.out.putAt rfl (m / 8) z
  have HCS : Hid (∀ z : Nat, Chg 0 0 w (w1.setCell ⟨g, m / 8, none⟩ (.int .u8 z))) := fun z => HC.out.setCell (Or.inr hg) _
  have HSame : Hid (xs.set (m / 8) (y : Int) = xs) := by
    show _ = _
    refine List.ext_getElem? fun i => ?_
    by_cases e : i = m / 8
    · subst e
      rw [List.getElem?_set_self (by omega)]
      have := HY.out
      rw [List.getD_eq_getElem?_getD, List.getElem?_eq_getElem (by omega)] at this
      rw [List.getElem?_eq_getElem (by omega)]
      exact congrArg some this.symm
    · rw [List.getElem?_set_ne (fun h => e h.symm)]
  go_wp2
  generalize hP : 2 ^ r = P at *
  have HP : Hid (2 ^ r = P) := hP
  clear hP
  go_loopw [8, 9] (fun u k wr => wr = w1 ∧ ∃ j : Nat, j ≤ r ∧ k = .int .i64 ((r - j : Nat) : Int) ∧ u = .int .u8 ((2 ^ j : Nat) : Int)) (fun _ k _ => (intOf k).toNat)
  case atStart => exact ⟨rfl, 0, Nat.zero_le _, by rw [hmr]; simp, by simp⟩
  case round =>
    obtain ⟨rfl, j, hj, rfl, rfl⟩ := hrel
    by_cases hlt : j < r
    · have hp : (0 : Int) < ((r - j : Nat) : Int) := by omega
      have hz : 2 ^ j ≤ 64 := by
        have : j < 7 := by omega
        match j, this with
        | 0, _ | 1, _ | 2, _ | 3, _ | 4, _ | 5, _ | 6, _ => simp
      have Hs : Hid (2 ^ j * 2 = 2 ^ (j + 1)) := (Nat.pow_succ 2 j).symm
      generalize 2 ^ j = z at *
      generalize hrj : r - j = d at *
      have Hd : Hid (r - j = d) := hrj
      have hdb : d ≤ 8 := by omega
      clear hrj hC
      go_wp2
      go_roundw
      case rel => exact ⟨trivial, j + 1, by omega, by have := Hd.out; congr 1; omega, by rw [← Hs.out]; go_num⟩
      case measure => simp [intOf]; omega
    · obtain rfl : j = r := by omega
      rw [Nat.sub_self, HP.out]
      go_wp2_with fail
      refine hC.mono ?_
      rintro e w2 ⟨rfl, rfl⟩
      clear hC
      by_cases hbit : y / P % 2 = 1
      · have hPy : P ≤ y := HG.out hbit
        have Hz : Hid (putBit y j false = ((y - P : Nat) : Int)) := by show _ = _; rw [← HP.out]; exact putBit_down hr (by rw [HP.out]; exact hbit)
        have Ho : Hid (putBit y j true = (y : Int)) := putBit_same (by rw [HP.out]; simpa using hbit)
        rw [decide_eq_true hbit]
        clear hbit
        cases on with
        | true =>
          go_wp2
          go_ret
          exact ⟨_, rfl, by rw [Hr.out, Ho.out, HSame.out]; exact HO.out, HC.out⟩
        | false =>
          have hsub : (y : Int) - (P : Int) = ((y - P : Nat) : Int) := by omega
          go_wp2
          go_ret
          refine ⟨_, rfl, by rw [Hr.out, Hz.out]; exact HS.out _, HCS.out _⟩
      · have hPy : y + P < 256 := HU.out hbit
        have Hz : Hid (putBit y j true = ((y + P : Nat) : Int)) := by show _ = _; rw [← HP.out]; exact putBit_up (by rw [HP.out]; exact hbit)
        have Ho : Hid (putBit y j false = (y : Int)) := putBit_same (by rw [HP.out]; simpa using hbit)
        rw [decide_eq_false hbit]
        clear hbit
        cases on with
        | true =>
          go_wp2
          go_ret
          refine ⟨_, rfl, by rw [Hr.out, Hz.out]; exact HS.out _, HCS.out _⟩
        | false =>
          go_wp2
          go_ret
          exact ⟨_, rfl, by rw [Hr.out, Ho.out, HSame.out]; exact HO.out, HC.out⟩

set_option maxRecDepth 20000 in
set_option maxHeartbeats 400000 in
theorem specBitPut_out (w : World) (n : Nat) (ao : Option Addr) (cap : Nat) (i : Int) (on : Bool) (hl : n ≤ 1048576) (ho : ¬ (n ≤ 2048 ∧ 0 ≤ i ∧ i < 8 * (n : Int))) :
    Calls Try.prog 4 #[.slice ao n cap, .int .i64 i, .bool on] w fun e w' => ∃ v, e = .returned v ∧ OwnB w' w.heap.size 5 v [] ∧ Chg 0 0 w w' := by
  have H0 : Hid (OwnB (w.alloc (.cells #[] 5)) w.heap.size 5 (.slice (some ⟨w.heap.size, 0, none⟩) 0 0) []) :=
    ⟨rfl, Or.inr ⟨w.heap.size, 0, #[], rfl, Nat.le_refl _, heap_new w _, Nat.le_refl _, Nat.zero_le _, rfl, rfl⟩⟩
  have HC : Hid (Chg 0 0 w (w.alloc (.cells #[] 5))) := Chg.alloc (Chg.refl 0 0 w) _
  by_cases h0 : n ≤ 2048
  · by_cases h1 : i < 0
    · go_enter Try.func4, Try.ntmps4
      go_wp2
      go_ret
      exact ⟨_, rfl, H0.out, HC.out⟩
    · have h2 : 8 * (n : Int) ≤ i := by omega
      clear ho
      go_enter Try.func4, Try.ntmps4
      go_wp2
      go_ret
      exact ⟨_, rfl, H0.out, HC.out⟩
  · have h1 : (2048 : Int) < (n : Int) := by omega
    clear ho
    go_enter Try.func4, Try.ntmps4
    go_wp2
    go_ret
    exact ⟨_, rfl, H0.out, HC.out⟩

theorem specBitPut_calls (w : World) {lo hi : Nat} {a : Value} {xs : List Int} (i : Int) (on : Bool) (hB : Byt xs) (hl : xs.length ≤ 1048576) (h1 : View w lo hi .u8 a xs) :
    Calls Try.prog 4 #[a, .int .i64 i, .bool on] w fun e w' => ∃ v, e = .returned v ∧ OwnB w' w.heap.size 5 v (bitP xs i on) ∧ Chg 0 0 w w' := by
  have hV := h1
  obtain ⟨ao, cap, rfl, _, _, h1⟩ := h1
  by_cases ho : InMap xs i
  · obtain ⟨m, rfl⟩ : ∃ m : Nat, i = m := ⟨i.toNat, by have := ho.2.1; omega⟩
    rw [bitP_in ho]
    have h3 := ho.2.2
    rcases h1 with rfl | ⟨x, off, rfl, _, _, h1⟩
    · simp at h3; omega
    · exact specBitPut_some w xs m on lo hi x off cap hB ho.1 (by omega) hV
  · rw [bitP_out ho]
    exact specBitPut_out w xs.length ao cap i on hl ho

end Go.Proofs.Ytjledihgmlhmaaa
