/- Several short texts in one: ImplFill, ImplMaps, MkMath. -/
import Derived.Test.YtmfkgnifkkkkiaaDoorImplNext
import Derived.Test.YtmfkgnifkkkkiaaDoorGeoSpec
import Derived.Test.YtmfkgnifkkkkiaaDoorBytesOf
import Derived.Test.YtmfkgnifkkkkiaaDoorEncRow
import Derived.Deep.DeepCutAuto
namespace Go.Proofs.YtmfkgnifkkkkiaaDoor
open Go.RowKit

/-- Bits A .. A + n - 1 on. -/
def onTo (ys : List Int) (A : Nat) : Nat → List Int
  | 0 => ys
  | n + 1 => bitP (onTo ys A n) ((A + n : Nat) : Int) true
theorem putBit_byt {x : Int} {r : Nat} {on : Bool} (h0 : 0 ≤ x) (h1 : x < 256) (hr : r < 8) : 0 ≤ putBit x r on ∧ putBit x r on < 256 := by
  obtain ⟨m, rfl⟩ : ∃ m : Nat, x = m := ⟨x.toNat, by omega⟩
  by_cases hb : decide (m / 2 ^ r % 2 = 1) = on
  · rw [putBit_same hb]; omega
  · cases on with
    | true =>
      have hb' : ¬ m / 2 ^ r % 2 = 1 := by simpa using hb
      rw [putBit_up hb']
      have := up_bound (by omega) hr hb'
      generalize m + 2 ^ r = q at *
      omega
    | false =>
      have hb' : m / 2 ^ r % 2 = 1 := by simpa using hb
      rw [putBit_down hr hb']
      have : m - 2 ^ r ≤ m := Nat.sub_le _ _
      generalize m - 2 ^ r = q at *
      omega
theorem bitP_byt {xs : List Int} (i : Int) (on : Bool) (h : Byt xs) : Byt (bitP xs i on) := by
  unfold bitP
  split
  · intro x hx
    rcases List.mem_or_eq_of_mem_set hx with hx | rfl
    · exact h x hx
    · have := h.getD (i.toNat / 8); exact putBit_byt this.1 this.2 (Nat.mod_lt _ (by decide))
  · intro x hx; cases hx
theorem onTo_facts {ys : List Int} {A : Nat} (hB : Byt ys) (hl : ys.length ≤ 2048) : ∀ n, A + n ≤ 8 * ys.length → (onTo ys A n).length = ys.length ∧ Byt (onTo ys A n)
  | 0, _ => ⟨rfl, hB⟩
  | n + 1, h => by
    obtain ⟨h1, h2⟩ := onTo_facts (A := A) hB hl n (by omega)
    refine ⟨?_, bitP_byt _ _ h2⟩
    show (bitP _ _ _).length = _
    rw [bitP_in ⟨by rw [h1]; exact hl, by omega, by rw [h1]; omega⟩, List.length_set, h1]

set_option maxRecDepth 20000 in
set_option maxHeartbeats 1000000 in
theorem fill_calls (w : World) (ys : List Int) (base g cap : Nat) (f t : Int) (hB : Byt ys) (hl : ys.length ≤ 2048)
    (hO : OwnB w base 5 (.slice (some ⟨g, 0, none⟩) ys.length cap) ys) :
    Calls Tryd.prog 53 #[.slice (some ⟨g, 0, none⟩) ys.length cap, .int .i64 f, .int .i64 t] w fun e w' =>
      e = .returned (.tuple #[]) ∧ OwnB w' base 5 (.slice (some ⟨g, 0, none⟩) ys.length cap) (onTo ys (cutA ys.length f) (cutE ys.length f t - cutA ys.length f)) ∧ Chg g (g + 1) w w' := by
  have hN := bwithin_calls w (some ⟨g, 0, none⟩) ys.length cap f t hl
  have hAE : cutA ys.length f ≤ cutE ys.length f t ∧ cutE ys.length f t ≤ 8 * ys.length := by
    have : cutA ys.length f ≤ 8 * ys.length := by unfold cutA; omega
    constructor <;> (unfold cutE; omega)
  obtain ⟨hA, hE⟩ := hAE
  generalize cutA ys.length f = A at *
  generalize cutE ys.length f t = E at *
  have HO : Hid (OwnB w base 5 (.slice (some ⟨g, 0, none⟩) ys.length cap) ys) := hO
  have HBy : Hid (Byt ys) := hB
  have hEb : E ≤ 16384 := by omega
  clear hO hB
  go_enter Tryd.func53, Tryd.ntmps53
  go_wp2_with fail
  refine hN.mono ?_
  rintro e w1 ⟨rfl, rfl⟩
  clear hN
  go_wp2
  go_loopw [6] (fun x wr => ∃ k : Nat, x = .int .i64 ((A + k : Nat) : Int) ∧ A + k ≤ E ∧ OwnB wr base 5 (.slice (some ⟨g, 0, none⟩) ys.length cap) (onTo ys A k) ∧ Chg g (g + 1) w1 wr) (fun x _ => E - (intOf x).toNat)
  case atStart => exact ⟨0, rfl, hA, HO.out, Chg.refl _ _ _⟩
  case round =>
    obtain ⟨k, rfl, hk, ho, hc⟩ := hrel
    obtain ⟨h1, h2⟩ := onTo_facts (A := A) HBy.out hl k (by omega)
    have HC : Hid (Chg g (g + 1) w1 wr) := hc
    by_cases hlt : A + k < E
    · have hlt' : ((A + k : Nat) : Int) < (E : Int) := by omega
      have hP := put_calls wr (onTo ys A k) (A + k) base g cap true h2 (by omega) (by omega) (by rw [h1]; exact ho)
      rw [h1] at hP
      have Hn : Hid ((onTo ys A k).set ((A + k) / 8) (putBit ((onTo ys A k).getD ((A + k) / 8) 0) ((A + k) % 8) true) = onTo ys A (k + 1)) := (bitP_in (m := A + k) ⟨by omega, by omega, by rw [h1]; omega⟩).symm
      rw [Hn.out] at hP
      obtain ⟨q, Hq⟩ : ∃ q, Hid (A + k = q) := ⟨_, rfl⟩
      rw [Hq.out] at hlt' hP ⊢
      have hqb : q ≤ 16384 := by have := Hq.out; omega
      clear ho hc h1 h2
      go_wp2_with fail
      refine hP.mono ?_
      rintro e w2 ⟨rfl, o2, c2⟩
      have HO2 : Hid (OwnB w2 base 5 (.slice (some ⟨g, 0, none⟩) ys.length cap) (onTo ys A (k + 1))) := o2
      have HC2 : Hid (Chg g (g + 1) w1 w2) := HC.out.trans c2
      clear o2 c2 hP
      go_wp2
      go_roundw
      case rel => exact ⟨k + 1, by have := Hq.out; congr 1; omega, by have := Hq.out; omega, HO2.out, HC2.out⟩
      case measure => have := Hq.out; simp [intOf]; omega
    · obtain rfl : E = A + k := by omega
      have HO2 : Hid (OwnB wr base 5 (.slice (some ⟨g, 0, none⟩) ys.length cap) (onTo ys A k)) := ho
      have hlt' : ¬ ((A + k : Nat) : Int) < ((A + k : Nat) : Int) := by omega
      generalize hq : A + k = q at *
      clear ho h1 h2
      go_wp2
      go_end0
      exact ⟨rfl, by rw [show q - A = k by omega]; exact HO2.out, HC.out⟩

end Go.Proofs.YtmfkgnifkkkkiaaDoor

namespace Go.Proofs.YtmfkgnifkkkkiaaDoor
open Go.RowKit

/-- The map of inodes of a new disk. -/
def inoMap (n : Nat) : List Int := onTo (bitP (List.replicate 64 0) 0 true) n (512 - n)
theorem zeros_byt (k : Nat) : Byt (List.replicate k 0) := fun x hx => by rw [List.eq_of_mem_replicate hx]; omega

theorem made_one (z : Value) (n : Nat) : (madeCells #[z] n).toList = List.replicate n z := by
  apply List.ext_getElem?
  intro j
  by_cases hj : j < n
  · simp [madeCells, hj, Nat.mod_one]
  · simp [madeCells, hj]
theorem own_made {w : World} {base g n : Nat} (h : w.ownsRow base 5 1 (.slice (some ⟨g, 0, none⟩) n n) n (madeCells (Value.int .u8 0).cells (n * 1)).toList) : OwnB w base 5 (.slice (some ⟨g, 0, none⟩) n n) (List.replicate n 0) := by
  unfold OwnB
  rw [List.length_replicate, List.map_replicate]
  rw [show (Value.int .u8 0).cells = #[.int .u8 0] from rfl, made_one, Nat.mul_one] at h
  exact h

theorem own_made' {w : World} {base g n : Nat} (h : w.ownsRow base 5 1 (.slice (some ⟨g, 0, none⟩) n n) n (madeCells #[Value.int .u8 0] n).toList) : OwnB w base 5 (.slice (some ⟨g, 0, none⟩) n n) (List.replicate n 0) := by
  unfold OwnB
  rw [List.length_replicate, List.map_replicate]
  rw [made_one] at h
  exact h

set_option maxRecDepth 20000 in
set_option maxHeartbeats 2000000 in
theorem newInodeMap_calls (w : World) (b l : Int) (n : Nat) (hn : n ≤ 256) :
    Calls Tryd.prog 27 #[geoV b l n] w fun e w' => ∃ g, e = .returned (.slice (some ⟨g, 0, none⟩) 64 64) ∧ OwnB w' w.heap.size 5 (.slice (some ⟨g, 0, none⟩) 64 64) (inoMap n) ∧ Chg 0 0 w w' := by
  obtain ⟨i, hi, hz0, hz1, hz2⟩ := info_parts Tryd.infoU
  have HB0 : Hid ((w.alloc (.cells #[.int .i64 b, .int .i64 l, .int .i64 (n : Int)] 29)).heap[w.heap.size]? = some (.cells #[.int .i64 b, .int .i64 l, .int .i64 (n : Int)] 29 (0, 0))) := heap_new w _
  go_enter Tryd.func27, Tryd.ntmps27
  go_wp2_with (at_make; refine wpList_make_full _ rfl _ _ 68 rfl w.heap.size 5 i (.int .u8 0) 1 Tryd.underlying68 hi hz0 hz1 _ _ _ _ 64 rfl rfl rfl rfl (by rw [hz2]; omega) (by unfold maxLen; omega) (by simp) ?_)
  intro w1 hown hgrow
  have O1 := own_made hown
  have C1 : Chg 0 0 w w1 := (Chg.alloc (Chg.refl 0 0 w) _).trans (Chg.ofGrown hgrow (by simp))
  have HBx : Hid (w1.heap[w.heap.size]? = some (.cells #[.int .i64 b, .int .i64 l, .int .i64 (n : Int)] 29 (0, 0))) := (hgrow.block w.heap.size (by simp) (by simp)).trans HB0.out
  have hlt : w.heap.size + 1 < w1.heap.size := (O1.lt _ rfl).2
  clear hown hgrow HB0
  have hP := put_calls w1 (List.replicate 64 0) 0 w.heap.size (w.heap.size + 1) 64 true (zeros_byt 64) (by simp) (by simp) (by rw [List.length_replicate]; exact O1)
  rw [List.length_replicate] at hP
  have hbp : bitP (List.replicate 64 0) 0 true = (List.replicate 64 (0 : Int)).set (0 / 8) (putBit ((List.replicate 64 0).getD (0 / 8) 0) (0 % 8) true) := bitP_in (m := 0) ⟨by simp, by omega, by simp⟩
  rw [← hbp] at hP
  have hl1 : (bitP (List.replicate 64 0) 0 true).length = 64 := by rw [hbp, List.length_set, List.length_replicate]
  have hby := bitP_byt (xs := List.replicate 64 0) 0 true (zeros_byt 64)
  have HD : Hid (inoMap n = onTo (bitP (List.replicate 64 0) 0 true) n (512 - n)) := rfl
  generalize bitP (List.replicate 64 0) 0 true = Y at *
  clear hbp O1
  go_wp2_with fail
  refine hP.mono ?_
  rintro e w2 ⟨rfl, o2, c2⟩
  have C2 : Chg 0 0 w w2 := C1.step c2 (by omega)
  have HB2 : Hid (w2.heap[w.heap.size]? = some (.cells #[.int .i64 b, .int .i64 l, .int .i64 (n : Int)] 29 (0, 0))) := (c2.block _ (by omega) (by omega)).trans HBx.out
  have hlt2 := Nat.lt_of_lt_of_le hlt c2.size
  clear hP c2 HBx C1 hlt
  have hF := fun W (h : OwnB W w.heap.size 5 (.slice (some ⟨w.heap.size + 1, 0, none⟩) 64 64) Y) => fill_calls W Y w.heap.size (w.heap.size + 1) 64 n 512 hby (by omega) (by rw [hl1]; exact h)
  rw [hl1] at hF
  have e1 : cutA 64 (n : Int) = n := by unfold cutA; omega
  have e2 : cutE 64 (n : Int) 512 = 512 := by unfold cutE; rw [e1]; omega
  rw [e1, e2, ← HD.out] at hF
  have HF : Hid (∀ W, OwnB W w.heap.size 5 (.slice (some ⟨w.heap.size + 1, 0, none⟩) 64 64) Y → Calls Tryd.prog 53 #[.slice (some ⟨w.heap.size + 1, 0, none⟩) 64 64, .int .i64 (n : Int), .int .i64 512] W fun e w' => e = .returned (.tuple #[]) ∧ OwnB w' w.heap.size 5 (.slice (some ⟨w.heap.size + 1, 0, none⟩) 64 64) (inoMap n) ∧ Chg (w.heap.size + 1) (w.heap.size + 1 + 1) W w') := hF
  clear hF e1 e2 HD hl1 hby
  go_upto_region 3 with fail
  have o3 : OwnB w2.drew w.heap.size 5 (.slice (some ⟨w.heap.size + 1, 0, none⟩) 64 64) Y := o2.chg (Chg.drew (Chg.refl 0 0 w2)) (by intro g _; omega)
  have HS : Hid ((fun w' : World => w'.heap[w.heap.size]? = some (.cells #[.int .i64 b, .int .i64 l, .int .i64 (n : Int)] 29 (0, 0))) w2.drew) := HB2.out
  have C3 : Chg 0 0 w w2.drew := C2.drew
  refine held_region (fun w' : World => w'.heap[w.heap.size]? = some (.cells #[.int .i64 b, .int .i64 l, .int .i64 (n : Int)] 29 (0, 0))) (by kernel_rfl) ?_
  have hlt3 : w.heap.size + 1 < w2.drew.heap.size := hlt2
  clear C2 o2 HB2 hlt2
  generalize w2.drew = X at *
  refine held_take 0 (.slice (some ⟨w.heap.size + 1, 0, none⟩) 64 64) rfl (by kernel_rfl) (by kernel_rfl) (by kernel_rfl) (fun _ _ _ h => h) (.inl ⟨by kernel_rfl, fun w' hw' => by go_simp⟩) HS.out ?_
  go_simp
  refine held_take 1 (.pointer (some ⟨w.heap.size, 2, none⟩)) rfl (by kernel_rfl) (by kernel_rfl) (by kernel_rfl) (fun _ _ _ h => h) (.inl ⟨by kernel_rfl, fun w' hw' => by go_simp⟩) HS.out ?_
  go_simp
  refine held_take 2 (.int .i64 (n : Int)) rfl (by kernel_rfl) (by kernel_rfl) (by kernel_rfl) (fun _ _ _ h => h) (.inl ⟨by kernel_rfl, fun w' hw' => by have h4 := (trio hw').2.2; go_simp⟩) HS.out ?_
  go_simp
  refine held_take 3 (.slice (some ⟨w.heap.size + 1, 0, none⟩) 64 64) rfl (by kernel_rfl) (by kernel_rfl) (by kernel_rfl) (fun _ _ _ h => h) (.inl ⟨by kernel_rfl, fun w' hw' => by go_simp⟩) HS.out ?_
  go_simp
  refine held_one 4 rfl rfl (by kernel_rfl) ?_
  refine wp_enter 54 #[.slice (some ⟨w.heap.size + 1, 0, none⟩) 64 64] (by first | kernel_rfl | go_simp) (size_calls X _ 64 64 (by omega)) ?_
  rintro e x2 ⟨rfl, rfl⟩
  refine ⟨_, rfl, HS.out, ?_⟩
  go_simp
  refine held_one 5 rfl rfl (by kernel_rfl) ?_
  refine wp_enter 53 #[.slice (some ⟨w.heap.size + 1, 0, none⟩) 64 64, .int .i64 (n : Int), .int .i64 512] (by first | kernel_rfl | go_simp) (HF.out _ o3) ?_
  rintro e x3 ⟨rfl, o4, c4⟩
  have HO : Hid (OwnB x3 w.heap.size 5 (.slice (some ⟨w.heap.size + 1, 0, none⟩) 64 64) (inoMap n)) := o4
  have HC : Hid (Chg 0 0 w x3) := C3.step c4 (by omega)
  refine ⟨_, rfl, (c4.block _ (by omega) (by omega)).trans HS.out, ?_⟩
  clear o4 c4 o3 C3
  go_simp
  refine held_done (by kernel_rfl) (NoPanic.normal ?_)
  go_wp2
  go_ret
  exact ⟨_, rfl, HO.out, HC.out⟩

/-- The map of blocks of a new disk. -/
def blkMap (mb D b : Nat) : List Int := onTo (onTo (List.replicate (64 * mb) 0) 0 D) b (512 * mb - b)

set_option maxRecDepth 20000 in
set_option maxHeartbeats 2000000 in
theorem newBlockMap_calls (w : World) (b mb D : Nat) (l n p0 p1 p3 p4 p6 : Int) (hmb : mb ≤ 4) (hm0 : 0 < mb) (hD : D ≤ 512 * mb) (hb : b ≤ 512 * mb) :
    Calls Tryd.prog 28 #[geoV b l n, plV p0 p1 mb p3 p4 D p6] w fun e w' => ∃ g, e = .returned (.slice (some ⟨g, 0, none⟩) (64 * mb) (64 * mb)) ∧ OwnB w' w.heap.size 5 (.slice (some ⟨g, 0, none⟩) (64 * mb) (64 * mb)) (blkMap mb D b) ∧ Chg 0 0 w w' := by
  obtain ⟨i, hi, hz0, hz1, hz2⟩ := info_parts Tryd.infoU
  obtain ⟨L, HL⟩ : ∃ L, Hid (64 * mb = L) := ⟨_, rfl⟩
  have hLi : (mb : Int) * 64 = (L : Int) := by have := HL.out; omega
  have hLb : L ≤ 256 := by have := HL.out; omega
  have hL0 : 0 < L := by have := HL.out; omega
  rw [HL.out]
  have HDf : Hid (blkMap mb D b = onTo (onTo (List.replicate L 0) 0 D) b (8 * L - b)) := by show _ = _; unfold blkMap; rw [HL.out, show 512 * mb = 8 * L by have := HL.out; omega]
  have hD8 : D ≤ 8 * L := by have := HL.out; omega
  have hb8 : b ≤ 8 * L := by have := HL.out; omega
  have HB0 : Hid (((w.alloc (.cells #[.int .i64 (b : Int), .int .i64 l, .int .i64 n] 29)).alloc (.cells #[.int .i64 p0, .int .i64 p1, .int .i64 (mb : Int), .int .i64 p3, .int .i64 p4, .int .i64 (D : Int), .int .i64 p6] 36)).heap[w.heap.size]? = some (.cells #[.int .i64 (b : Int), .int .i64 l, .int .i64 n] 29 (0, 0)) ∧
    ((w.alloc (.cells #[.int .i64 (b : Int), .int .i64 l, .int .i64 n] 29)).alloc (.cells #[.int .i64 p0, .int .i64 p1, .int .i64 (mb : Int), .int .i64 p3, .int .i64 p4, .int .i64 (D : Int), .int .i64 p6] 36)).heap[w.heap.size + 1]? = some (.cells #[.int .i64 p0, .int .i64 p1, .int .i64 (mb : Int), .int .i64 p3, .int .i64 p4, .int .i64 (D : Int), .int .i64 p6] 36 (0, 0))) := (alloc2 w _ _).2
  have s2 : ((w.alloc (.cells #[.int .i64 (b : Int), .int .i64 l, .int .i64 n] 29)).alloc (.cells #[.int .i64 p0, .int .i64 p1, .int .i64 (mb : Int), .int .i64 p3, .int .i64 p4, .int .i64 (D : Int), .int .i64 p6] 36)).heap.size = w.heap.size + 2 := (alloc2 w _ _).1
  clear hD hb
  go_enter Tryd.func28, Tryd.ntmps28
  go_wp2_with (at_make; refine wpList_make_full _ rfl _ _ 68 rfl w.heap.size 5 i (.int .u8 0) 1 Tryd.underlying68 hi hz0 hz1 _ _ _ _ L rfl rfl rfl rfl (by rw [hz2]; omega) (by unfold maxLen; omega) (by rw [s2]; omega) ?_)
  intro w1 hown hgrow
  have O1 := own_made' hown
  have C1 : Chg 0 0 w w1 := ((Chg.alloc (Chg.refl 0 0 w) _).alloc _).trans (Chg.ofGrown hgrow (by simp))
  have HBx : Hid (w1.heap[w.heap.size]? = some (.cells #[.int .i64 (b : Int), .int .i64 l, .int .i64 n] 29 (0, 0))) := (hgrow.block w.heap.size (by rw [s2]; omega) (by simp)).trans HB0.out.1
  have HBy : Hid (w1.heap[w.heap.size + 1]? = some (.cells #[.int .i64 p0, .int .i64 p1, .int .i64 (mb : Int), .int .i64 p3, .int .i64 p4, .int .i64 (D : Int), .int .i64 p6] 36 (0, 0))) := (hgrow.block (w.heap.size + 1) (by rw [s2]; omega) (by simp)).trans HB0.out.2
  have hlt : w.heap.size + 2 < w1.heap.size := (O1.lt _ rfl).2
  clear hown hgrow HB0 s2
  have hP := fill_calls w1 (List.replicate L 0) w.heap.size (w.heap.size + 2) L 0 D (zeros_byt L) (by rw [List.length_replicate]; omega) (by rw [List.length_replicate]; exact O1)
  rw [List.length_replicate] at hP
  have e1 : cutA L 0 = 0 := by unfold cutA; omega
  have e2 : cutE L 0 (D : Int) = D := by unfold cutE; rw [e1]; omega
  rw [e1, e2, Nat.sub_zero] at hP
  obtain ⟨hl1, hby⟩ := onTo_facts (ys := List.replicate L 0) (A := 0) (zeros_byt L) (by rw [List.length_replicate]; omega) D (by rw [List.length_replicate]; omega)
  rw [List.length_replicate] at hl1
  generalize onTo (List.replicate L 0) 0 D = Y at *
  have cD : w1.cell? ⟨w.heap.size + 1, 5, none⟩ = some (.int .i64 (D : Int)) := by have h := HBy.out; simp [World.cell?, h]
  clear O1 e1 e2
  go_wp2_with fail
  refine hP.mono ?_
  rintro e w2 ⟨rfl, o2, c2⟩
  have C2 : Chg 0 0 w w2 := C1.step c2 (by omega)
  have HB2 : Hid (w2.heap[w.heap.size]? = some (.cells #[.int .i64 (b : Int), .int .i64 l, .int .i64 n] 29 (0, 0))) := (c2.block _ (by omega) (by omega)).trans HBx.out
  have hlt2 := Nat.lt_of_lt_of_le hlt c2.size
  clear hP c2 HBx HBy C1 hlt cD
  have hF := fun W (h : OwnB W w.heap.size 5 (.slice (some ⟨w.heap.size + 2, 0, none⟩) L L) Y) => fill_calls W Y w.heap.size (w.heap.size + 2) L b (8 * (L : Int)) hby (by omega) (by rw [hl1]; exact h)
  rw [hl1] at hF
  have e1 : cutA L (b : Int) = b := by unfold cutA; omega
  have e2 : cutE L (b : Int) (8 * (L : Int)) = 8 * L := by unfold cutE; rw [e1]; omega
  rw [e1, e2, ← HDf.out] at hF
  have HF : Hid (∀ W, OwnB W w.heap.size 5 (.slice (some ⟨w.heap.size + 2, 0, none⟩) L L) Y → Calls Tryd.prog 53 #[.slice (some ⟨w.heap.size + 2, 0, none⟩) L L, .int .i64 (b : Int), .int .i64 (8 * (L : Int))] W fun e w' => e = .returned (.tuple #[]) ∧ OwnB w' w.heap.size 5 (.slice (some ⟨w.heap.size + 2, 0, none⟩) L L) (blkMap mb D b) ∧ Chg (w.heap.size + 2) (w.heap.size + 2 + 1) W w') := hF
  clear hF e1 e2 HDf hl1 hby
  go_upto_region 3 with fail
  have o3 : OwnB w2.drew w.heap.size 5 (.slice (some ⟨w.heap.size + 2, 0, none⟩) L L) Y := o2.chg (Chg.drew (Chg.refl 0 0 w2)) (by intro g _; omega)
  have HS : Hid ((fun w' : World => w'.heap[w.heap.size]? = some (.cells #[.int .i64 (b : Int), .int .i64 l, .int .i64 n] 29 (0, 0))) w2.drew) := HB2.out
  have C3 : Chg 0 0 w w2.drew := C2.drew
  refine held_region (fun w' : World => w'.heap[w.heap.size]? = some (.cells #[.int .i64 (b : Int), .int .i64 l, .int .i64 n] 29 (0, 0))) (by kernel_rfl) ?_
  have hlt3 : w.heap.size + 2 < w2.drew.heap.size := hlt2
  clear C2 o2 HB2 hlt2
  generalize w2.drew = X at *
  refine held_take 0 (.slice (some ⟨w.heap.size + 2, 0, none⟩) L L) rfl (by kernel_rfl) (by kernel_rfl) (by kernel_rfl) (fun _ _ _ h => h) (.inl ⟨by kernel_rfl, fun w' hw' => by go_simp⟩) HS.out ?_
  go_simp
  refine held_take 1 (.pointer (some ⟨w.heap.size, 0, none⟩)) rfl (by kernel_rfl) (by kernel_rfl) (by kernel_rfl) (fun _ _ _ h => h) (.inl ⟨by kernel_rfl, fun w' hw' => by go_simp⟩) HS.out ?_
  go_simp
  refine held_take 2 (.int .i64 (b : Int)) rfl (by kernel_rfl) (by kernel_rfl) (by kernel_rfl) (fun _ _ _ h => h) (.inl ⟨by kernel_rfl, fun w' hw' => by have h4 := (trio hw').1; go_simp⟩) HS.out ?_
  go_simp
  refine held_take 3 (.slice (some ⟨w.heap.size + 2, 0, none⟩) L L) rfl (by kernel_rfl) (by kernel_rfl) (by kernel_rfl) (fun _ _ _ h => h) (.inl ⟨by kernel_rfl, fun w' hw' => by go_simp⟩) HS.out ?_
  go_simp
  refine held_one 4 rfl rfl (by kernel_rfl) ?_
  refine wp_enter 54 #[.slice (some ⟨w.heap.size + 2, 0, none⟩) L L] (by first | kernel_rfl | go_simp) (size_calls X _ L L (by omega)) ?_
  rintro e x2 ⟨rfl, rfl⟩
  refine ⟨_, rfl, HS.out, ?_⟩
  go_simp
  refine held_one 5 rfl rfl (by kernel_rfl) ?_
  refine wp_enter 53 #[.slice (some ⟨w.heap.size + 2, 0, none⟩) L L, .int .i64 (b : Int), .int .i64 (8 * (L : Int))] (by first | kernel_rfl | go_simp) (HF.out _ o3) ?_
  rintro e x3 ⟨rfl, o4, c4⟩
  have HO : Hid (OwnB x3 w.heap.size 5 (.slice (some ⟨w.heap.size + 2, 0, none⟩) L L) (blkMap mb D b)) := o4
  have HC : Hid (Chg 0 0 w x3) := C3.step c4 (by omega)
  refine ⟨_, rfl, (c4.block _ (by omega) (by omega)).trans HS.out, ?_⟩
  clear o4 c4 o3 C3
  go_simp
  refine held_done (by kernel_rfl) (NoPanic.normal ?_)
  go_wp2
  go_ret
  exact ⟨_, rfl, HO.out, HC.out⟩

end Go.Proofs.YtmfkgnifkkkkiaaDoor

namespace Go.Proofs.YtmfkgnifkkkkiaaDoor
open Go.RowKit

/-- The map of inodes behind k steps of the model's loop; the map of blocks. -/
def inoStep (n : Nat) : Nat → List Int
  | 0 => List.replicate 64 0
  | k + 1 => if k = 0 ∨ n ≤ k then bitP (inoStep n k) ((k : Nat) : Int) true else inoStep n k
def blkStep (L D b : Nat) : Nat → List Int
  | 0 => List.replicate L 0
  | k + 1 => if k < D ∨ b ≤ k then bitP (blkStep L D b k) ((k : Nat) : Int) true else blkStep L D b k

theorem inoStep_mid {n : Nat} : ∀ k, 1 ≤ k → k ≤ n → inoStep n k = bitP (List.replicate 64 0) 0 true
  | 0, h, _ => by omega
  | 1, _, _ => by show (if _ then _ else _) = _; rw [if_pos (Or.inl rfl)]; rfl
  | k + 2, _, hn => by
    show (if _ then _ else _) = _
    rw [if_neg (by omega)]
    exact inoStep_mid (k + 1) (by omega) (by omega)
theorem inoStep_end {n : Nat} (hn : 1 ≤ n) : ∀ j, inoStep n (n + j) = onTo (bitP (List.replicate 64 0) 0 true) n j
  | 0 => inoStep_mid n hn (Nat.le_refl _)
  | j + 1 => by
    show (if n + j = 0 ∨ n ≤ n + j then bitP (inoStep n (n + j)) ((n + j : Nat) : Int) true else inoStep n (n + j)) = bitP _ _ _
    rw [if_pos (Or.inr (Nat.le_add_right _ _)), inoStep_end hn j]
theorem inoStep_all {n : Nat} (hn : 1 ≤ n) (h : n ≤ 512) : inoStep n 512 = inoMap n := by
  have := inoStep_end hn (512 - n)
  rw [show n + (512 - n) = 512 by omega] at this
  exact this

theorem blkStep_low {L D b : Nat} : ∀ k, k ≤ D → blkStep L D b k = onTo (List.replicate L 0) 0 k
  | 0, _ => rfl
  | k + 1, h => by
    show (if _ then _ else _) = bitP _ _ _
    rw [if_pos (Or.inl (by omega)), blkStep_low k (by omega), Nat.zero_add]
theorem blkStep_mid {L D b : Nat} (hb : D ≤ b) : ∀ j, D + j ≤ b → blkStep L D b (D + j) = onTo (List.replicate L 0) 0 D
  | 0, _ => blkStep_low D (Nat.le_refl _)
  | j + 1, h => by
    show (if D + j < D ∨ b ≤ D + j then bitP (blkStep L D b (D + j)) ((D + j : Nat) : Int) true else blkStep L D b (D + j)) = _
    rw [if_neg (by omega)]
    exact blkStep_mid hb j (by omega)
theorem blkStep_end {L D b : Nat} (hb : D ≤ b) : ∀ j, blkStep L D b (b + j) = onTo (onTo (List.replicate L 0) 0 D) b j
  | 0 => by
    have := blkStep_mid (L := L) hb (b - D) (by omega)
    rw [show D + (b - D) = b by omega] at this
    exact this
  | j + 1 => by
    show (if b + j < D ∨ b ≤ b + j then bitP (blkStep L D b (b + j)) ((b + j : Nat) : Int) true else blkStep L D b (b + j)) = bitP _ _ _
    rw [if_pos (Or.inr (Nat.le_add_right _ _)), blkStep_end hb j]
theorem blkStep_all {mb D b : Nat} (hb : D ≤ b) (h : b ≤ 512 * mb) : blkStep (64 * mb) D b (512 * mb) = blkMap mb D b := by
  have := blkStep_end (L := 64 * mb) hb (512 * mb - b)
  rw [show b + (512 * mb - b) = 512 * mb by omega] at this
  exact this

theorem inoStep_facts (n : Nat) : ∀ k, k ≤ 512 → (inoStep n k).length = 64 ∧ Byt (inoStep n k)
  | 0, _ => ⟨List.length_replicate, zeros_byt 64⟩
  | k + 1, h => by
    obtain ⟨h1, h2⟩ := inoStep_facts n k (by omega)
    show (if _ then _ else _ : List Int).length = 64 ∧ Byt (if _ then _ else _)
    split
    · exact ⟨by rw [bitP_in ⟨by rw [h1]; omega, by omega, by rw [h1]; omega⟩, List.length_set, h1], bitP_byt _ _ h2⟩
    · exact ⟨h1, h2⟩
theorem blkStep_facts (L D b : Nat) (hL : L ≤ 2048) : ∀ k, k ≤ 8 * L → (blkStep L D b k).length = L ∧ Byt (blkStep L D b k)
  | 0, _ => ⟨List.length_replicate, zeros_byt L⟩
  | k + 1, h => by
    obtain ⟨h1, h2⟩ := blkStep_facts L D b hL k (by omega)
    show (if _ then _ else _ : List Int).length = L ∧ Byt (if _ then _ else _)
    split
    · exact ⟨by rw [bitP_in ⟨by rw [h1]; omega, by omega, by rw [h1]; omega⟩, List.length_set, h1], bitP_byt _ _ h2⟩
    · exact ⟨h1, h2⟩

end Go.Proofs.YtmfkgnifkkkkiaaDoor
