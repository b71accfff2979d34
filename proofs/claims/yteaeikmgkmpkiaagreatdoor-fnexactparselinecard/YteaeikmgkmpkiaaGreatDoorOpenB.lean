/- Several short texts in one: ImplParse2, EqB, MarkB, ToB, OpenB. -/
import Derived.Test.YteaeikmgkmpkiaaGreatDoorImplParse
import Derived.Test.YteaeikmgkmpkiaaGreatDoorRows
import Derived.Test.YteaeikmgkmpkiaaGreatDoorMem
import Derived.Deep.RegionWith
import Derived.ProofKit
import Derived.OpenShut
import Derived.Carry
import Derived.ChangeOld
import Derived.Below
namespace Go.Proofs.YteaeikmgkmpkiaaGreatDoor
open Go.RowKit Go.Lib

set_option maxRecDepth 20000 in
set_option maxHeartbeats 4000000 in
theorem implParseLine_calls (w : World) {lo hi : Nat} (v : Value) (s : ByteArray) (xs : List Int) (hv : View w lo hi .u8 v xs) (hs : strOfNums xs = s) (hl : xs.length ≤ 1048576)
    (hS : SynE w) (hR : RanE w) (hP : Pow w) (hB : Blank w) (hgb : 8 ≤ w.heap.size) :
    Calls Tryz.prog 6 #[v] w fun e w' => ∃ nv, e = .returned (lineV ((lineOf s).getD zeroL) nv) ∧ OwnN w' w.heap.size nv ((lineOf s).getD zeroL).nums ∧ Chg 0 0 w w' := by
  have HA : Hid (Chg 0 0 w (w.alloc (.cells #[.int .i64 0, .int .i64 0, .string ⟨#[]⟩, .string ⟨#[]⟩, .int .i64 0, .int .i64 0, .int .i64 0, .string ⟨#[]⟩, .slice none 0 0] 27))) := Chg.alloc (Chg.refl 0 0 w) _
  have HN : Hid ((w.alloc (.cells #[.int .i64 0, .int .i64 0, .string ⟨#[]⟩, .string ⟨#[]⟩, .int .i64 0, .int .i64 0, .int .i64 0, .string ⟨#[]⟩, .slice none 0 0] 27)).heap[w.heap.size]? = some (.cells (cLine zeroL (.slice none 0 0)) 27 (0, 0))) := heap_new w _
  have hz : w.heap.size < (w.alloc (.cells #[.int .i64 0, .int .i64 0, .string ⟨#[]⟩, .string ⟨#[]⟩, .int .i64 0, .int .i64 0, .int .i64 0, .string ⟨#[]⟩, .slice none 0 0] 27)).heap.size := by simp
  have HV : Hid (View w lo hi .u8 v xs) := hv
  obtain ⟨R, hRr⟩ : ∃ R, R = (lineOf s).getD zeroL := ⟨_, rfl⟩
  rw [← hRr]
  obtain ⟨ao, cap, rfl, _⟩ := hv
  go_enter Tryz.func6, Tryz.ntmps6
  go_wp2_with fail
  generalize w.alloc (.cells #[.int .i64 0, .int .i64 0, .string ⟨#[]⟩, .string ⟨#[]⟩, .int .i64 0, .int .i64 0, .int .i64 0, .string ⟨#[]⟩, .slice none 0 0] 27) = w1 at *
  refine (commands_calls w1).mono ?_
  rintro e w2 ⟨rfl, hC⟩
  have c2 : Chg 0 0 w1 w2 := by obtain ⟨_, _, _, h⟩ := hC; exact h
  have c3 := HA.out.trans c2
  have hB2 : Blank w2 := by obtain ⟨m, hm⟩ := hB; exact ⟨m, c3.cell hm (by omega)⟩
  have hs2 := c2.size
  have hpc := parsed_calls w1 w2 _ s xs (HV.out.chg c3 (by omega)) hs hl hC (synE_chg hS c3) (hR.chg c3) (hP.chg c3) hB2 (by omega)
  rw [← hRr] at hpc
  go_wp2_with fail
  refine hpc.mono ?_
  rintro e w4 ⟨nv, rfl, hnv, c4⟩
  have HC : Hid (Chg 0 0 w w4) := c3.trans c4
  have HR4 : Hid (w4.heap[w.heap.size]? = some (.cells (cLine zeroL (.slice none 0 0)) 27 (0, 0))) := ((c2.trans c4).block _ hz (by omega)).trans HN.out
  have HNV : Hid (OwnN w4 w2.heap.size nv R.nums) := hnv
  obtain ⟨na, nl, nc, rfl⟩ := hnv.slice
  obtain ⟨⟨x0, x1, x2, x3, x4, x5, x6, x7, x8⟩, f0, f1, f2, f3, f4, f5, f6, f7, f8⟩ := nine_all HR4.out
  clear hnv hpc HR4 HN c4 c3 c2 hC hB hB2 hS hR hP HV HA hRr
  go_wp2
  exact bodyPost_ret (v := lineV R (.slice na nl nc)) (by simp [results, Tryz.results6, go_sem, *]) rfl ⟨_, rfl, (OwnN.low (OwnN.set (OwnN.set (OwnN.set (OwnN.set (OwnN.set (OwnN.set (OwnN.set (OwnN.set (OwnN.set HNV.out _ _ _ (by omega)) _ _ _ (by omega)) _ _ _ (by omega)) _ _ _ (by omega)) _ _ _ (by omega)) _ _ _ (by omega)) _ _ _ (by omega)) _ _ _ (by omega)) _ _ _ (by omega)) (by omega)), (Chg.setCell (Chg.setCell (Chg.setCell (Chg.setCell (Chg.setCell (Chg.setCell (Chg.setCell (Chg.setCell (Chg.setCell HC.out (Or.inr (Nat.le_refl _)) _) (Or.inr (Nat.le_refl _)) _) (Or.inr (Nat.le_refl _)) _) (Or.inr (Nat.le_refl _)) _) (Or.inr (Nat.le_refl _)) _) (Or.inr (Nat.le_refl _)) _) (Or.inr (Nat.le_refl _)) _) (Or.inr (Nat.le_refl _)) _) (Or.inr (Nat.le_refl _)) _)⟩

end Go.Proofs.YteaeikmgkmpkiaaGreatDoor

namespace Go.Proofs.YteaeikmgkmpkiaaGreatDoor
open Go.RowKit

set_option maxHeartbeats 400000 in
theorem eqByteS_some (w : World) (xs : List Int) (b off b' off' cap cap' : Nat) (hl : xs.length ≤ 9223372036854775807)
    (h1 : ∀ i, i < xs.length → w.cell? ⟨b, off + i, none⟩ = some (.int .u8 (xs.getD i 0)))
    (h2 : ∀ i, i < xs.length → w.cell? ⟨b', off' + i, none⟩ = some (.int .u8 (xs.getD i 0))) :
    Calls Tryz.prog 8 #[.slice (some ⟨b, off, none⟩) xs.length cap, .slice (some ⟨b', off', none⟩) xs.length cap'] w fun e w' => e = .returned (.bool true) ∧ Same w w' := by
  have hne : ((xs.length : Int) != (xs.length : Int)) = false := by simp
  go_enter Tryz.func8, Tryz.ntmps8
  go_wp2
  go_loopw [5] (fun i wr => Same w wr ∧ ∃ k : Nat, k ≤ xs.length ∧ i = .int .i64 k) (fun i _ => xs.length - (intOf i).toNat)
  case atStart => exact ⟨Same.refl _, 0, Nat.zero_le _, rfl⟩
  case round =>
    obtain ⟨hal, k, hk, rfl⟩ := hrel
    have e1 : ∀ a, wr.cell? a = w.cell? a := fun a => hal.cell a
    by_cases hlt : k < xs.length
    · have c1 : wr.cell? ⟨b, off + k, none⟩ = some (.int .u8 (xs.getD k 0)) := (e1 _).trans (h1 k hlt)
      have c2 : wr.cell? ⟨b', off' + k, none⟩ = some (.int .u8 (xs.getD k 0)) := (e1 _).trans (h2 k hlt)
      clear e1
      have hi : (k : Int) < (xs.length : Int) := by omega
      go_wp2
      go_quiet (fail)
      go_wp2
      go_roundw
      case rel => exact ⟨hal.drewN _, k + 1, by omega, by go_num⟩
      case measure => simp [intOf]; omega
    · clear e1
      go_wp2
      go_ret
      exact ⟨rfl, hal⟩

set_option maxHeartbeats 400000 in
theorem eqByteS_none (w : World) (ao bo : Option Addr) (cap cap' : Nat) :
    Calls Tryz.prog 8 #[.slice ao 0 cap, .slice bo 0 cap'] w fun e w' => e = .returned (.bool true) ∧ Same w w' := by
  go_enter Tryz.func8, Tryz.ntmps8
  go_wp2
  refine wp_loop_rounds 1 ?_; rw [rounds_succ]
  go_wp2
  go_ret
  exact ⟨rfl, Same.refl _⟩

theorem eqByteS_calls (w : World) {lo hi lo' hi' : Nat} {a b : Value} {xs : List Int} (h1 : View w lo hi .u8 a xs) (h2 : View w lo' hi' .u8 b xs) :
    Calls Tryz.prog 8 #[a, b] w fun e w' => e = .returned (.bool true) ∧ Same w w' := by
  obtain ⟨ao, cap, rfl, hl, _, h1⟩ := h1
  obtain ⟨bo, cap', rfl, _, _, h2⟩ := h2
  rcases h1 with rfl | ⟨x, off, rfl, _, _, h1⟩
  · exact eqByteS_none w ao bo cap cap'
  · rcases h2 with rfl | ⟨y, off', rfl, _, _, h2⟩
    · exact eqByteS_none w _ bo cap cap'
    · exact eqByteS_some w xs x off y off' cap cap' hl h1 h2

end Go.Proofs.YteaeikmgkmpkiaaGreatDoor

namespace Go.Proofs.YteaeikmgkmpkiaaGreatDoor
open Go.RowKit

set_option maxRecDepth 20000 in
set_option maxHeartbeats 400000 in
theorem markByteS_some (w : World) (base : Nat) (e : TypeId) (xs : List Int) (k0 g cap : Nat) (hl : xs.length ≤ 140737488355328) (hk0 : k0 ≤ 140737488355328)
    (h1 : OwnB w base e (.slice (some ⟨g, 0, none⟩) xs.length cap) xs) :
    Calls Tryz.prog 9 #[.slice (some ⟨g, 0, none⟩) xs.length cap, .int .i64 k0] w fun r w' => r = .returned (.int .i64 ((k0 + xs.length : Nat) : Int)) ∧
      OwnB w' base e (.slice (some ⟨g, 0, none⟩) xs.length cap) (marks k0 xs.length) ∧ Chg g (g + 1) w w' := by
  go_enter Tryz.func9, Tryz.ntmps9
  go_wp2
  go_loopw [1, 5] (fun q i wr => ∃ k : Nat, k ≤ xs.length ∧ i = .int .i64 k ∧ q = .int .i64 ((k0 + k : Nat) : Int) ∧ OwnB wr base e (.slice (some ⟨g, 0, none⟩) xs.length cap) (marks k0 k ++ xs.drop k) ∧ Chg g (g + 1) w wr) (fun _ i _ => xs.length - (intOf i).toNat)
  case atStart => exact ⟨0, Nat.zero_le _, rfl, rfl, by simpa [marks] using h1, Chg.refl _ _ _⟩
  case round =>
    obtain ⟨k, hk, rfl, rfl, hown, hch⟩ := hrel
    clear h1
    have hlen : (marks k0 k ++ xs.drop k).length = xs.length := by simp [marks_length]; omega
    have hown' : wr.ownsRow base e 1 (.slice (some ⟨g, 0, none⟩) xs.length cap) xs.length ((marks k0 k ++ xs.drop k).map (Value.int .u8)) := by
      have := hown; unfold OwnB at this; rw [hlen] at this; exact this
    by_cases hlt : k < xs.length
    · have c1 : ∃ u, wr.cell? ⟨g, k, none⟩ = some u := by
        have := World.ownsRow.cellAt hown' k (by omega)
        rw [this]
        exact ⟨_, List.getElem?_eq_getElem (by rw [List.length_map, hlen]; exact hlt)⟩
      obtain ⟨u, c1⟩ := c1
      have f1 : wr.frozen? ⟨g, k, none⟩ = false := World.ownsRow.frozenAt hown' k
      have hst := World.ownsRow.stored hown' k (.int .u8 (((k0 + k : Nat) : Int) % 256))
      rw [marks_set _ _ _ hlt] at hst
      have hlen2 : (marks k0 (k + 1) ++ xs.drop (k + 1)).length = xs.length := by simp [marks_length]; omega
      have hi : (k : Int) < (xs.length : Int) := by omega
      have R : OwnB (wr.setCell ⟨g, k, none⟩ (.int .u8 (((k0 + k : Nat) : Int) % 256))) base e (.slice (some ⟨g, 0, none⟩) xs.length cap) (marks k0 (k + 1) ++ xs.drop (k + 1)) := by
        unfold OwnB; rw [hlen2]; exact hst.1
      have R2 : Chg g (g + 1) w (wr.setCell ⟨g, k, none⟩ (.int .u8 (((k0 + k : Nat) : Int) % 256))) := hch.setCell (Or.inl ⟨Nat.le_refl _, Nat.lt_succ_self _⟩) _
      have HR : Hid (OwnB (wr.setCell ⟨g, k, none⟩ (.int .u8 (((k0 + k : Nat) : Int) % 256))) base e (.slice (some ⟨g, 0, none⟩) xs.length cap) (marks k0 (k + 1) ++ xs.drop (k + 1))) := R
      clear hst hown hown' hlen hlen2 R hch
      go_wp2
      go_roundw
      case rel => exact ⟨k + 1, by omega, by go_num, by go_num, HR.out, R2⟩
      case measure => simp [intOf]; omega
    · obtain rfl : k = xs.length := by omega
      have HR : Hid (OwnB wr base e (.slice (some ⟨g, 0, none⟩) xs.length cap) (marks k0 xs.length)) := by
        have := hown; rw [List.drop_length, List.append_nil] at this; exact this
      clear hown hown' hlen
      go_wp2
      go_ret
      exact ⟨ret_int (by omega), HR.out, hch⟩

set_option maxRecDepth 20000 in
set_option maxHeartbeats 400000 in
theorem markByteS_none (w : World) (ao : Option Addr) (k0 cap : Nat) :
    Calls Tryz.prog 9 #[.slice ao 0 cap, .int .i64 k0] w fun r w' => r = .returned (.int .i64 (k0 : Int)) ∧ w' = w := by
  go_enter Tryz.func9, Tryz.ntmps9
  go_wp2
  refine wp_loop_rounds 1 ?_; rw [rounds_succ]
  go_wp2
  go_ret
  exact ⟨rfl, rfl⟩

/-- Behind markByteS the slice's own row bears the marks; nothing else has turned. -/
theorem markByteS_calls (w : World) (base : Nat) (e : TypeId) (v : Value) (xs : List Int) (k0 lo hi : Nat) (hl : xs.length ≤ 140737488355328) (hk0 : k0 ≤ 140737488355328)
    (h1 : OwnB w base e v xs) (hb : ∀ g, v.ownBlock = some g → lo ≤ g ∧ g < hi) :
    Calls Tryz.prog 9 #[v, .int .i64 k0] w fun r w' => r = .returned (.int .i64 ((k0 + xs.length : Nat) : Int)) ∧ OwnB w' base e v (marks k0 xs.length) ∧ Chg lo hi w w' ∧ (∀ g, v.ownBlock = some g → Chg g (g + 1) w w') ∧ (v.ownBlock = none → w' = w) := by
  have h0 := h1
  obtain ⟨_, h2⟩ := h1
  rcases h2 with ⟨rfl, hn⟩ | ⟨g, cap, cur, rfl, _⟩
  · obtain rfl : xs = [] := List.eq_nil_of_length_eq_zero hn
    refine (markByteS_none w none k0 0).mono ?_
    rintro r w' ⟨rfl, rfl⟩
    exact ⟨rfl, h0, Chg.refl _ _ _, fun _ _ => Chg.refl _ _ _, fun _ => rfl⟩
  · refine (markByteS_some w base e xs k0 g cap hl hk0 h0).mono ?_
    rintro r w' ⟨rfl, ho, hc⟩
    have := hb g rfl
    exact ⟨rfl, ho, hc.widen (Or.inl this.1) (Or.inl (by omega)), fun g' hg' => by cases hg'; exact hc, fun h => by cases h⟩

end Go.Proofs.YteaeikmgkmpkiaaGreatDoor

namespace Go.Proofs.YteaeikmgkmpkiaaGreatDoor
open Go.RowKit

theorem Tryz.infoB : (Tryz.prog.info? 5).map (fun i => (i.zero, i.size, i.bytes)) = some (some (.int .u8 0), 1, 1) := by kernel_rfl

theorem take_set_drop (xs : List Int) (k : Nat) (h : k < xs.length) :
    ((xs.take k ++ List.replicate (xs.length - k) 0).map (Value.int .u8)).set k (.int .u8 (xs.getD k 0)) = (xs.take (k + 1) ++ List.replicate (xs.length - (k + 1)) 0).map (Value.int .u8) := by
  have e : xs.length - k = (xs.length - (k + 1)) + 1 := by omega
  rw [e, List.replicate_succ, List.map_append, List.map_cons, List.set_append]
  simp only [List.length_map, List.length_take, Nat.min_eq_left (Nat.le_of_lt h), Nat.lt_irrefl, if_false, Nat.sub_self, List.set_cons_zero]
  rw [List.take_succ_eq_append_getElem h, List.map_append, List.map_append]
  simp [List.getD_eq_getElem?_getD, h]

set_option maxHeartbeats 400000 in
theorem toByteS_some (w : World) (xs : List Int) (b off cap : Nat) (hl : xs.length ≤ 140737488355328)
    (h1 : ∀ i, i < xs.length → w.cell? ⟨b, off + i, none⟩ = some (.int .u8 (xs.getD i 0))) :
    Calls Tryz.prog 5 #[.slice (some ⟨b, off, none⟩) xs.length cap] w fun e w' => e = .returned (.slice (some ⟨w.heap.size, 0, none⟩) xs.length xs.length) ∧
      OwnB w' w.heap.size 5 (.slice (some ⟨w.heap.size, 0, none⟩) xs.length xs.length) xs ∧ Chg 0 0 w w' := by
  obtain ⟨i, hi, hz0, hz1, hz2⟩ := info_parts Tryz.infoB
  go_enter Tryz.func5, Tryz.ntmps5
  go_wp2_with (at_make; refine wpList_make_full _ rfl _ _ 22 rfl w.heap.size 5 i (.int .u8 0) 1 Tryz.underlying22 hi hz0 hz1 _ _ _ _ xs.length rfl rfl rfl rfl (by rw [hz2]; omega) (by unfold maxLen; omega) (by simp) ?_)
  intro w1 hown hgrow
  have hch : Chg 0 0 w w1 := Chg.ofGrown hgrow (by simp)
  have hO : OwnB w1 w.heap.size 5 (.slice (some ⟨w.heap.size, 0, none⟩) xs.length xs.length) (xs.take 0 ++ List.replicate (xs.length - 0) 0) := by
    unfold OwnB
    simpa [toList_madeCells_one] using hown
  have hlt0 : w.heap.size < w1.heap.size := by
    have := World.ownsRow.lt hown w.heap.size rfl; omega
  clear hown hgrow
  go_wp2
  go_loopw [4] (fun i wr => ∃ k : Nat, k ≤ xs.length ∧ i = .int .i64 k ∧ OwnB wr w.heap.size 5 (.slice (some ⟨w.heap.size, 0, none⟩) xs.length xs.length) (xs.take k ++ List.replicate (xs.length - k) 0) ∧ Chg 0 0 w wr) (fun i _ => xs.length - (intOf i).toNat)
  case atStart => exact ⟨0, Nat.zero_le _, rfl, hO, hch⟩
  case round =>
    obtain ⟨k, hk, rfl, hown, hc⟩ := hrel
    clear hO hch
    have hlen : (xs.take k ++ List.replicate (xs.length - k) 0).length = xs.length := by simp; omega
    have hown' : wr.ownsRow w.heap.size 5 1 (.slice (some ⟨w.heap.size, 0, none⟩) xs.length xs.length) xs.length ((xs.take k ++ List.replicate (xs.length - k) 0).map (Value.int .u8)) := by
      have := hown; unfold OwnB at this; rw [hlen] at this; exact this
    by_cases hlt : k < xs.length
    · have c1 : ∃ u, wr.cell? ⟨w.heap.size, k, none⟩ = some u := by
        have := World.ownsRow.cellAt hown' k (by omega)
        rw [this]
        exact ⟨_, List.getElem?_eq_getElem (by rw [List.length_map, hlen]; exact hlt)⟩
      obtain ⟨u, c1⟩ := c1
      have f1 : wr.frozen? ⟨w.heap.size, k, none⟩ = false := World.ownsRow.frozenAt hown' k
      have c2 := hc.cell (h1 k hlt) (by omega)
      have hst := (World.ownsRow.stored hown' k (.int .u8 (xs.getD k 0))).1
      rw [take_set_drop _ _ hlt] at hst
      have hlen2 : (xs.take (k + 1) ++ List.replicate (xs.length - (k + 1)) 0).length = xs.length := by simp; omega
      have hik : (k : Int) < (xs.length : Int) := by omega
      have R2 : Chg 0 0 w (wr.setCell ⟨w.heap.size, k, none⟩ (.int .u8 (xs.getD k 0))) := hc.setCell (Or.inr (Nat.le_refl _)) _
      have HR : Hid (OwnB (wr.setCell ⟨w.heap.size, k, none⟩ (.int .u8 (xs.getD k 0))) w.heap.size 5 (.slice (some ⟨w.heap.size, 0, none⟩) xs.length xs.length) (xs.take (k + 1) ++ List.replicate (xs.length - (k + 1)) 0)) := by
        show OwnB _ _ _ _ _
        unfold OwnB; rw [hlen2]; exact hst
      have HR2 : Hid (Chg 0 0 w (wr.setCell ⟨w.heap.size, k, none⟩ (.int .u8 (xs.getD k 0)))) := R2
      generalize xs.getD k 0 = x at *
      clear hst hown hown' hlen hlen2 R2 hc h1
      go_wp2
      go_roundw
      case rel => exact ⟨k + 1, by omega, by go_num, HR.out, HR2.out⟩
      case measure => simp [intOf]; omega
    · obtain rfl : k = xs.length := by omega
      have HR : Hid (OwnB wr w.heap.size 5 (.slice (some ⟨w.heap.size, 0, none⟩) xs.length xs.length) xs) := by
        show OwnB _ _ _ _ _
        have := hown; rw [List.take_length, Nat.sub_self, List.replicate_zero, List.append_nil] at this; exact this
      clear hown hown' hlen h1
      go_wp2
      go_ret
      exact ⟨rfl, HR.out, hc⟩

set_option maxHeartbeats 400000 in
theorem toByteS_none (w : World) (ao : Option Addr) (cap : Nat) :
    Calls Tryz.prog 5 #[.slice ao 0 cap] w fun e w' => e = .returned (.slice (some ⟨w.heap.size, 0, none⟩) 0 0) ∧
      OwnB w' w.heap.size 5 (.slice (some ⟨w.heap.size, 0, none⟩) 0 0) [] ∧ Chg 0 0 w w' := by
  obtain ⟨i, hi, hz0, hz1, hz2⟩ := info_parts Tryz.infoB
  go_enter Tryz.func5, Tryz.ntmps5
  go_wp2_with (at_make; refine wpList_make_full _ rfl _ _ 22 rfl w.heap.size 5 i (.int .u8 0) 1 Tryz.underlying22 hi hz0 hz1 _ _ _ _ 0 rfl rfl rfl rfl (by omega) (by unfold maxLen; omega) (by simp) ?_)
  intro w1 hown hgrow
  have hch : Chg 0 0 w w1 := Chg.ofGrown hgrow (by simp)
  have hO : OwnB w1 w.heap.size 5 (.slice (some ⟨w.heap.size, 0, none⟩) 0 0) [] := by
    unfold OwnB
    simpa [toList_madeCells_one] using hown
  clear hown hgrow
  go_wp2
  refine wp_loop_rounds 1 ?_; rw [rounds_succ]
  go_wp2
  go_ret
  exact ⟨rfl, hO, hch⟩

/-- A copy of one's own. -/
theorem toByteS_calls (w : World) {lo hi : Nat} {a : Value} {xs : List Int} (hl : xs.length ≤ 1048576) (h1 : View w lo hi .u8 a xs) :
    Calls Tryz.prog 5 #[a] w fun e w' => ∃ g, e = .returned (.slice (some ⟨g, 0, none⟩) xs.length xs.length) ∧
      OwnB w' w.heap.size 5 (.slice (some ⟨g, 0, none⟩) xs.length xs.length) xs ∧ Chg 0 0 w w' := by
  obtain ⟨ao, cap, rfl, _, _, h1⟩ := h1
  rcases h1 with rfl | ⟨x, off, rfl, _, _, h1⟩
  · exact (toByteS_none w ao cap).mono fun e w' h => ⟨_, h⟩
  · exact (toByteS_some w xs x off cap (by omega) h1).mono fun e w' h => ⟨_, h⟩

end Go.Proofs.YteaeikmgkmpkiaaGreatDoor

namespace Go.Proofs.YteaeikmgkmpkiaaGreatDoor
open Go.ChangeShapes Go.WideShapes Go.ChangeAt Go.RowKit

theorem own : ownKnob Tryz.prog.godebug = none := by kernel_rfl
theorem laidOut : laidOutB Tryz.prog = true := by kernel_rfl

theorem addr_plain {w : World} {a : Addr} {x : Value} {i : Nat} (h : w.cell? (a.add 0) = some x) : a.add i = ⟨a.block, a.off + i, none⟩ ∧ a = ⟨a.block, a.off, none⟩ := by
  obtain ⟨b, off, spot⟩ := a
  have hspot : spot = none := by simpa [Addr.add] using World.cell?_spot h
  subst hspot
  exact ⟨Go.WideShapes.add_plain _ _ _, rfl⟩

/-- A slice of numbers that came in; each of them fits. -/
theorem view_wf_of_trod {H : Type} {enc : TypeId × Value → H} {W : World} {fuel t e : Nat} {k : IntKind} {v : Value} {x : DataW H × List MemPlace} (ht : Tryz.prog.underlying t = some (.slice e)) (he : Tryz.prog.underlying e = some (.int k)) (hc : Tryz.prog.cellsOf e = 1)
    (h : DataW.trod enc Tryz.prog W 0 (fun _ => true) true fuel t [v] = some x) : ∃ xs, View W 0 W.heap.size k v xs ∧ ∀ x ∈ xs, (Lit.int k x).wf = true := by
  rcases open_ints ht he hc h with ⟨hcs, _⟩ | ⟨a, len, cap, zs, hcs, _, hl, hm, hz, _, hcell, hwf⟩
  · simp at hcs; subst hcs; exact ⟨[], View.nil _ _ _ _, by simp⟩
  · simp at hcs hz; subst hcs
    unfold maxLen at hm
    refine ⟨zs.take len, ⟨some a, cap, by rw [List.length_take, Nat.min_eq_left (by omega)], by rw [List.length_take]; omega, ⟨by rw [List.length_take]; omega, by simp⟩, ?_⟩, fun x hx => hwf x (List.mem_of_mem_take hx)⟩
    by_cases h0 : len = 0
    · left; subst h0; rfl
    · right
      obtain ⟨b, off, rfl, hc2⟩ := ints_at hcell (by omega)
      refine ⟨b, off, rfl, Nat.zero_le _, lt_of_cell (hc2 0 (by omega)), fun i hi => ?_⟩
      rw [List.length_take] at hi
      rw [hc2 i (by omega)]
      simp only [List.getD_eq_getElem?_getD, List.getElem?_take]
      rw [if_pos (by omega)]

end Go.Proofs.YteaeikmgkmpkiaaGreatDoor
