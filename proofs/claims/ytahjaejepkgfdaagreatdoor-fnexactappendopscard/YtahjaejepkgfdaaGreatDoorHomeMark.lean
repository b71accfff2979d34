/- Several short texts in one: MarkB, HomeMark. -/
import Derived.Test.YtahjaejepkgfdaaGreatDoorRows
import Derived.Test.YtahjaejepkgfdaaGreatDoorMem
namespace Go.Proofs.YtahjaejepkgfdaaGreatDoor
open Go.RowKit

set_option maxRecDepth 20000 in
set_option maxHeartbeats 400000 in
theorem heldByteS_some (w : World) (n k0 : Nat) (b off cap : Nat) (hl : n ≤ 140737488355328) (hk0 : k0 ≤ 140737488355328)
    (h1 : ∀ i, i < n → w.cell? ⟨b, off + i, none⟩ = some (.int .u8 ((marks k0 n).getD i 0))) :
    Calls Tryz.prog 34 #[.slice (some ⟨b, off, none⟩) n cap, .int .i64 k0] w fun e w' => e = .returned (.int .i64 ((k0 + n : Nat) : Int)) ∧ Same w w' := by
  go_enter Tryz.func34, Tryz.ntmps34
  go_wp2
  go_loop [1, 5] (fun q i => ∃ k : Nat, k ≤ n ∧ i = .int .i64 k ∧ q = .int .i64 ((k0 + k : Nat) : Int)) (fun _ i => n - (intOf i).toNat)
  case atStart => exact ⟨0, Nat.zero_le _, rfl, rfl⟩
  case round =>
    obtain ⟨k, hk, rfl, rfl⟩ := hrel
    by_cases hlt : k < n
    · have c1 : w.cell? ⟨b, off + k, none⟩ = some (.int .u8 (((k0 + k : Nat) : Int) % 256)) := by rw [h1 k hlt, marks_getD _ _ _ hlt]
      have hi : (k : Int) < (n : Int) := by omega
      clear h1
      go_wp2
      go_round
      case rel => exact ⟨k + 1, by omega, by go_num, by go_num⟩
      case measure => simp [intOf]; omega
    · clear h1
      go_wp2
      go_ret
      exact ⟨ret_int (by omega), Same.refl _⟩

set_option maxRecDepth 20000 in
set_option maxHeartbeats 400000 in
theorem heldByteS_none (w : World) (ao : Option Addr) (k0 cap : Nat) :
    Calls Tryz.prog 34 #[.slice ao 0 cap, .int .i64 k0] w fun e w' => e = .returned (.int .i64 (k0 : Int)) ∧ Same w w' := by
  go_enter Tryz.func34, Tryz.ntmps34
  go_wp2
  refine wp_loop_rounds 1 ?_; rw [rounds_succ]
  go_wp2
  go_ret
  exact ⟨rfl, Same.refl _⟩

theorem heldByteS_calls (w : World) {lo hi : Nat} {a : Value} (k0 n : Nat) (hk0 : k0 + n ≤ 140737488355328) (h1 : View w lo hi .u8 a (marks k0 n)) :
    Calls Tryz.prog 34 #[a, .int .i64 k0] w fun e w' => e = .returned (.int .i64 ((k0 + n : Nat) : Int)) ∧ Same w w' := by
  obtain ⟨ao, cap, rfl, hl, _, h1⟩ := h1
  rw [marks_length] at *
  rcases h1 with h1 | ⟨x, off, rfl, _, _, h1⟩
  · obtain rfl : n = 0 := by have := congrArg List.length h1; simpa [marks_length] using this
    exact heldByteS_none w ao k0 cap
  · exact heldByteS_some w n k0 x off cap (by omega) (by omega) h1

set_option maxRecDepth 20000 in
set_option maxHeartbeats 400000 in
theorem markByteS_some (w : World) (base : Nat) (e : TypeId) (xs : List Int) (k0 g cap : Nat) (hl : xs.length ≤ 140737488355328) (hk0 : k0 ≤ 140737488355328)
    (h1 : OwnB w base e (.slice (some ⟨g, 0, none⟩) xs.length cap) xs) :
    Calls Tryz.prog 33 #[.slice (some ⟨g, 0, none⟩) xs.length cap, .int .i64 k0] w fun r w' => r = .returned (.int .i64 ((k0 + xs.length : Nat) : Int)) ∧
      OwnB w' base e (.slice (some ⟨g, 0, none⟩) xs.length cap) (marks k0 xs.length) ∧ Chg g (g + 1) w w' := by
  go_enter Tryz.func33, Tryz.ntmps33
  go_wp2
  go_loopw [1, 5] (fun q i wr => ∃ k : Nat, k ≤ xs.length ∧ i = .int .i64 k ∧ q = .int .i64 ((k0 + k : Nat) : Int) ∧ OwnB wr base e (.slice (some ⟨g, 0, none⟩) xs.length cap) (marks k0 k ++ xs.drop k) ∧ Chg g (g + 1) w wr) (fun _ i _ => xs.length - (intOf i).toNat)
  case atStart => exact ⟨0, Nat.zero_le _, rfl, rfl, by simpa [marks] using h1, Chg.refl _ _ _⟩
  case round =>
    obtain ⟨k, hk, rfl, rfl, hown, hch⟩ := hrel
    clear h1
    have hlen : (marks k0 k ++ xs.drop k).length = xs.length := by simp [marks_length]; omega
    have hown' : wr.ownsRow base e 1 (.slice (some ⟨g, 0, none⟩) xs.length cap) xs.length ((marks k0 k ++ xs.drop k).map (Value.int .u8)) := by
      have := hown; unfold OwnB at this; rw [hlen] at this; exact this
    by_cases hlt : k < xs.length
    · have c1 : ∃ u, wr.cell? ⟨g, k, none⟩ = some u := by
        have := World.ownsRow.cellAt hown' k (by omega)
        rw [this]
        exact ⟨_, List.getElem?_eq_getElem (by rw [List.length_map, hlen]; exact hlt)⟩
      obtain ⟨u, c1⟩ := c1
      have f1 : wr.frozen? ⟨g, k, none⟩ = false := World.ownsRow.frozenAt hown' k
      have hst := World.ownsRow.stored hown' k (.int .u8 (((k0 + k : Nat) : Int) % 256))
      rw [marks_set _ _ _ hlt] at hst
      have hlen2 : (marks k0 (k + 1) ++ xs.drop (k + 1)).length = xs.length := by simp [marks_length]; omega
      have hi : (k : Int) < (xs.length : Int) := by omega
      have R : OwnB (wr.setCell ⟨g, k, none⟩ (.int .u8 (((k0 + k : Nat) : Int) % 256))) base e (.slice (some ⟨g, 0, none⟩) xs.length cap) (marks k0 (k + 1) ++ xs.drop (k + 1)) := by
        unfold OwnB; rw [hlen2]; exact hst.1
      have R2 : Chg g (g + 1) w (wr.setCell ⟨g, k, none⟩ (.int .u8 (((k0 + k : Nat) : Int) % 256))) := hch.setCell (Or.inl ⟨Nat.le_refl _, Nat.lt_succ_self _⟩) _
      have HR : Hid (OwnB (wr.setCell ⟨g, k, none⟩ (.int .u8 (((k0 + k : Nat) : Int) % 256))) base e (.slice (some ⟨g, 0, none⟩) xs.length cap) (marks k0 (k + 1) ++ xs.drop (k + 1))) := R
      clear hst hown hown' hlen hlen2 R hch
      go_wp2
      go_roundw
      case rel => exact ⟨k + 1, by omega, by go_num, by go_num, HR.out, R2⟩
      case measure => simp [intOf]; omega
    · obtain rfl : k = xs.length := by omega
      have HR : Hid (OwnB wr base e (.slice (some ⟨g, 0, none⟩) xs.length cap) (marks k0 xs.length)) := by
        have := hown; rw [List.drop_length, List.append_nil] at this; exact this
      clear hown hown' hlen
      go_wp2
      go_ret
      exact ⟨ret_int (by omega), HR.out, hch⟩

set_option maxRecDepth 20000 in
set_option maxHeartbeats 400000 in
theorem markByteS_none (w : World) (ao : Option Addr) (k0 cap : Nat) :
    Calls Tryz.prog 33 #[.slice ao 0 cap, .int .i64 k0] w fun r w' => r = .returned (.int .i64 (k0 : Int)) ∧ w' = w := by
  go_enter Tryz.func33, Tryz.ntmps33
  go_wp2
  refine wp_loop_rounds 1 ?_; rw [rounds_succ]
  go_wp2
  go_ret
  exact ⟨rfl, rfl⟩

/-- Behind markByteS the slice's own row bears the marks; nothing else has turned. -/
theorem markByteS_calls (w : World) (base : Nat) (e : TypeId) (v : Value) (xs : List Int) (k0 lo hi : Nat) (hl : xs.length ≤ 140737488355328) (hk0 : k0 ≤ 140737488355328)
    (h1 : OwnB w base e v xs) (hb : ∀ g, v.ownBlock = some g → lo ≤ g ∧ g < hi) :
    Calls Tryz.prog 33 #[v, .int .i64 k0] w fun r w' => r = .returned (.int .i64 ((k0 + xs.length : Nat) : Int)) ∧ OwnB w' base e v (marks k0 xs.length) ∧ Chg lo hi w w' ∧ (∀ g, v.ownBlock = some g → Chg g (g + 1) w w') ∧ (v.ownBlock = none → w' = w) := by
  have h0 := h1
  obtain ⟨_, h2⟩ := h1
  rcases h2 with ⟨rfl, hn⟩ | ⟨g, cap, cur, rfl, _⟩
  · obtain rfl : xs = [] := List.eq_nil_of_length_eq_zero hn
    refine (markByteS_none w none k0 0).mono ?_
    rintro r w' ⟨rfl, rfl⟩
    exact ⟨rfl, h0, Chg.refl _ _ _, fun _ _ => Chg.refl _ _ _, fun _ => rfl⟩
  · refine (markByteS_some w base e xs k0 g cap hl hk0 h0).mono ?_
    rintro r w' ⟨rfl, ho, hc⟩
    have := hb g rfl
    exact ⟨rfl, ho, hc.widen (Or.inl this.1) (Or.inl (by omega)), fun g' hg' => by cases hg'; exact hc, fun h => by cases h⟩

end Go.Proofs.YtahjaejepkgfdaaGreatDoor

namespace Go.Proofs.YtahjaejepkgfdaaGreatDoor
open Go.RowKit

set_option maxRecDepth 20000 in
set_option maxHeartbeats 1000000 in
theorem markHomeS_some (w : World) (base : Nat) (eW eB : TypeId) (hE : eW ≠ eB) (ps : List Wr) (k0 g cap lo hi : Nat) (hl : ps.length ≤ 140737488355328) (hk0 : k0 + cnt ps ≤ 140737488355328)
    (cells : List Value) (dvs : Nat → Value) (h1 : OwnPx w base eW eB (.slice (some ⟨g, 0, none⟩) ps.length cap) ps cells dvs) (hg : lo ≤ g ∧ g < hi)
    (hb : ∀ i g', i < ps.length → (dvs i).ownBlock = some g' → lo ≤ g' ∧ g' < hi) :
    Calls Tryz.prog 31 #[.slice (some ⟨g, 0, none⟩) ps.length cap, .int .i64 k0] w fun r w' => r = .returned (.int .i64 ((k0 + cnt ps : Nat) : Int)) ∧
      (∃ cells', OwnPx w' base eW eB (.slice (some ⟨g, 0, none⟩) ps.length cap) (mkTo k0 ps ps.length) cells' dvs) ∧ Chg lo hi w w' ∧ (∀ m, m ≠ g → (∀ i, i < ps.length → (dvs i).ownBlock ≠ some m) → m < w.heap.size → w'.heap[m]? = w.heap[m]?) := by
  go_enter Tryz.func31, Tryz.ntmps31
  go_wp2
  go_loopw [1, 5] (fun q i wr => ∃ k : Nat, k ≤ ps.length ∧ i = .int .i64 k ∧ q = .int .i64 ((k0 + cnt (ps.take k) : Nat) : Int) ∧
      (∃ cells', OwnPx wr base eW eB (.slice (some ⟨g, 0, none⟩) ps.length cap) (mkTo k0 ps k) cells' dvs) ∧ Chg lo hi w wr ∧ (∀ m, m ≠ g → (∀ i, i < ps.length → (dvs i).ownBlock ≠ some m) → m < w.heap.size → wr.heap[m]? = w.heap[m]?)) (fun _ i _ => ps.length - (intOf i).toNat)
  case atStart => exact ⟨0, Nat.zero_le _, rfl, rfl, ⟨cells, by rw [mkTo_zero]; exact h1⟩, Chg.refl _ _ _, fun _ _ _ _ => rfl⟩
  case round =>
    obtain ⟨k, hk, rfl, rfl, ⟨cells', hown⟩, hch, hrest⟩ := hrel
    clear h1
    by_cases hlt : k < ps.length
    · have hrow := hown.row
      rw [mkTo_length] at hrow
      have hlen : cells'.length = ps.length * 2 := hrow.1
      have c0 : wr.cell? ⟨g, k * 2, none⟩ = some (.int .i64 ((mkTo k0 ps k).getD k (0, [])).1) := by
        rw [World.ownsRow.cellAt hrow (k * 2) (by omega)]; exact hown.at0 k (by rw [mkTo_length]; exact hlt)
      have c1 : wr.cell? ⟨g, k * 2 + 1, none⟩ = some (dvs k) := by
        rw [World.ownsRow.cellAt hrow (k * 2 + 1) (by omega)]; exact hown.at1 k (by rw [mkTo_length]; exact hlt)
      have f0 : wr.frozen? ⟨g, k * 2, none⟩ = false := World.ownsRow.frozenAt hrow (k * 2)
      have hik : (k : Int) < (ps.length : Int) := by omega
      have hcs := cnt_take_succ ps k hlt
      have hcl := cnt_take_le ps (k + 1)
      have hd := hown.data_set hE (k * 2) (.int .i64 ((k0 : Int) + (cnt (ps.take k) : Int))) (i := k) (by rw [mkTo_length]; exact hlt)
      have hold : (mkTo k0 ps k).getD k (0, []) = ps.getD k (0, []) := by rw [mkTo_getD _ _ _ _ hlt, if_neg (Nat.lt_irrefl _)]
      rw [hold] at c0 hd
      have HW : Hid (mkW k0 ps k = (((k0 + cnt (ps.take k) : Nat) : Int), marks (k0 + cnt (ps.take k) + 1) (ps.getD k (0, [])).2.length)) := rfl
      clear hold hrow
      generalize hc : cnt (ps.take k) = c at *
      generalize ps.getD k (0, []) = old at *
      have Hc : Hid (cnt (ps.take k) = c) := hc
      clear hc
      have hbd : k0 + c + 1 + old.2.length ≤ 140737488355328 := by omega
      have Hcs : Hid (cnt (ps.take (k + 1)) = c + (old.2.length + 1)) := hcs
      clear hcs hcl
      go_wp2_with fail
      rw [show (k0 : Int) + (c : Int) + 1 = ((k0 + c + 1 : Nat) : Int) from by omega]
      refine (markByteS_calls _ base eB (dvs k) old.2 (k0 + c + 1) lo hi (by omega) (by omega) hd (hb k · hlt)).mono ?_
      rintro e w2 ⟨rfl, ho, hc1, hc2, hc3⟩
      have hset : (k0 : Int) + (c : Int) = ((k0 + c : Nat) : Int) := by omega
      rw [hset] at hc1 hc2 hc3
      have R1 := hown.step (mkTo_length _ _ _) hlt hE ((k0 + c : Nat) : Int) _ ho hc2 hc3
      rw [← HW.out, mkTo_succ] at R1
      have R2 : Chg lo hi w w2 := (hch.setCell (p := ⟨g, k * 2, none⟩) (Or.inl hg) _).trans hc1
      have R3 : ∀ m, m ≠ g → (∀ i, i < ps.length → (dvs i).ownBlock ≠ some m) → m < w.heap.size → w2.heap[m]? = w.heap[m]? := by
        intro m hm hm2 hm3
        rw [← hrest m hm hm2 hm3, ← Below.heap_setCell wr ⟨g, k * 2, none⟩ (.int .i64 ((k0 + c : Nat) : Int)) m hm]
        cases hb : (dvs k).ownBlock with
        | none => rw [hc3 hb]
        | some g' =>
          refine (hc2 g' hb).block m (Nat.lt_of_lt_of_le hm3 (by have := hch.size; simpa [World.setCell] using this)) ?_
          have : m ≠ g' := fun e => hm2 k hlt (by rw [e]; exact hb)
          omega
      have HR : Hid (∃ cells'', OwnPx w2 base eW eB (.slice (some ⟨g, 0, none⟩) ps.length cap) (mkTo k0 ps (k + 1)) cells'' dvs) := ⟨_, R1⟩
      have HR3 : Hid (∀ m, m ≠ g → (∀ i, i < ps.length → (dvs i).ownBlock ≠ some m) → m < w.heap.size → w2.heap[m]? = w.heap[m]?) := R3
      clear R1 R3 hc1 hc2 hc3 ho hown hrest hch c0 c1 f0 hd hset HW
      go_wp2
      go_roundw
      case rel => exact ⟨k + 1, by omega, by go_num, by rw [Hcs.out]; go_num, HR.out, R2, HR3.out⟩
      case measure => simp [intOf]; omega
    · obtain rfl : k = ps.length := by omega
      have H1 : Hid (∃ cells'', OwnPx wr base eW eB (.slice (some ⟨g, 0, none⟩) ps.length cap) (mkTo k0 ps ps.length) cells'' dvs) := ⟨_, hown⟩
      have H2 : Hid (∀ m, m ≠ g → (∀ i, i < ps.length → (dvs i).ownBlock ≠ some m) → m < w.heap.size → wr.heap[m]? = w.heap[m]?) := hrest
      rw [List.take_length]
      clear hown hrest
      go_wp2
      go_ret
      exact ⟨rfl, H1.out, hch, H2.out⟩

set_option maxRecDepth 20000 in
set_option maxHeartbeats 400000 in
theorem markHomeS_none (w : World) (ao : Option Addr) (k0 cap : Nat) :
    Calls Tryz.prog 31 #[.slice ao 0 cap, .int .i64 k0] w fun r w' => r = .returned (.int .i64 (k0 : Int)) ∧ w' = w := by
  go_enter Tryz.func31, Tryz.ntmps31
  go_wp2
  refine wp_loop_rounds 1 ?_; rw [rounds_succ]
  go_wp2
  go_ret
  exact ⟨rfl, rfl⟩

/-- Behind markWriteS the writes bear the marks; nothing else has turned. -/
theorem markHomeS_calls (w : World) (base : Nat) (eW eB : TypeId) (hE : eW ≠ eB) (v : Value) (ps : List Wr) (k0 lo hi : Nat) (hl : ps.length ≤ 140737488355328) (hk0 : k0 + cnt ps ≤ 140737488355328)
    (cells : List Value) (dvs : Nat → Value) (h1 : OwnPx w base eW eB v ps cells dvs) (hg : ∀ g, v.ownBlock = some g → lo ≤ g ∧ g < hi)
    (hb : ∀ i g', i < ps.length → (dvs i).ownBlock = some g' → lo ≤ g' ∧ g' < hi) :
    Calls Tryz.prog 31 #[v, .int .i64 k0] w fun r w' => r = .returned (.int .i64 ((k0 + cnt ps : Nat) : Int)) ∧
      (∃ cells', OwnPx w' base eW eB v (mkTo k0 ps ps.length) cells' dvs) ∧ Chg lo hi w w' ∧ (∀ m, v.ownBlock ≠ some m → (∀ i, i < ps.length → (dvs i).ownBlock ≠ some m) → m < w.heap.size → w'.heap[m]? = w.heap[m]?) := by
  rcases h1.row.2 with ⟨rfl, hn⟩ | ⟨g, cap, cur, rfl, _⟩
  · obtain rfl : ps = [] := List.eq_nil_of_length_eq_zero hn
    refine (markHomeS_none w none k0 0).mono ?_
    rintro r w' ⟨rfl, rfl⟩
    exact ⟨rfl, ⟨cells, by simpa [mkTo] using h1⟩, Chg.refl _ _ _, fun _ _ _ _ => rfl⟩
  · refine (markHomeS_some w base eW eB hE ps k0 g cap lo hi hl hk0 cells dvs h1 (hg g rfl) hb).mono ?_
    rintro r w' ⟨rfl, ho, hc, hr⟩
    exact ⟨rfl, ho, hc, fun m hm => hr m (fun e => hm (by rw [e]; rfl))⟩

end Go.Proofs.YtahjaejepkgfdaaGreatDoor
