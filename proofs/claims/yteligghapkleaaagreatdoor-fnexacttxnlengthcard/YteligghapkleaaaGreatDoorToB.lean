/- Several short texts in one: Unesc, Esc, SzB, HomeSz, ToB. -/
import Derived.Test.YteligghapkleaaaGreatDoorOpenBlk2
import Derived.Test.YteligghapkleaaaGreatDoorBytesOf
import Derived.Test.YteligghapkleaaaGreatDoorRows
import Derived.Test.YteligghapkleaaaGreatDoorMem
namespace Go.Proofs.YteligghapkleaaaGreatDoor
open Go.RowKit

/-- What stood ahead of the escaping. -/
def unescL (xs : List Int) (esc : Bool) : List Int := if esc = true then mg ++ xs.drop 4 else xs
def unescB (xs : List Int) (esc : Bool) : Bool := if esc = true then decide (xs.take 4 = [0, 0, 0, 0]) else !decide (xs.take 4 = mg)

theorem results_be {P : Program} {fn : Func} {p1 p3 : Tmp} {t1 : TypeId} {w : World} {tmps : Array Value} {a1 : Addr} {v1 v3 : Value} (h : fn.results = #[.cell p1 t1, .tmp p3]) (h1 : tmps.getD p1 undef = .pointer (some a1)) (h3 : tmps.getD p3 undef = v3)
    (hl1 : (loadVar t1 a1).run P w = .ok v1 w) : (results fn tmps).run P w = .ok (.tuple #[v1, v3]) w := by
  have h1' : tmps[p1]?.getD undef = .pointer (some a1) := by simpa using h1
  have h3' : tmps[p3]?.getD undef = v3 := by simpa using h3
  simp only [results, h]
  simp [asAddr, h1', h3', hl1]

end Go.Proofs.YteligghapkleaaaGreatDoor

namespace Go.Proofs.YteligghapkleaaaGreatDoor
open Go.RowKit

theorem clear_four (w : World) (b cap : Nat) (c0 c1 c2 c3 : Value) (ty : TypeId) (k0 : w.cell? ⟨b, 0, none⟩ = some c0) (k1 : w.cell? ⟨b, 1, none⟩ = some c1) (k2 : w.cell? ⟨b, 2, none⟩ = some c2) (k3 : w.cell? ⟨b, 3, none⟩ = some c3)
    (f0 : w.frozen? ⟨b, 0, none⟩ = false) (f1 : w.frozen? ⟨b, 1, none⟩ = false) (f2 : w.frozen? ⟨b, 2, none⟩ = false) (f3 : w.frozen? ⟨b, 3, none⟩ = false) :
    (Builtin.clear_ #[36] ty #[.slice (some ⟨b, 0, none⟩) 4 cap]).run Tryz.prog w = .ok (.tuple #[]) ((((w.setCell ⟨b, 0, none⟩ (.int .u8 0)).setCell ⟨b, 1, none⟩ (.int .u8 0)).setCell ⟨b, 2, none⟩ (.int .u8 0)).setCell ⟨b, 3, none⟩ (.int .u8 0)) := by
  have hz : (Builtin.zeroCells #[Value.int .u8 0] 4).toList = [.int .u8 0, .int .u8 0, .int .u8 0, .int .u8 0] := by first | kernel_rfl | decide | simp [Builtin.zeroCells]
  have hst := run_storeCells_cells (P := Tryz.prog) b 0 [.int .u8 0, .int .u8 0, .int .u8 0, .int .u8 0] 0 w
    (fun j hj => by
      have : j = 0 ∨ j = 1 ∨ j = 2 ∨ j = 3 := by simp at hj; omega
      rcases this with rfl | rfl | rfl | rfl
      · simp [k0]
      · simp [k1]
      · simp [k2]
      · simp [k3])
    (fun j hj => by
      have : j = 0 ∨ j = 1 ∨ j = 2 ∨ j = 3 := by simp at hj; omega
      rcases this with rfl | rfl | rfl | rfl
      · simpa using f0
      · simpa using f1
      · simpa using f2
      · simpa using f3)
    (by simp [Value.oneCell'])
  simp only [Nat.add_zero] at hst
  simp [Builtin.clear_, go_sem]
  rw [hz, hst]
  rfl

/-- What stands in the log for some data. -/
def escL (xs : List Int) : List Int := if xs.take 4 = mg then [0, 0, 0, 0] ++ xs.drop 4 else xs

theorem escL_length {xs : List Int} (h : xs.length = 64) : (escL xs).length = 64 := by
  unfold escL
  split
  · simp [h]
  · exact h

end Go.Proofs.YteligghapkleaaaGreatDoor

namespace Go.Proofs.YteligghapkleaaaGreatDoor
open Go.RowKit

/-- What is left of a count of at most left where n are taken: -1 if there are not so many. -/
def lft (left n : Nat) : Int := if n ≤ left then ((left - n : Nat) : Int) else -1

theorem lft_pos {left n : Nat} (h : n ≤ left) : lft left n = ((left - n : Nat) : Int) := by unfold lft; rw [if_pos h]
theorem lft_neg {left n : Nat} (h : ¬ n ≤ left) : lft left n = -1 := by unfold lft; rw [if_neg h]

set_option maxRecDepth 20000 in
set_option maxHeartbeats 400000 in
theorem szByteS_calls (w : World) (ao : Option Addr) (n cap left : Nat) (hl : n ≤ 9223372036854775807) (hb : left ≤ 1048576) :
    Calls Tryz.prog 26 #[.slice ao n cap, .int .i64 left] w fun e w' => e = .returned (.int .i64 (lft left n)) ∧ w' = w := by
  by_cases h : n ≤ left
  · rw [lft_pos h]
    go_enter Tryz.func26, Tryz.ntmps26
    go_wp2
    go_ret
    exact ⟨ret_int (by omega), rfl⟩
  · rw [lft_neg h]
    have h' : (left : Int) - n < 0 := by omega
    go_enter Tryz.func26, Tryz.ntmps26
    go_wp2
    go_ret
    exact ⟨rfl, rfl⟩

end Go.Proofs.YteligghapkleaaaGreatDoor

namespace Go.Proofs.YteligghapkleaaaGreatDoor
open Go.RowKit

set_option maxRecDepth 20000 in
set_option maxHeartbeats 400000 in
theorem szHome_calls (w : World) (q : Int) (ao : Option Addr) (n cap left : Nat) (hl : n ≤ 9223372036854775807) (hb : left ≤ 1048576) :
    Calls Tryz.prog 17 #[.agg #[.int .i64 q, .slice ao n cap], .int .i64 left] w fun e w' => e = .returned (.int .i64 (lft left n)) ∧ Chg 0 0 w w' := by
  by_cases h : n ≤ left
  · go_enter Tryz.func17, Tryz.ntmps17
    go_wp2_with fail
    refine (szByteS_calls _ ao n cap left hl hb).mono ?_
    rintro e w1 ⟨rfl, rfl⟩
    rw [lft_pos h]
    go_wp2
    go_ret
    exact ⟨by rw [lft_pos h]; rfl, Chg.alloc (Chg.refl 0 0 w) _⟩
  · go_enter Tryz.func17, Tryz.ntmps17
    go_wp2_with fail
    refine (szByteS_calls _ ao n cap left hl hb).mono ?_
    rintro e w1 ⟨rfl, rfl⟩
    rw [lft_neg h]
    go_wp2
    go_ret
    exact ⟨by rw [lft_neg h]; rfl, Chg.alloc (Chg.refl 0 0 w) _⟩

theorem cnt_rest (ps : List Wr) (k : Nat) : cnt (ps.take k) + (ps.length - k) ≤ cnt ps := by
  have h1 : cnt ps = cnt (ps.take k) + cnt (ps.drop k) := by
    unfold cnt; rw [← List.sum_append_nat, ← List.map_append, List.take_append_drop]
  have h2 := cnt_ge (ps.drop k)
  rw [List.length_drop] at h2
  omega

set_option maxRecDepth 20000 in
set_option maxHeartbeats 1000000 in
theorem szHomeS_some (w : World) (ps : List Wr) (lo hi b off cap left : Nat) (hl : ps.length ≤ 9223372036854775807) (hb : left ≤ 1048576)
    (h1 : ∀ i, i < ps.length → ∃ dv, w.cell? ⟨b, off + i * 2, none⟩ = some (.int .i64 (ps.getD i (0, [])).1) ∧ w.cell? ⟨b, off + i * 2 + 1, none⟩ = some dv ∧ View w lo hi .u8 dv (ps.getD i (0, [])).2) :
    Calls Tryz.prog 9 #[.slice (some ⟨b, off, none⟩) ps.length cap, .int .i64 left] w fun e w' => e = .returned (.int .i64 (lft left (cnt ps))) ∧ Chg 0 0 w w' := by
  have hcg := cnt_ge ps
  by_cases h0 : ps.length ≤ left
  · go_enter Tryz.func9, Tryz.ntmps9
    go_wp2
    go_loopw [1, 5] (fun q i wr => Chg 0 0 w wr ∧ ∃ k : Nat, k ≤ ps.length ∧ i = .int .i64 k ∧ ps.length + cnt (ps.take k) - k ≤ left ∧ q = .int .i64 ((left - (ps.length + cnt (ps.take k) - k) : Nat) : Int)) (fun _ i _ => ps.length - (intOf i).toNat)
    case atStart => exact ⟨Chg.refl _ _ _, 0, Nat.zero_le _, rfl, by simp [cnt]; exact h0, by simp [cnt]; omega⟩
    case round =>
      obtain ⟨hch, k, hk, rfl, hle, rfl⟩ := hrel
      by_cases hlt : k < ps.length
      · obtain ⟨d1, c1, c2, v1⟩ := h1 k hlt
        clear h1
        have hcs := cnt_take_succ ps k hlt
        have hcl := cnt_rest ps (k + 1)
        have hcg2 := cnt_ge (ps.take k)
        rw [List.length_take, Nat.min_eq_left hk] at hcg2
        obtain ⟨ao, cap', rfl, hl', _, _⟩ := v1
        generalize (ps.getD k (0, [])).1 = q at *
        generalize (ps.getD k (0, [])).2.length = n at *
        have c1 := hch.cell c1 (by omega)
        have c2 := hch.cell c2 (by omega)
        have hi : (k : Int) < (ps.length : Int) := by omega
        generalize cnt (ps.take k) = c at *
        have Hcs : Hid (cnt (ps.take (k + 1)) = c + (n + 1)) := hcs
        clear hcs
        generalize hL : left - (ps.length + c - k) = L at *
        have HL : Hid (left - (ps.length + c - k) = L) := hL
        have hLb : L ≤ 1048576 := by omega
        clear hL
        go_wp2_with fail
        refine (szHome_calls _ q ao n cap' L hl' hLb).mono ?_
        rintro e w1 ⟨rfl, hs⟩
        have hch' := hch.trans hs
        clear hs hch c1 c2
        by_cases hn : n ≤ L
        · rw [lft_pos hn]
          go_wp2
          go_roundw
          case rel => exact ⟨hch', k + 1, by omega, by go_num, by have := HL.out; have := Hcs.out; omega, by have := HL.out; have := Hcs.out; congr 1; omega⟩
          case measure => simp [intOf]; omega
        · rw [lft_neg hn]
          have hfin : ¬ cnt ps ≤ left := by have := HL.out; have := Hcs.out; omega
          go_wp2
          go_ret
          exact ⟨by rw [lft_neg hfin]; rfl, hch'⟩
      · obtain rfl : k = ps.length := by omega
        clear h1
        rw [List.take_length] at *
        have hfin : cnt ps ≤ left := by omega
        go_wp2
        go_ret
        exact ⟨by rw [lft_pos hfin]; exact ret_int (by omega), hch⟩
  · have h' : (left : Int) - ps.length < 0 := by omega
    have hfin : ¬ cnt ps ≤ left := by omega
    clear h1
    go_enter Tryz.func9, Tryz.ntmps9
    go_wp2
    go_ret
    exact ⟨by rw [lft_neg hfin]; rfl, Chg.refl _ _ _⟩

set_option maxRecDepth 20000 in
set_option maxHeartbeats 400000 in
theorem szHomeS_none (w : World) (ao : Option Addr) (cap left : Nat) (hb : left ≤ 1048576) :
    Calls Tryz.prog 9 #[.slice ao 0 cap, .int .i64 left] w fun e w' => e = .returned (.int .i64 (left : Int)) ∧ Chg 0 0 w w' := by
  go_enter Tryz.func9, Tryz.ntmps9
  go_wp2
  refine wp_loop_rounds 1 ?_; rw [rounds_succ]
  go_wp2
  go_ret
  exact ⟨rfl, Chg.refl _ _ _⟩

theorem szHomeS_calls (w : World) {lo hi : Nat} {a : Value} (ps : List Wr) (left : Nat) (hb : left ≤ 1048576) (h1 : PView w lo hi a ps) :
    Calls Tryz.prog 9 #[a, .int .i64 left] w fun e w' => e = .returned (.int .i64 (lft left (cnt ps))) ∧ Chg 0 0 w w' := by
  obtain ⟨ao, cap, rfl, hl, _, h1⟩ := h1
  rcases h1 with rfl | ⟨x, off, rfl, _, _, h1⟩
  · exact szHomeS_none w ao cap left hb
  · exact szHomeS_some w ps lo hi x off cap left hl hb h1

end Go.Proofs.YteligghapkleaaaGreatDoor

namespace Go.Proofs.YteligghapkleaaaGreatDoor
open Go.RowKit

theorem Tryz.infoB : (Tryz.prog.info? 5).map (fun i => (i.zero, i.size, i.bytes)) = some (some (.int .u8 0), 1, 1) := by kernel_rfl

theorem take_set_drop (xs : List Int) (k : Nat) (h : k < xs.length) :
    ((xs.take k ++ List.replicate (xs.length - k) 0).map (Value.int .u8)).set k (.int .u8 (xs.getD k 0)) = (xs.take (k + 1) ++ List.replicate (xs.length - (k + 1)) 0).map (Value.int .u8) := by
  have e : xs.length - k = (xs.length - (k + 1)) + 1 := by omega
  rw [e, List.replicate_succ, List.map_append, List.map_cons, List.set_append]
  simp only [List.length_map, List.length_take, Nat.min_eq_left (Nat.le_of_lt h), Nat.lt_irrefl, if_false, Nat.sub_self, List.set_cons_zero]
  rw [List.take_succ_eq_append_getElem h, List.map_append, List.map_append]
  simp [List.getD_eq_getElem?_getD, h]

set_option maxHeartbeats 400000 in
theorem toByteS_some (w : World) (xs : List Int) (b off cap : Nat) (hl : xs.length ≤ 140737488355328)
    (h1 : ∀ i, i < xs.length → w.cell? ⟨b, off + i, none⟩ = some (.int .u8 (xs.getD i 0))) :
    Calls Tryz.prog 39 #[.slice (some ⟨b, off, none⟩) xs.length cap] w fun e w' => e = .returned (.slice (some ⟨w.heap.size, 0, none⟩) xs.length xs.length) ∧
      OwnB w' w.heap.size 5 (.slice (some ⟨w.heap.size, 0, none⟩) xs.length xs.length) xs ∧ Chg 0 0 w w' := by
  obtain ⟨i, hi, hz0, hz1, hz2⟩ := info_parts Tryz.infoB
  go_enter Tryz.func39, Tryz.ntmps39
  go_wp2_with (at_make; refine wpList_make_full _ rfl _ _ 36 rfl w.heap.size 5 i (.int .u8 0) 1 Tryz.underlying36 hi hz0 hz1 _ _ _ _ xs.length rfl rfl rfl rfl (by rw [hz2]; omega) (by unfold maxLen; omega) (by simp) ?_)
  intro w1 hown hgrow
  have hch : Chg 0 0 w w1 := Chg.ofGrown hgrow (by simp)
  have hO : OwnB w1 w.heap.size 5 (.slice (some ⟨w.heap.size, 0, none⟩) xs.length xs.length) (xs.take 0 ++ List.replicate (xs.length - 0) 0) := by
    unfold OwnB
    simpa [toList_madeCells_one] using hown
  have hlt0 : w.heap.size < w1.heap.size := by
    have := World.ownsRow.lt hown w.heap.size rfl; omega
  clear hown hgrow
  go_wp2
  go_loopw [4] (fun i wr => ∃ k : Nat, k ≤ xs.length ∧ i = .int .i64 k ∧ OwnB wr w.heap.size 5 (.slice (some ⟨w.heap.size, 0, none⟩) xs.length xs.length) (xs.take k ++ List.replicate (xs.length - k) 0) ∧ Chg 0 0 w wr) (fun i _ => xs.length - (intOf i).toNat)
  case atStart => exact ⟨0, Nat.zero_le _, rfl, hO, hch⟩
  case round =>
    obtain ⟨k, hk, rfl, hown, hc⟩ := hrel
    clear hO hch
    have hlen : (xs.take k ++ List.replicate (xs.length - k) 0).length = xs.length := by simp; omega
    have hown' : wr.ownsRow w.heap.size 5 1 (.slice (some ⟨w.heap.size, 0, none⟩) xs.length xs.length) xs.length ((xs.take k ++ List.replicate (xs.length - k) 0).map (Value.int .u8)) := by
      have := hown; unfold OwnB at this; rw [hlen] at this; exact this
    by_cases hlt : k < xs.length
    · have c1 : ∃ u, wr.cell? ⟨w.heap.size, k, none⟩ = some u := by
        have := World.ownsRow.cellAt hown' k (by omega)
        rw [this]
        exact ⟨_, List.getElem?_eq_getElem (by rw [List.length_map, hlen]; exact hlt)⟩
      obtain ⟨u, c1⟩ := c1
      have f1 : wr.frozen? ⟨w.heap.size, k, none⟩ = false := World.ownsRow.frozenAt hown' k
      have c2 := hc.cell (h1 k hlt) (by omega)
      have hst := (World.ownsRow.stored hown' k (.int .u8 (xs.getD k 0))).1
      rw [take_set_drop _ _ hlt] at hst
      have hlen2 : (xs.take (k + 1) ++ List.replicate (xs.length - (k + 1)) 0).length = xs.length := by simp; omega
      have hik : (k : Int) < (xs.length : Int) := by omega
      have R2 : Chg 0 0 w (wr.setCell ⟨w.heap.size, k, none⟩ (.int .u8 (xs.getD k 0))) := hc.setCell (Or.inr (Nat.le_refl _)) _
      have HR : Hid (OwnB (wr.setCell ⟨w.heap.size, k, none⟩ (.int .u8 (xs.getD k 0))) w.heap.size 5 (.slice (some ⟨w.heap.size, 0, none⟩) xs.length xs.length) (xs.take (k + 1) ++ List.replicate (xs.length - (k + 1)) 0)) := by
        show OwnB _ _ _ _ _
        unfold OwnB; rw [hlen2]; exact hst
      have HR2 : Hid (Chg 0 0 w (wr.setCell ⟨w.heap.size, k, none⟩ (.int .u8 (xs.getD k 0)))) := R2
      generalize xs.getD k 0 = x at *
      clear hst hown hown' hlen hlen2 R2 hc h1
      go_wp2
      go_roundw
      case rel => exact ⟨k + 1, by omega, by go_num, HR.out, HR2.out⟩
      case measure => simp [intOf]; omega
    · obtain rfl : k = xs.length := by omega
      have HR : Hid (OwnB wr w.heap.size 5 (.slice (some ⟨w.heap.size, 0, none⟩) xs.length xs.length) xs) := by
        show OwnB _ _ _ _ _
        have := hown; rw [List.take_length, Nat.sub_self, List.replicate_zero, List.append_nil] at this; exact this
      clear hown hown' hlen h1
      go_wp2
      go_ret
      exact ⟨rfl, HR.out, hc⟩

set_option maxHeartbeats 400000 in
theorem toByteS_none (w : World) (ao : Option Addr) (cap : Nat) :
    Calls Tryz.prog 39 #[.slice ao 0 cap] w fun e w' => e = .returned (.slice (some ⟨w.heap.size, 0, none⟩) 0 0) ∧
      OwnB w' w.heap.size 5 (.slice (some ⟨w.heap.size, 0, none⟩) 0 0) [] ∧ Chg 0 0 w w' := by
  obtain ⟨i, hi, hz0, hz1, hz2⟩ := info_parts Tryz.infoB
  go_enter Tryz.func39, Tryz.ntmps39
  go_wp2_with (at_make; refine wpList_make_full _ rfl _ _ 36 rfl w.heap.size 5 i (.int .u8 0) 1 Tryz.underlying36 hi hz0 hz1 _ _ _ _ 0 rfl rfl rfl rfl (by omega) (by unfold maxLen; omega) (by simp) ?_)
  intro w1 hown hgrow
  have hch : Chg 0 0 w w1 := Chg.ofGrown hgrow (by simp)
  have hO : OwnB w1 w.heap.size 5 (.slice (some ⟨w.heap.size, 0, none⟩) 0 0) [] := by
    unfold OwnB
    simpa [toList_madeCells_one] using hown
  clear hown hgrow
  go_wp2
  refine wp_loop_rounds 1 ?_; rw [rounds_succ]
  go_wp2
  go_ret
  exact ⟨rfl, hO, hch⟩

/-- A copy of one's own. -/
theorem toByteS_calls (w : World) {lo hi : Nat} {a : Value} {xs : List Int} (hl : xs.length ≤ 1048576) (h1 : View w lo hi .u8 a xs) :
    Calls Tryz.prog 39 #[a] w fun e w' => ∃ g, e = .returned (.slice (some ⟨g, 0, none⟩) xs.length xs.length) ∧
      OwnB w' w.heap.size 5 (.slice (some ⟨g, 0, none⟩) xs.length xs.length) xs ∧ Chg 0 0 w w' := by
  obtain ⟨ao, cap, rfl, _, _, h1⟩ := h1
  rcases h1 with rfl | ⟨x, off, rfl, _, _, h1⟩
  · exact (toByteS_none w ao cap).mono fun e w' h => ⟨_, h⟩
  · exact (toByteS_some w xs x off cap (by omega) h1).mono fun e w' h => ⟨_, h⟩

end Go.Proofs.YteligghapkleaaaGreatDoor
