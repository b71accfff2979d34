/- toNodeS, eqNodeS of the laws; nodes that came in. -/
import Derived.Test.YtccmeggnkeenoaaNodBase
namespace Go.Proofs.Ytccmeggnkeenoaa
open Go.RowKit

theorem nod_take_set (ps : List Nod) (k : Nat) (h : k < ps.length) : (ps.take k ++ List.replicate (ps.length - k) Nod.none).set k (ps.getD k Nod.none) = ps.take (k + 1) ++ List.replicate (ps.length - (k + 1)) Nod.none := by
  have e : ps.length - k = (ps.length - (k + 1)) + 1 := by omega
  rw [e, List.replicate_succ, List.set_append]
  simp only [List.length_take, Nat.min_eq_left (Nat.le_of_lt h), Nat.lt_irrefl, if_false, Nat.sub_self, List.set_cons_zero]
  have e2 : ps.getD k Nod.none = ps[k] := by simp [List.getD_eq_getElem?_getD, h]
  rw [List.take_succ_eq_append_getElem h, List.append_assoc, e2]
  rfl

theorem OwnN.put {w : World} {base g n cap k : Nat} {e : TypeId} {ts : List Nod} (h : OwnN w base e (.slice (some ⟨g, 0, none⟩) n cap) ts) (hn : ts.length = n) (hk : k < n) (t : Nod) :
    OwnN (((((((w.setCell ⟨g, k * 7, none⟩ (.string t.p)).setCell ⟨g, k * 7 + 1, none⟩ (.int .i64 t.k)).setCell ⟨g, k * 7 + 2, none⟩ (.int .i64 t.i)).setCell ⟨g, k * 7 + 3, none⟩ (.int .i64 t.l)).setCell ⟨g, k * 7 + 4, none⟩ (.int .i64 t.z)).setCell ⟨g, k * 7 + 5, none⟩ (.int .i64 t.b)).setCell ⟨g, k * 7 + 6, none⟩ (.string t.d)) base e (.slice (some ⟨g, 0, none⟩) n cap) (ts.set k t) := by
  subst hn
  have := (World.ownsRow.stored (World.ownsRow.stored (World.ownsRow.stored (World.ownsRow.stored (World.ownsRow.stored (World.ownsRow.stored (World.ownsRow.stored h (k * 7) (.string t.p)).1 (k * 7 + 1) (.int .i64 t.k)).1 (k * 7 + 2) (.int .i64 t.i)).1 (k * 7 + 3) (.int .i64 t.l)).1 (k * 7 + 4) (.int .i64 t.z)).1 (k * 7 + 5) (.int .i64 t.b)).1 (k * 7 + 6) (.string t.d)).1
  unfold OwnN
  rw [List.length_set, ← cellsN_set ts k t hk]
  exact this

theorem Try.infoN : (Try.prog.info? 37).map (fun i => (i.zero, i.size, i.bytes)) = some (some (.agg #[.string ⟨#[]⟩, .int .i64 0, .int .i64 0, .int .i64 0, .int .i64 0, .int .i64 0, .string ⟨#[]⟩]), 7, 72) := by kernel_rfl

theorem cellsN_zero (n : Nat) : (madeCells #[.string ⟨#[]⟩, .int .i64 0, .int .i64 0, .int .i64 0, .int .i64 0, .int .i64 0, .string ⟨#[]⟩] (n * 7)).toList = cellsN (List.replicate n Nod.none) := by
  refine List.ext_getElem? fun j => ?_
  by_cases hj : j < n * 7
  · have h1 : j / 7 < n := by omega
    have := cellsN_get (List.replicate n Nod.none) (j / 7) (by simpa using h1) (j % 7) (by omega)
    have hz : (List.replicate n Nod.none).getD (j / 7) Nod.none = Nod.none := by simp [List.getD_eq_getElem?_getD, h1]
    rw [hz, show j / 7 * 7 + j % 7 = j by omega] at this
    rw [this]
    have h7 : j % 7 < 7 := by omega
    have hm : (madeCells #[.string ⟨#[]⟩, .int .i64 0, .int .i64 0, .int .i64 0, .int .i64 0, .int .i64 0, .string ⟨#[]⟩] (n * 7)).toList[j]? = some ((#[.string ⟨#[]⟩, .int .i64 0, .int .i64 0, .int .i64 0, .int .i64 0, .int .i64 0, .string ⟨#[]⟩] : Array Value)[j % 7]'h7) := by simp [madeCells, hj]; rw [List.getElem?_eq_getElem h7]; rfl
    rw [hm]
    generalize j % 7 = r at *
    match r, h7 with
    | 0, _ => rfl
    | 1, _ => rfl
    | 2, _ => rfl
    | 3, _ => rfl
    | 4, _ => rfl
    | 5, _ => rfl
    | 6, _ => rfl
  · rw [List.getElem?_eq_none (by simp [madeCells]; omega), List.getElem?_eq_none (by rw [cellsN_len]; simp; omega)]

set_option maxRecDepth 20000 in
set_option maxHeartbeats 1000000 in
theorem toNodeS_some (w : World) (ts : List Nod) (b off cap : Nat) (hl : cntN ts ≤ 1048576) (h1 : ∀ i, i < ts.length → NAt w b (off + i * 7) (ts.getD i Nod.none)) :
    Calls Try.prog 6 #[.slice (some ⟨b, off, none⟩) ts.length cap] w fun e w' => ∃ g, e = .returned (.slice (some ⟨g, 0, none⟩) ts.length ts.length) ∧ OwnN w' w.heap.size 37 (.slice (some ⟨g, 0, none⟩) ts.length ts.length) ts ∧ Chg 0 0 w w' := by
  obtain ⟨ii, hii, hz0, hz1, hz2⟩ := info_parts Try.infoN
  have hlp := cntN_ge ts
  go_enter Try.func6, Try.ntmps6
  go_wp2_with (at_make; refine wpList_make_full _ rfl _ _ 27 rfl w.heap.size 37 ii (.agg #[.string ⟨#[]⟩, .int .i64 0, .int .i64 0, .int .i64 0, .int .i64 0, .int .i64 0, .string ⟨#[]⟩]) 7 Try.underlying27 hii hz0 hz1 _ _ _ _ ts.length rfl rfl rfl rfl (by rw [hz2]; omega) (by unfold maxLen; omega) (by simp) ?_)
  intro w1 hown hgrow
  have hch : Chg 0 0 w w1 := Chg.ofGrown hgrow (by simp)
  have hO : OwnN w1 w.heap.size 37 (.slice (some ⟨w.heap.size, 0, none⟩) ts.length ts.length) (ts.take 0 ++ List.replicate (ts.length - 0) Nod.none) := by
    unfold OwnN
    rw [List.take_zero, List.nil_append, Nat.sub_zero, List.length_replicate, ← cellsN_zero]
    exact hown
  clear hown hgrow
  go_wp2
  go_loopw [4] (fun i wr => ∃ k : Nat, k ≤ ts.length ∧ i = .int .i64 k ∧ OwnN wr w.heap.size 37 (.slice (some ⟨w.heap.size, 0, none⟩) ts.length ts.length) (ts.take k ++ List.replicate (ts.length - k) Nod.none) ∧ Chg 0 0 w wr) (fun i _ => ts.length - (intOf i).toNat)
  case atStart => exact ⟨0, Nat.zero_le _, rfl, hO, hch⟩
  case round =>
    obtain ⟨k, hk, rfl, hown, hc⟩ := hrel
    clear hO hch
    have hlen : (ts.take k ++ List.replicate (ts.length - k) Nod.none).length = ts.length := by simp; omega
    by_cases hlt : k < ts.length
    · have hik : (k : Int) < (ts.length : Int) := by omega
      have HP := nod_take_set ts k hlt
      obtain ⟨c0, c1, c2, c3, c4, c5, c6⟩ := ((h1 k hlt).chg hc (by omega)).all
      clear h1
      generalize ts.getD k Nod.none = t at *
      have hN := toNode_calls wr t
      go_wp2_with fail
      refine hN.mono ?_
      rintro e w2 ⟨rfl, hs⟩
      have hown2 := hown.chg hs (by intro g _; omega)
      have hp := hown2.put hlen hlt t
      rw [HP] at hp
      have hrow : w2.ownsRow w.heap.size 37 7 (.slice (some ⟨w.heap.size, 0, none⟩) ts.length ts.length) ts.length (cellsN (ts.take k ++ List.replicate (ts.length - k) Nod.none)) := by
        have := hown2; unfold OwnN at this; rw [hlen] at this; exact this
      have hcl := hrow.1
      obtain ⟨u0, e0⟩ : ∃ u, w2.cell? ⟨w.heap.size, k * 7, none⟩ = some u := ⟨_, (World.ownsRow.cellAt hrow (k * 7) (by omega)).trans (List.getElem?_eq_getElem (by omega))⟩
      have f0 := World.ownsRow.frozenAt hrow (k * 7)
      obtain ⟨u1, e1⟩ : ∃ u, w2.cell? ⟨w.heap.size, k * 7 + 1, none⟩ = some u := ⟨_, (World.ownsRow.cellAt hrow (k * 7 + 1) (by omega)).trans (List.getElem?_eq_getElem (by omega))⟩
      have f1 := World.ownsRow.frozenAt hrow (k * 7 + 1)
      obtain ⟨u2, e2⟩ : ∃ u, w2.cell? ⟨w.heap.size, k * 7 + 2, none⟩ = some u := ⟨_, (World.ownsRow.cellAt hrow (k * 7 + 2) (by omega)).trans (List.getElem?_eq_getElem (by omega))⟩
      have f2 := World.ownsRow.frozenAt hrow (k * 7 + 2)
      obtain ⟨u3, e3⟩ : ∃ u, w2.cell? ⟨w.heap.size, k * 7 + 3, none⟩ = some u := ⟨_, (World.ownsRow.cellAt hrow (k * 7 + 3) (by omega)).trans (List.getElem?_eq_getElem (by omega))⟩
      have f3 := World.ownsRow.frozenAt hrow (k * 7 + 3)
      obtain ⟨u4, e4⟩ : ∃ u, w2.cell? ⟨w.heap.size, k * 7 + 4, none⟩ = some u := ⟨_, (World.ownsRow.cellAt hrow (k * 7 + 4) (by omega)).trans (List.getElem?_eq_getElem (by omega))⟩
      have f4 := World.ownsRow.frozenAt hrow (k * 7 + 4)
      obtain ⟨u5, e5⟩ : ∃ u, w2.cell? ⟨w.heap.size, k * 7 + 5, none⟩ = some u := ⟨_, (World.ownsRow.cellAt hrow (k * 7 + 5) (by omega)).trans (List.getElem?_eq_getElem (by omega))⟩
      have f5 := World.ownsRow.frozenAt hrow (k * 7 + 5)
      obtain ⟨u6, e6⟩ : ∃ u, w2.cell? ⟨w.heap.size, k * 7 + 6, none⟩ = some u := ⟨_, (World.ownsRow.cellAt hrow (k * 7 + 6) (by omega)).trans (List.getElem?_eq_getElem (by omega))⟩
      have f6 := World.ownsRow.frozenAt hrow (k * 7 + 6)
      have HR : Hid (OwnN (((((((w2.setCell ⟨w.heap.size, k * 7, none⟩ (.string t.p)).setCell ⟨w.heap.size, k * 7 + 1, none⟩ (.int .i64 t.k)).setCell ⟨w.heap.size, k * 7 + 2, none⟩ (.int .i64 t.i)).setCell ⟨w.heap.size, k * 7 + 3, none⟩ (.int .i64 t.l)).setCell ⟨w.heap.size, k * 7 + 4, none⟩ (.int .i64 t.z)).setCell ⟨w.heap.size, k * 7 + 5, none⟩ (.int .i64 t.b)).setCell ⟨w.heap.size, k * 7 + 6, none⟩ (.string t.d)) w.heap.size 37 (.slice (some ⟨w.heap.size, 0, none⟩) ts.length ts.length) (ts.take (k + 1) ++ List.replicate (ts.length - (k + 1)) Nod.none)) := hp
      have HR2 : Hid (Chg 0 0 w (((((((w2.setCell ⟨w.heap.size, k * 7, none⟩ (.string t.p)).setCell ⟨w.heap.size, k * 7 + 1, none⟩ (.int .i64 t.k)).setCell ⟨w.heap.size, k * 7 + 2, none⟩ (.int .i64 t.i)).setCell ⟨w.heap.size, k * 7 + 3, none⟩ (.int .i64 t.l)).setCell ⟨w.heap.size, k * 7 + 4, none⟩ (.int .i64 t.z)).setCell ⟨w.heap.size, k * 7 + 5, none⟩ (.int .i64 t.b)).setCell ⟨w.heap.size, k * 7 + 6, none⟩ (.string t.d))) := ((((((((hc.trans hs).setCell (Or.inr (Nat.le_refl _)) _).setCell (Or.inr (Nat.le_refl _)) _).setCell (Or.inr (Nat.le_refl _)) _).setCell (Or.inr (Nat.le_refl _)) _).setCell (Or.inr (Nat.le_refl _)) _).setCell (Or.inr (Nat.le_refl _)) _).setCell (Or.inr (Nat.le_refl _)) _)
      clear hp hown hown2 hrow hcl hs hc c0 c1 c2 c3 c4 c5 c6 HP hlen hN
      go_wp2
      go_roundw
      case rel => exact ⟨k + 1, by omega, by go_num, HR.out, HR2.out⟩
      case measure => simp [intOf]; omega
    · obtain rfl : k = ts.length := by omega
      have HR : Hid (OwnN wr w.heap.size 37 (.slice (some ⟨w.heap.size, 0, none⟩) ts.length ts.length) ts) := by
        have := hown; rw [List.take_length, Nat.sub_self, List.replicate_zero, List.append_nil] at this; exact this
      clear hown hlen h1
      go_wp2
      go_ret
      exact ⟨_, rfl, HR.out, hc⟩

set_option maxRecDepth 20000 in
set_option maxHeartbeats 400000 in
theorem toNodeS_none (w : World) (ao : Option Addr) (cap : Nat) :
    Calls Try.prog 6 #[.slice ao 0 cap] w fun e w' => ∃ g, e = .returned (.slice (some ⟨g, 0, none⟩) 0 0) ∧ OwnN w' w.heap.size 37 (.slice (some ⟨g, 0, none⟩) 0 0) [] ∧ Chg 0 0 w w' := by
  obtain ⟨ii, hii, hz0, hz1, hz2⟩ := info_parts Try.infoN
  go_enter Try.func6, Try.ntmps6
  go_wp2_with (at_make; refine wpList_make_full _ rfl _ _ 27 rfl w.heap.size 37 ii (.agg #[.string ⟨#[]⟩, .int .i64 0, .int .i64 0, .int .i64 0, .int .i64 0, .int .i64 0, .string ⟨#[]⟩]) 7 Try.underlying27 hii hz0 hz1 _ _ _ _ 0 rfl rfl rfl rfl (by omega) (by unfold maxLen; omega) (by simp) ?_)
  intro w1 hown hgrow
  have hch : Chg 0 0 w w1 := Chg.ofGrown hgrow (by simp)
  have HO : Hid (OwnN w1 w.heap.size 37 (.slice (some ⟨w.heap.size, 0, none⟩) 0 0) []) := by
    show OwnN _ _ _ _ _
    unfold OwnN
    rw [show cellsN [] = (madeCells #[.string ⟨#[]⟩, .int .i64 0, .int .i64 0, .int .i64 0, .int .i64 0, .int .i64 0, .string ⟨#[]⟩] (0 * 7)).toList from (cellsN_zero 0).symm]
    exact hown
  clear hown hgrow
  go_wp2
  refine wp_loop_rounds 1 ?_; rw [rounds_succ]
  go_wp2
  go_ret
  exact ⟨_, rfl, HO.out, hch⟩

theorem toNodeS_calls (w : World) {lo hi : Nat} {a : Value} {ts : List Nod} (hl : cntN ts ≤ 1048576) (h1 : NView w lo hi a ts) :
    Calls Try.prog 6 #[a] w fun e w' => ∃ g, e = .returned (.slice (some ⟨g, 0, none⟩) ts.length ts.length) ∧ OwnN w' w.heap.size 37 (.slice (some ⟨g, 0, none⟩) ts.length ts.length) ts ∧ Chg 0 0 w w' := by
  obtain ⟨ao, cap, rfl, _, _, h1⟩ := h1
  rcases h1 with rfl | ⟨x, off, rfl, _, _, h1⟩
  · exact toNodeS_none w ao cap
  · exact toNodeS_some w ts x off cap hl h1

set_option maxRecDepth 20000 in
set_option maxHeartbeats 1000000 in
theorem eqNodeS_some (w : World) (ts : List Nod) (b off b' off' cap cap' : Nat) (hl : ts.length ≤ 9223372036854775807)
    (h1 : ∀ i, i < ts.length → NAt w b (off + i * 7) (ts.getD i Nod.none)) (h2 : ∀ i, i < ts.length → NAt w b' (off' + i * 7) (ts.getD i Nod.none)) :
    Calls Try.prog 9 #[.slice (some ⟨b, off, none⟩) ts.length cap, .slice (some ⟨b', off', none⟩) ts.length cap'] w fun e w' => e = .returned (.bool true) ∧ Chg 0 0 w w' := by
  have hne : ((ts.length : Int) != (ts.length : Int)) = false := by simp
  go_enter Try.func9, Try.ntmps9
  go_wp2
  go_loopw [5] (fun i wr => Chg 0 0 w wr ∧ ∃ k : Nat, k ≤ ts.length ∧ i = .int .i64 k) (fun i _ => ts.length - (intOf i).toNat)
  case atStart => exact ⟨Chg.refl _ _ _, 0, Nat.zero_le _, rfl⟩
  case round =>
    obtain ⟨hch, k, hk, rfl⟩ := hrel
    by_cases hlt : k < ts.length
    · obtain ⟨c0, c1, c2, c3, c4, c5, c6⟩ := ((h1 k hlt).chg hch (by omega)).all
      obtain ⟨d0, d1, d2, d3, d4, d5, d6⟩ := ((h2 k hlt).chg hch (by omega)).all
      clear h1 h2
      generalize ts.getD k Nod.none = t at *
      have hi : (k : Int) < (ts.length : Int) := by omega
      have hN := eqNode_calls wr.drew t
      go_wp2
      go_region_with (go_at_call 14; refine hN.mono ?_; rintro e w1 ⟨rfl, hs⟩)
      all_goals
        have hch' : Chg 0 0 w w1 := hch.drew.trans hs
        clear hs hch hN
        go_wp2
        go_roundw
        case rel => exact ⟨hch', k + 1, by omega, by go_num⟩
        case measure => simp [intOf]; omega
    · clear h1 h2
      go_wp2
      go_ret
      exact ⟨rfl, hch⟩

set_option maxRecDepth 20000 in
set_option maxHeartbeats 400000 in
theorem eqNodeS_none (w : World) (ao bo : Option Addr) (cap cap' : Nat) :
    Calls Try.prog 9 #[.slice ao 0 cap, .slice bo 0 cap'] w fun e w' => e = .returned (.bool true) ∧ Chg 0 0 w w' := by
  go_enter Try.func9, Try.ntmps9
  go_wp2
  refine wp_loop_rounds 1 ?_; rw [rounds_succ]
  go_wp2
  go_ret
  exact ⟨rfl, Chg.refl _ _ _⟩

theorem eqNodeS_calls (w : World) {lo hi lo' hi' : Nat} {a b : Value} {ts : List Nod} (h1 : NView w lo hi a ts) (h2 : NView w lo' hi' b ts) :
    Calls Try.prog 9 #[a, b] w fun e w' => e = .returned (.bool true) ∧ Chg 0 0 w w' := by
  obtain ⟨ao, cap, rfl, hl, _, h1⟩ := h1
  obtain ⟨bo, cap', rfl, _, _, h2⟩ := h2
  rcases h1 with rfl | ⟨x, off, rfl, _, _, h1⟩
  · exact eqNodeS_none w ao bo cap cap'
  · rcases h2 with rfl | ⟨y, off', rfl, _, _, h2⟩
    · exact eqNodeS_none w _ bo cap cap'
    · exact eqNodeS_some w ts x off y off' cap cap' hl h1 h2

set_option maxRecDepth 20000 in
set_option maxHeartbeats 400000 in
theorem eqUsage_calls (w : World) (x y : Int) :
    Calls Try.prog 8 #[.agg #[.int .i64 x, .int .i64 y], .agg #[.int .i64 x, .int .i64 y]] w fun e w' => e = .returned (.bool true) ∧ Chg 0 0 w w' := by
  have HC : Hid (Chg 0 0 w ((w.alloc (.cells #[.int .i64 x, .int .i64 y] 25)).alloc (.cells #[.int .i64 x, .int .i64 y] 25))) := (Chg.alloc (Chg.refl 0 0 w) _).alloc _
  have n0 : ∀ q : Int, (q != q) = false := by simp
  go_enter Try.func8, Try.ntmps8
  go_wp2
  go_ret
  exact ⟨rfl, HC.out⟩

end Go.Proofs.Ytccmeggnkeenoaa
