/- toEntryS, eqEntryS of the laws; entries that came in. -/
import Derived.Test.YtpcgbnfdhjepmaaEntBase
namespace Go.Proofs.Ytpcgbnfdhjepmaa
open Go.RowKit

theorem ent_take_set (ps : List Ent) (k : Nat) (h : k < ps.length) : (ps.take k ++ List.replicate (ps.length - k) Ent.none).set k (ps.getD k Ent.none) = ps.take (k + 1) ++ List.replicate (ps.length - (k + 1)) Ent.none := by
  have e : ps.length - k = (ps.length - (k + 1)) + 1 := by omega
  rw [e, List.replicate_succ, List.set_append]
  simp only [List.length_take, Nat.min_eq_left (Nat.le_of_lt h), Nat.lt_irrefl, if_false, Nat.sub_self, List.set_cons_zero]
  have e2 : ps.getD k Ent.none = ps[k] := by simp [List.getD_eq_getElem?_getD, h]
  rw [List.take_succ_eq_append_getElem h, List.append_assoc, e2]
  rfl

theorem OwnE.put {w : World} {base g n cap k : Nat} {e : TypeId} {ts : List Ent} (h : OwnE w base e (.slice (some ⟨g, 0, none⟩) n cap) ts) (hn : ts.length = n) (hk : k < n) (t : Ent) :
    OwnE ((w.setCell ⟨g, k * 2, none⟩ (.int .i64 t.1)).setCell ⟨g, k * 2 + 1, none⟩ (.string t.2)) base e (.slice (some ⟨g, 0, none⟩) n cap) (ts.set k t) := by
  subst hn
  have := (World.ownsRow.stored (World.ownsRow.stored h (k * 2) (.int .i64 t.1)).1 (k * 2 + 1) (.string t.2)).1
  unfold OwnE
  rw [List.length_set, ← cellsE_set ts k t hk]
  exact this

theorem Try.infoE : (Try.prog.info? 33).map (fun i => (i.zero, i.size, i.bytes)) = some (some (.agg #[.int .i64 0, .string ⟨#[]⟩]), 2, 24) := by kernel_rfl

theorem cellsE_zero (n : Nat) : (madeCells #[.int .i64 0, .string ⟨#[]⟩] (n * 2)).toList = cellsE (List.replicate n Ent.none) := by
  refine List.ext_getElem? fun j => ?_
  by_cases hj : j < n * 2
  · have h1 : j / 2 < n := by omega
    have := cellsE_get (List.replicate n Ent.none) (j / 2) (by simpa using h1)
    have hz : (List.replicate n Ent.none).getD (j / 2) Ent.none = Ent.none := by simp [List.getD_eq_getElem?_getD, h1]
    rw [hz] at this
    rcases Nat.mod_two_eq_zero_or_one j with h | h
    · rw [show j / 2 * 2 = j by omega] at this
      rw [this.1]
      simp [madeCells, hj, h, Ent.none]
    · rw [show j / 2 * 2 + 1 = j by omega] at this
      rw [this.2]
      simp [madeCells, hj, h, Ent.none]
  · rw [List.getElem?_eq_none (by simp [madeCells]; omega), List.getElem?_eq_none (by rw [cellsE_len]; simp; omega)]

set_option maxRecDepth 20000 in
set_option maxHeartbeats 1000000 in
theorem toEntryS_some (w : World) (ts : List Ent) (b off cap : Nat) (hl : cntE ts ≤ 1048576) (h1 : ∀ i, i < ts.length → EAt w b (off + i * 2) (ts.getD i Ent.none)) :
    Calls Try.prog 6 #[.slice (some ⟨b, off, none⟩) ts.length cap] w fun e w' => ∃ g, e = .returned (.slice (some ⟨g, 0, none⟩) ts.length ts.length) ∧ OwnE w' w.heap.size 33 (.slice (some ⟨g, 0, none⟩) ts.length ts.length) ts ∧ Chg 0 0 w w' := by
  obtain ⟨ii, hii, hz0, hz1, hz2⟩ := info_parts Try.infoE
  have hlp := cntE_ge ts
  go_enter Try.func6, Try.ntmps6
  go_wp2_with (at_make; refine wpList_make_full _ rfl _ _ 24 rfl w.heap.size 33 ii (.agg #[.int .i64 0, .string ⟨#[]⟩]) 2 Try.underlying24 hii hz0 hz1 _ _ _ _ ts.length rfl rfl rfl rfl (by rw [hz2]; omega) (by unfold maxLen; omega) (by simp) ?_)
  intro w1 hown hgrow
  have hch : Chg 0 0 w w1 := Chg.ofGrown hgrow (by simp)
  have hO : OwnE w1 w.heap.size 33 (.slice (some ⟨w.heap.size, 0, none⟩) ts.length ts.length) (ts.take 0 ++ List.replicate (ts.length - 0) Ent.none) := by
    unfold OwnE
    rw [List.take_zero, List.nil_append, Nat.sub_zero, List.length_replicate, ← cellsE_zero]
    exact hown
  clear hown hgrow
  go_wp2
  go_loopw [4] (fun i wr => ∃ k : Nat, k ≤ ts.length ∧ i = .int .i64 k ∧ OwnE wr w.heap.size 33 (.slice (some ⟨w.heap.size, 0, none⟩) ts.length ts.length) (ts.take k ++ List.replicate (ts.length - k) Ent.none) ∧ Chg 0 0 w wr) (fun i _ => ts.length - (intOf i).toNat)
  case atStart => exact ⟨0, Nat.zero_le _, rfl, hO, hch⟩
  case round =>
    obtain ⟨k, hk, rfl, hown, hc⟩ := hrel
    clear hO hch
    have hlen : (ts.take k ++ List.replicate (ts.length - k) Ent.none).length = ts.length := by simp; omega
    by_cases hlt : k < ts.length
    · obtain ⟨c1, c2⟩ := h1 k hlt
      clear h1
      have hik : (k : Int) < (ts.length : Int) := by omega
      have c1 := hc.cell c1 (by omega)
      have c2 := hc.cell c2 (by omega)
      have HP := ent_take_set ts k hlt
      obtain ⟨t, HT⟩ : ∃ t, Hid (ts.getD k Ent.none = t) := ⟨_, rfl⟩
      rw [HT.out] at c1 c2 HP
      have hN := toEntry_calls wr t.1 t.2
      go_wp2_with fail
      refine hN.mono ?_
      rintro e w2 ⟨rfl, hs⟩
      have hown2 := hown.chg hs (by intro g _; omega)
      have hp := hown2.put hlen hlt t
      rw [HP] at hp
      have hrow : w2.ownsRow w.heap.size 33 2 (.slice (some ⟨w.heap.size, 0, none⟩) ts.length ts.length) ts.length (cellsE (ts.take k ++ List.replicate (ts.length - k) Ent.none)) := by
        have := hown2; unfold OwnE at this; rw [hlen] at this; exact this
      have hcl := hrow.1
      obtain ⟨u0, e0⟩ : ∃ u, w2.cell? ⟨w.heap.size, k * 2, none⟩ = some u := ⟨_, (World.ownsRow.cellAt hrow (k * 2) (by omega)).trans (List.getElem?_eq_getElem (by omega))⟩
      obtain ⟨u1, e1⟩ : ∃ u, w2.cell? ⟨w.heap.size, k * 2 + 1, none⟩ = some u := ⟨_, (World.ownsRow.cellAt hrow (k * 2 + 1) (by omega)).trans (List.getElem?_eq_getElem (by omega))⟩
      have f0 := World.ownsRow.frozenAt hrow (k * 2)
      have f1 := World.ownsRow.frozenAt hrow (k * 2 + 1)
      have HR : Hid (OwnE ((w2.setCell ⟨w.heap.size, k * 2, none⟩ (.int .i64 t.1)).setCell ⟨w.heap.size, k * 2 + 1, none⟩ (.string t.2)) w.heap.size 33 (.slice (some ⟨w.heap.size, 0, none⟩) ts.length ts.length) (ts.take (k + 1) ++ List.replicate (ts.length - (k + 1)) Ent.none)) := hp
      have HR2 : Hid (Chg 0 0 w ((w2.setCell ⟨w.heap.size, k * 2, none⟩ (.int .i64 t.1)).setCell ⟨w.heap.size, k * 2 + 1, none⟩ (.string t.2))) := ((hc.trans hs).setCell (Or.inr (Nat.le_refl _)) _).setCell (Or.inr (Nat.le_refl _)) _
      clear hp hown hown2 hrow hcl hs hc c1 c2 HP hlen hN
      go_wp2
      go_roundw
      case rel => exact ⟨k + 1, by omega, by go_num, HR.out, HR2.out⟩
      case measure => simp [intOf]; omega
    · obtain rfl : k = ts.length := by omega
      have HR : Hid (OwnE wr w.heap.size 33 (.slice (some ⟨w.heap.size, 0, none⟩) ts.length ts.length) ts) := by
        have := hown; rw [List.take_length, Nat.sub_self, List.replicate_zero, List.append_nil] at this; exact this
      clear hown hlen h1
      go_wp2
      go_ret
      exact ⟨_, rfl, HR.out, hc⟩

set_option maxRecDepth 20000 in
set_option maxHeartbeats 400000 in
theorem toEntryS_none (w : World) (ao : Option Addr) (cap : Nat) :
    Calls Try.prog 6 #[.slice ao 0 cap] w fun e w' => ∃ g, e = .returned (.slice (some ⟨g, 0, none⟩) 0 0) ∧ OwnE w' w.heap.size 33 (.slice (some ⟨g, 0, none⟩) 0 0) [] ∧ Chg 0 0 w w' := by
  obtain ⟨ii, hii, hz0, hz1, hz2⟩ := info_parts Try.infoE
  go_enter Try.func6, Try.ntmps6
  go_wp2_with (at_make; refine wpList_make_full _ rfl _ _ 24 rfl w.heap.size 33 ii (.agg #[.int .i64 0, .string ⟨#[]⟩]) 2 Try.underlying24 hii hz0 hz1 _ _ _ _ 0 rfl rfl rfl rfl (by omega) (by unfold maxLen; omega) (by simp) ?_)
  intro w1 hown hgrow
  have hch : Chg 0 0 w w1 := Chg.ofGrown hgrow (by simp)
  have HO : Hid (OwnE w1 w.heap.size 33 (.slice (some ⟨w.heap.size, 0, none⟩) 0 0) []) := by
    show OwnE _ _ _ _ _
    unfold OwnE
    rw [show cellsE [] = (madeCells #[.int .i64 0, .string ⟨#[]⟩] (0 * 2)).toList from (cellsE_zero 0).symm]
    exact hown
  clear hown hgrow
  go_wp2
  refine wp_loop_rounds 1 ?_; rw [rounds_succ]
  go_wp2
  go_ret
  exact ⟨_, rfl, HO.out, hch⟩

theorem toEntryS_calls (w : World) {lo hi : Nat} {a : Value} {ts : List Ent} (hl : cntE ts ≤ 1048576) (h1 : EView w lo hi a ts) :
    Calls Try.prog 6 #[a] w fun e w' => ∃ g, e = .returned (.slice (some ⟨g, 0, none⟩) ts.length ts.length) ∧ OwnE w' w.heap.size 33 (.slice (some ⟨g, 0, none⟩) ts.length ts.length) ts ∧ Chg 0 0 w w' := by
  obtain ⟨ao, cap, rfl, _, _, h1⟩ := h1
  rcases h1 with rfl | ⟨x, off, rfl, _, _, h1⟩
  · exact toEntryS_none w ao cap
  · exact toEntryS_some w ts x off cap hl h1

set_option maxRecDepth 20000 in
set_option maxHeartbeats 1000000 in
theorem eqEntryS_some (w : World) (ts : List Ent) (b off b' off' cap cap' : Nat) (hl : ts.length ≤ 9223372036854775807)
    (h1 : ∀ i, i < ts.length → EAt w b (off + i * 2) (ts.getD i Ent.none)) (h2 : ∀ i, i < ts.length → EAt w b' (off' + i * 2) (ts.getD i Ent.none)) :
    Calls Try.prog 8 #[.slice (some ⟨b, off, none⟩) ts.length cap, .slice (some ⟨b', off', none⟩) ts.length cap'] w fun e w' => e = .returned (.bool true) ∧ Chg 0 0 w w' := by
  have hne : ((ts.length : Int) != (ts.length : Int)) = false := by simp
  go_enter Try.func8, Try.ntmps8
  go_wp2
  go_loopw [5] (fun i wr => Chg 0 0 w wr ∧ ∃ k : Nat, k ≤ ts.length ∧ i = .int .i64 k) (fun i _ => ts.length - (intOf i).toNat)
  case atStart => exact ⟨Chg.refl _ _ _, 0, Nat.zero_le _, rfl⟩
  case round =>
    obtain ⟨hch, k, hk, rfl⟩ := hrel
    by_cases hlt : k < ts.length
    · obtain ⟨c1, c2⟩ := h1 k hlt
      obtain ⟨c3, c4⟩ := h2 k hlt
      clear h1 h2
      generalize (ts.getD k Ent.none).1 = q at *
      generalize (ts.getD k Ent.none).2 = s at *
      have c1 := hch.cell c1 (by omega)
      have c2 := hch.cell c2 (by omega)
      have c3 := hch.cell c3 (by omega)
      have c4 := hch.cell c4 (by omega)
      have hi : (k : Int) < (ts.length : Int) := by omega
      have hN := eqEntry_calls wr.drew q s
      go_wp2
      go_region_with (go_at_call 15; refine hN.mono ?_; rintro e w1 ⟨rfl, hs⟩)
      all_goals
        have hch' : Chg 0 0 w w1 := hch.drew.trans hs
        clear hs hch hN
        go_wp2
        go_roundw
        case rel => exact ⟨hch', k + 1, by omega, by go_num⟩
        case measure => simp [intOf]; omega
    · clear h1 h2
      go_wp2
      go_ret
      exact ⟨rfl, hch⟩

set_option maxRecDepth 20000 in
set_option maxHeartbeats 400000 in
theorem eqEntryS_none (w : World) (ao bo : Option Addr) (cap cap' : Nat) :
    Calls Try.prog 8 #[.slice ao 0 cap, .slice bo 0 cap'] w fun e w' => e = .returned (.bool true) ∧ Chg 0 0 w w' := by
  go_enter Try.func8, Try.ntmps8
  go_wp2
  refine wp_loop_rounds 1 ?_; rw [rounds_succ]
  go_wp2
  go_ret
  exact ⟨rfl, Chg.refl _ _ _⟩

theorem eqEntryS_calls (w : World) {lo hi lo' hi' : Nat} {a b : Value} {ts : List Ent} (h1 : EView w lo hi a ts) (h2 : EView w lo' hi' b ts) :
    Calls Try.prog 8 #[a, b] w fun e w' => e = .returned (.bool true) ∧ Chg 0 0 w w' := by
  obtain ⟨ao, cap, rfl, hl, _, h1⟩ := h1
  obtain ⟨bo, cap', rfl, _, _, h2⟩ := h2
  rcases h1 with rfl | ⟨x, off, rfl, _, _, h1⟩
  · exact eqEntryS_none w ao bo cap cap'
  · rcases h2 with rfl | ⟨y, off', rfl, _, _, h2⟩
    · exact eqEntryS_none w _ bo cap cap'
    · exact eqEntryS_some w ts x off y off' cap cap' hl h1 h2

end Go.Proofs.Ytpcgbnfdhjepmaa
