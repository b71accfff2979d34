/- toEntryS, eqEntryS of the laws; entries that came in. -/
import Derived.Test.YtdcigibcckphoaaEntBase
namespace Go.Proofs.Ytdcigibcckphoaa
open Go.RowKit

theorem ent_take_set (ps : List Ent) (k : Nat) (h : k < ps.length) : (ps.take k ++ List.replicate (ps.length - k) Ent.none).set k (ps.getD k Ent.none) = ps.take (k + 1) ++ List.replicate (ps.length - (k + 1)) Ent.none := by
  have e : ps.length - k = (ps.length - (k + 1)) + 1 := by omega
  rw [e, List.replicate_succ, List.set_append]
  simp only [List.length_take, Nat.min_eq_left (Nat.le_of_lt h), Nat.lt_irrefl, if_false, Nat.sub_self, List.set_cons_zero]
  have e2 : ps.getD k Ent.none = ps[k] := by simp [List.getD_eq_getElem?_getD, h]
  rw [List.take_succ_eq_append_getElem h, List.append_assoc, e2]
  rfl

theorem OwnE.put {w : World} {base g n cap k : Nat} {e : TypeId} {ts : List Ent} (h : OwnE w base e (.slice (some ⟨g, 0, none⟩) n cap) ts) (hn : ts.length = n) (hk : k < n) (t : Ent) :
    OwnE ((w.setCell ⟨g, k * 2, none⟩ (.int .i64 t.1)).setCell ⟨g, k * 2 + 1, none⟩ (.string t.2)) base e (.slice (some ⟨g, 0, none⟩) n cap) (ts.set k t) := by
  subst hn
  have := (World.ownsRow.stored (World.ownsRow.stored h (k * 2) (.int .i64 t.1)).1 (k * 2 + 1) (.string t.2)).1
  unfold OwnE
  rw [List.length_set, ← cellsE_set ts k t hk]
  exact this

theorem Try.infoE : (Try.prog.info? 34).map (fun i => (i.zero, i.size, i.bytes)) = some (some (.agg #[.int .i64 0, .string ⟨#[]⟩]), 2, 24) := by kernel_rfl

theorem cellsE_zero (n : Nat) : (madeCells #[.int .i64 0, .string ⟨#[]⟩] (n * 2)).toList = cellsE (List.replicate n Ent.none) := by
  refine List.ext_getElem? fun j => ?_
  by_cases hj : j < n * 2
  · have h1 : j / 2 < n := by omega
    have := cellsE_get (List.replicate n Ent.none) (j / 2) (by simpa using h1)
    have hz : (List.replicate n Ent.none).getD (j / 2) Ent.none = Ent.none := by simp [List.getD_eq_getElem?_getD, h1]
    rw [hz] at this
    rcases Nat.mod_two_eq_zero_or_one j with h | h
    · rw [show j / 2 * 2 = j by omega] at this
      rw [this.1]
      simp [madeCells, hj, h, Ent.none]
    · rw [show j / 2 * 2 + 1 = j by omega] at this
      rw [this.2]
      simp [madeCells, hj, h, Ent.none]
  · rw [List.getElem?_eq_none (by simp [madeCells]; omega), List.getElem?_eq_none (by rw [cellsE_len]; simp; omega)]

set_option maxRecDepth 20000 in
set_option maxHeartbeats 1000000 in
theorem eqEntryS_some (w : World) (ts : List Ent) (b off b' off' cap cap' : Nat) (hl : ts.length ≤ 9223372036854775807)
    (h1 : ∀ i, i < ts.length → EAt w b (off + i * 2) (ts.getD i Ent.none)) (h2 : ∀ i, i < ts.length → EAt w b' (off' + i * 2) (ts.getD i Ent.none)) :
    Calls Try.prog 15 #[.slice (some ⟨b, off, none⟩) ts.length cap, .slice (some ⟨b', off', none⟩) ts.length cap'] w fun e w' => e = .returned (.bool true) ∧ Chg 0 0 w w' := by
  have hne : ((ts.length : Int) != (ts.length : Int)) = false := by simp
  go_enter Try.func15, Try.ntmps15
  go_wp2
  go_loopw [5] (fun i wr => Chg 0 0 w wr ∧ ∃ k : Nat, k ≤ ts.length ∧ i = .int .i64 k) (fun i _ => ts.length - (intOf i).toNat)
  case atStart => exact ⟨Chg.refl _ _ _, 0, Nat.zero_le _, rfl⟩
  case round =>
    obtain ⟨hch, k, hk, rfl⟩ := hrel
    by_cases hlt : k < ts.length
    · obtain ⟨c1, c2⟩ := h1 k hlt
      obtain ⟨c3, c4⟩ := h2 k hlt
      clear h1 h2
      generalize (ts.getD k Ent.none).1 = q at *
      generalize (ts.getD k Ent.none).2 = s at *
      have c1 := hch.cell c1 (by omega)
      have c2 := hch.cell c2 (by omega)
      have c3 := hch.cell c3 (by omega)
      have c4 := hch.cell c4 (by omega)
      have hi : (k : Int) < (ts.length : Int) := by omega
      have hN := eqEntry_calls wr.drew q s
      go_wp2
      go_region_with (go_at_call 26; refine hN.mono ?_; rintro e w1 ⟨rfl, hs⟩)
      all_goals
        have hch' : Chg 0 0 w w1 := hch.drew.trans hs
        clear hs hch hN
        go_wp2
        go_roundw
        case rel => exact ⟨hch', k + 1, by omega, by go_num⟩
        case measure => simp [intOf]; omega
    · clear h1 h2
      go_wp2
      go_ret
      exact ⟨rfl, hch⟩

set_option maxRecDepth 20000 in
set_option maxHeartbeats 400000 in
theorem eqEntryS_none (w : World) (ao bo : Option Addr) (cap cap' : Nat) :
    Calls Try.prog 15 #[.slice ao 0 cap, .slice bo 0 cap'] w fun e w' => e = .returned (.bool true) ∧ Chg 0 0 w w' := by
  go_enter Try.func15, Try.ntmps15
  go_wp2
  refine wp_loop_rounds 1 ?_; rw [rounds_succ]
  go_wp2
  go_ret
  exact ⟨rfl, Chg.refl _ _ _⟩

theorem eqEntryS_calls (w : World) {lo hi lo' hi' : Nat} {a b : Value} {ts : List Ent} (h1 : EView w lo hi a ts) (h2 : EView w lo' hi' b ts) :
    Calls Try.prog 15 #[a, b] w fun e w' => e = .returned (.bool true) ∧ Chg 0 0 w w' := by
  obtain ⟨ao, cap, rfl, hl, _, h1⟩ := h1
  obtain ⟨bo, cap', rfl, _, _, h2⟩ := h2
  rcases h1 with rfl | ⟨x, off, rfl, _, _, h1⟩
  · exact eqEntryS_none w ao bo cap cap'
  · rcases h2 with rfl | ⟨y, off', rfl, _, _, h2⟩
    · exact eqEntryS_none w _ bo cap cap'
    · exact eqEntryS_some w ts x off y off' cap cap' hl h1 h2

end Go.Proofs.Ytdcigibcckphoaa
