/- (*directory).isValid of the program. -/
import Derived.Test.YtaacidanpppopaaDirAdd
import Derived.Test.YtaacidanpppopaaEntImpl
import Derived.Test.YtaacidanpppopaaDirEnc
namespace Go.Proofs.Ytaacidanpppopaa
open Go.RowKit

theorem DirO.rows {base : Nat} {W : World} {bd bm : Nat} {v : Value} {D : DataW Unit} {ts : List Ent} (h : DirO base W bd bm v D ts) :
    ∃ ao vc, v = .slice ao ts.length vc ∧ (ts = [] ∨ ∃ g, ao = some ⟨g, 0, none⟩ ∧ base ≤ g ∧ g < W.heap.size ∧ ∀ i, i < ts.length → EAt W g (i * 2) (ts.getD i Ent.none)) := by
  rcases h.own.2 with ⟨h1, h0⟩ | ⟨g, cap, cur, hv, hg, hh, _⟩
  · exact ⟨none, 0, by rw [h0]; exact h1, Or.inl (List.eq_nil_of_length_eq_zero h0)⟩
  · refine ⟨_, cap, hv, Or.inr ⟨g, rfl, hg, (Array.getElem?_eq_some_iff.1 hh).1, fun i hi => ?_⟩⟩
    have ho := h.own
    rw [hv] at ho
    obtain ⟨p1, p2⟩ := cellsE_get ts i hi
    have c1 := World.ownsRow.cellAt ho (i * 2) (by omega)
    have c2 := World.ownsRow.cellAt ho (i * 2 + 1) (by omega)
    rw [p1] at c1
    rw [p2] at c2
    exact ⟨c1, c2⟩

def allE (ts : List Ent) (k : Nat) : Prop := ∀ j, j < k → entB (ts.getD j Ent.none).1 (ts.getD j Ent.none).2 = true
def okD (ts : List Ent) : Bool := decide ((∀ j, j < ts.length → entB (ts.getD j Ent.none).1 (ts.getD j Ent.none).2 = true) ∧ ∀ k : Nat, k < ts.length → findD ts (ts.getD k Ent.none).2 = (k : Int))
theorem okD_iff (ts : List Ent) : okD ts = true ↔ allE ts ts.length ∧ Apart ts := decide_eq_true_iff
theorem okD_dir (ts : List Ent) (h : ts.length ≤ 160) : okD ts = dirB ts := by
  classical
  rw [Bool.eq_iff_iff, dirB_iff]
  rw [okD_iff]
  constructor
  · rintro ⟨h1, h2⟩
    refine ⟨h, fun k hk => ?_⟩
    unfold dirAt
    rw [h1 k hk, h2 k hk]
    simp
  · rintro ⟨_, h2⟩
    refine ⟨fun k hk => ?_, fun k hk => ?_⟩
    · have := h2 k hk
      unfold dirAt at this
      rw [Bool.and_eq_true] at this
      exact this.1
    · have := h2 k hk
      unfold dirAt at this
      rw [Bool.and_eq_true, decide_eq_true_eq] at this
      exact this.2

set_option maxRecDepth 20000 in
set_option maxHeartbeats 4000000 in
theorem isValidD_calls (base : Nat) (W : World) (bd bm : Nat) (v : Value) (D : DataW Unit) (ts : List Ent) (h : DirO base W bd bm v D ts) (hl : ts.length ≤ 1048576) :
    Calls Try.prog 26 #[.pointer (some ⟨bd, 0, none⟩)] W fun e W' => e = .returned (.bool (okD ts)) ∧ Chg 0 0 W W' := by
  classical
  obtain ⟨ao, vc, rfl, hrow⟩ := h.rows
  obtain ⟨p0, p1⟩ := dir_cells h.cells
  have HOK : Hid (okD ts = decide (allE ts ts.length ∧ Apart ts)) := by show _ = _; rw [Bool.eq_iff_iff, okD_iff, decide_eq_true_eq]
  have HLen : Hid (Maps.size D = ts.length ↔ Apart ts) := h.says.len
  have HD : Hid (DirO base W bd bm (.slice ao ts.length vc) D ts) := h
  clear h
  go_enter Try.func26, Try.ntmps26
  go_wp2
  go_loopw [10] (fun x wr => ∃ k : Nat, k ≤ ts.length ∧ x = .int .i64 k ∧ Chg 0 0 W wr ∧ allE ts k) (fun x _ => ts.length - (intOf x).toNat)
  case atStart => exact ⟨0, Nat.zero_le _, rfl, Chg.refl _ _ _, fun j hj => absurd hj (Nat.not_lt_zero _)⟩
  case round =>
    obtain ⟨k, hk, rfl, hc, hall⟩ := hrel
    by_cases hlt : k < ts.length
    · obtain ⟨g, rfl, hg1, hg2, hce⟩ := hrow.resolve_left (fun h => by rw [h] at hlt; exact absurd hlt (Nat.not_lt_zero k))
      obtain ⟨c1, c2⟩ := (hce k hlt).chg hc (by omega)
      have hi : (k : Int) < (ts.length : Int) := by omega
      have HY : Hid (entB (ts.getD k Ent.none).1 (ts.getD k Ent.none).2 = true → allE ts (k + 1)) := fun h j hj => by
        rcases Nat.lt_or_eq_of_le (Nat.le_of_lt_succ hj) with h3 | h3
        · exact hall j h3
        · rw [h3]; exact h
      have HN : Hid (entB (ts.getD k Ent.none).1 (ts.getD k Ent.none).2 = false → okD ts = false) := fun h => by
        rw [HOK.out]
        exact decide_eq_false (fun h' => by have := h'.1 k hlt; rw [h] at this; cases this)
      generalize ts.getD k Ent.none = t at *
      have hN := isValidE_calls (wr.alloc (.cells #[.int .i64 t.1, .string t.2] 37)) t.1 t.2
      have HC1 : Hid (Chg 0 0 W (wr.alloc (.cells #[.int .i64 t.1, .string t.2] 37))) := hc.alloc _
      obtain ⟨e0, e1⟩ := duoE (heap_new wr (.cells #[.int .i64 t.1, .string t.2] 37))
      clear hc hall hce hrow hg1 hg2
      cases hb : entB t.1 t.2 with
      | true =>
        rw [hb] at hN
        have HA : Hid (allE ts (k + 1)) := HY.out hb
        clear HY HN hb
        go_wp2_with (go_at_call 31; refine hN.mono ?_; clear hN; rintro e w3 ⟨rfl, hc3⟩)
        go_roundw
        case rel => exact ⟨k + 1, by omega, by go_num, HC1.out.trans hc3, HA.out⟩
        case measure => simp [intOf]; omega
      | false =>
        rw [hb] at hN
        have HA : Hid (okD ts = false) := HN.out hb
        clear HY HN hb
        go_wp2_with (go_at_call 31; refine hN.mono ?_; clear hN; rintro e w3 ⟨rfl, hc3⟩)
        go_ret
        exact ⟨by rw [HA.out]; rfl, HC1.out.trans hc3⟩
    · obtain rfl : k = ts.length := by omega
      have HB : Hid (okD ts = decide (Maps.size D = ts.length)) := by
        show _ = _
        rw [HOK.out, Bool.eq_iff_iff, decide_eq_true_eq, decide_eq_true_eq, HLen.out]
        exact ⟨fun h => h.2, fun h => ⟨hall, h⟩⟩
      have HD1 := HD.out.chg hc (by omega)
      have HC : Hid (Chg 0 0 W wr.drew) := hc.drew
      have HS : Hid ((fun w' : World => w'.heap[bd]? = some (.cells #[.slice ao ts.length vc, .map (some bm)] 54 (0, 0)) ∧ w'.ownsMap Try.prog 9 (plainElem Try.prog 2) bm ts.length D) wr.drew) := ⟨HD1.cells, HD1.map⟩
      have hfew := HD1.says.few
      clear hall hc HD1 hrow HOK HLen
      have hLenM : ∀ w' : World, w'.ownsMap Try.prog 9 (plainElem Try.prog 2) bm ts.length D → (Builtin.len_ #[52] 3 #[.map (some bm)]).run Try.prog w' = .ok (.int .i64 (Maps.size D)) w' := fun w' h => World.ownsMap.len h Try.underlying52 _
      generalize Maps.size D = z at *
      have heq : ((z : Int) == (ts.length : Int)) = decide (z = ts.length) := by rw [Bool.eq_iff_iff, beq_iff_eq, decide_eq_true_eq]; omega
      go_upto_region 7 with fail
      refine held_region (fun w' : World => w'.heap[bd]? = some (.cells #[.slice ao ts.length vc, .map (some bm)] 54 (0, 0)) ∧ w'.ownsMap Try.prog 9 (plainElem Try.prog 2) bm ts.length D) (by kernel_rfl) ?_
      generalize wr.drew = x1 at *
      refine held_take 0 (.pointer (some ⟨bd, 0, none⟩)) rfl (by kernel_rfl) (by kernel_rfl) (by kernel_rfl) (fun _ _ _ h => h) (.inl ⟨by kernel_rfl, fun w' hw' => by go_simp⟩) HS.out ?_
      go_simp
      refine held_take 1 (.pointer (some ⟨bd, 0, none⟩)) rfl (by kernel_rfl) (by kernel_rfl) (by kernel_rfl) (fun _ _ _ h => h) (.inl ⟨by kernel_rfl, fun w' hw' => by go_simp⟩) HS.out ?_
      go_simp
      refine held_take 2 (.pointer (some ⟨bd, 1, none⟩)) rfl (by kernel_rfl) (by kernel_rfl) (by kernel_rfl) (fun _ _ _ h => h) (.inl ⟨by kernel_rfl, fun w' hw' => by go_simp⟩) HS.out ?_
      go_simp
      refine held_take 3 (.map (some bm)) rfl (by kernel_rfl) (by kernel_rfl) (by kernel_rfl) (fun _ _ _ h => h) (.inl ⟨by kernel_rfl, fun w' hw' => by obtain ⟨p0, p1⟩ := dir_cells hw'.1; go_simp⟩) HS.out ?_
      go_simp
      refine held_take 4 (.int .i64 z) rfl (by kernel_rfl) (by kernel_rfl) (by kernel_rfl) (fun _ _ _ h => h) (.inl ⟨by kernel_rfl, fun w' hw' => by have hlm := hLenM w' hw'.2; go_simp⟩) HS.out ?_
      go_simp
      refine held_take 5 (.pointer (some ⟨bd, 0, none⟩)) rfl (by kernel_rfl) (by kernel_rfl) (by kernel_rfl) (fun _ _ _ h => h) (.inl ⟨by kernel_rfl, fun w' hw' => by go_simp⟩) HS.out ?_
      go_simp
      refine held_take 6 (.pointer (some ⟨bd, 0, none⟩)) rfl (by kernel_rfl) (by kernel_rfl) (by kernel_rfl) (fun _ _ _ h => h) (.inl ⟨by kernel_rfl, fun w' hw' => by go_simp⟩) HS.out ?_
      go_simp
      refine held_take 7 (.pointer (some ⟨bd, 0, none⟩)) rfl (by kernel_rfl) (by kernel_rfl) (by kernel_rfl) (fun _ _ _ h => h) (.inl ⟨by kernel_rfl, fun w' hw' => by go_simp⟩) HS.out ?_
      go_simp
      refine held_take 8 (.slice ao ts.length vc) rfl (by kernel_rfl) (by kernel_rfl) (by kernel_rfl) (fun _ _ _ h => h) (.inl ⟨by kernel_rfl, fun w' hw' => by obtain ⟨p0, p1⟩ := dir_cells hw'.1; go_simp⟩) HS.out ?_
      go_simp
      refine held_take 9 (.int .i64 ts.length) rfl (by kernel_rfl) (by kernel_rfl) (by kernel_rfl) (fun _ _ _ h => h) (.inl ⟨by kernel_rfl, fun w' hw' => by go_simp⟩) HS.out ?_
      go_simp
      refine held_take 10 (.bool (decide (z = ts.length))) rfl (by kernel_rfl) (by kernel_rfl) (by kernel_rfl) (fun _ _ _ h => h) (.inl ⟨by kernel_rfl, fun w' hw' => by go_simp⟩) HS.out ?_
      go_simp
      refine held_take 11 (.bool (decide (z = ts.length))) rfl (by kernel_rfl) (by kernel_rfl) (by kernel_rfl) (fun _ _ _ h => h) (.inl ⟨by kernel_rfl, fun w' hw' => by go_simp⟩) HS.out ?_
      go_simp
      refine held_done (by kernel_rfl) (NoPanic.normal ?_)
      go_wp2
      go_ret
      exact ⟨by rw [HB.out]; rfl, HC.out⟩

end Go.Proofs.Ytaacidanpppopaa
