/- Several short texts in one: DirVal, ImplFind. -/
import Derived.Test.YtilnlphkkbflaaaDirAdd
import Derived.Test.YtilnlphkkbflaaaDirEnc
namespace Go.Proofs.Ytilnlphkkbflaaa
open Go.RowKit

theorem DirO.rows {base : Nat} {W : World} {bd bm : Nat} {v : Value} {D : DataW Unit} {ts : List Ent} (h : DirO base W bd bm v D ts) :
    ∃ ao vc, v = .slice ao ts.length vc ∧ (ts = [] ∨ ∃ g, ao = some ⟨g, 0, none⟩ ∧ base ≤ g ∧ g < W.heap.size ∧ ∀ i, i < ts.length → EAt W g (i * 2) (ts.getD i Ent.none)) := by
  rcases h.own.2 with ⟨h1, h0⟩ | ⟨g, cap, cur, hv, hg, hh, _⟩
  · exact ⟨none, 0, by rw [h0]; exact h1, Or.inl (List.eq_nil_of_length_eq_zero h0)⟩
  · refine ⟨_, cap, hv, Or.inr ⟨g, rfl, hg, (Array.getElem?_eq_some_iff.1 hh).1, fun i hi => ?_⟩⟩
    have ho := h.own
    rw [hv] at ho
    obtain ⟨p1, p2⟩ := cellsE_get ts i hi
    have c1 := World.ownsRow.cellAt ho (i * 2) (by omega)
    have c2 := World.ownsRow.cellAt ho (i * 2 + 1) (by omega)
    rw [p1] at c1
    rw [p2] at c2
    exact ⟨c1, c2⟩

def allE (ts : List Ent) (k : Nat) : Prop := ∀ j, j < k → entB (ts.getD j Ent.none).1 (ts.getD j Ent.none).2 = true
def okD (ts : List Ent) : Bool := decide ((∀ j, j < ts.length → entB (ts.getD j Ent.none).1 (ts.getD j Ent.none).2 = true) ∧ ∀ k : Nat, k < ts.length → findD ts (ts.getD k Ent.none).2 = (k : Int))
theorem okD_iff (ts : List Ent) : okD ts = true ↔ allE ts ts.length ∧ Apart ts := decide_eq_true_iff
theorem okD_dir (ts : List Ent) (h : ts.length ≤ 160) : okD ts = dirB ts := by
  classical
  rw [Bool.eq_iff_iff, dirB_iff]
  rw [okD_iff]
  constructor
  · rintro ⟨h1, h2⟩
    refine ⟨h, fun k hk => ?_⟩
    unfold dirAt
    rw [h1 k hk, h2 k hk]
    simp
  · rintro ⟨_, h2⟩
    refine ⟨fun k hk => ?_, fun k hk => ?_⟩
    · have := h2 k hk
      unfold dirAt at this
      rw [Bool.and_eq_true] at this
      exact this.1
    · have := h2 k hk
      unfold dirAt at this
      rw [Bool.and_eq_true, decide_eq_true_eq] at this
      exact this.2

set_option maxRecDepth 20000 in
set_option maxHeartbeats 4000000 in
theorem isValidD_calls (base : Nat) (W : World) (bd bm : Nat) (v : Value) (D : DataW Unit) (ts : List Ent) (h : DirO base W bd bm v D ts) (hl : ts.length ≤ 1048576) :
    Calls Try.prog 25 #[.pointer (some ⟨bd, 0, none⟩)] W fun e W' => e = .returned (.bool (okD ts)) ∧ Chg 0 0 W W' := by
  classical
  obtain ⟨ao, vc, rfl, hrow⟩ := h.rows
  obtain ⟨p0, p1⟩ := dir_cells h.cells
  have HOK : Hid (okD ts = decide (allE ts ts.length ∧ Apart ts)) := by show _ = _; rw [Bool.eq_iff_iff, okD_iff, decide_eq_true_eq]
  have HLen : Hid (Maps.size D = ts.length ↔ Apart ts) := h.says.len
  have HD : Hid (DirO base W bd bm (.slice ao ts.length vc) D ts) := h
  clear h
  go_enter Try.func25, Try.ntmps25
  go_wp2
  go_loopw [10] (fun x wr => ∃ k : Nat, k ≤ ts.length ∧ x = .int .i64 k ∧ Chg 0 0 W wr ∧ allE ts k) (fun x _ => ts.length - (intOf x).toNat)
  case atStart => exact ⟨0, Nat.zero_le _, rfl, Chg.refl _ _ _, fun j hj => absurd hj (Nat.not_lt_zero _)⟩
  case round =>
    obtain ⟨k, hk, rfl, hc, hall⟩ := hrel
    by_cases hlt : k < ts.length
    · obtain ⟨g, rfl, hg1, hg2, hce⟩ := hrow.resolve_left (fun h => by rw [h] at hlt; exact absurd hlt (Nat.not_lt_zero k))
      obtain ⟨c1, c2⟩ := (hce k hlt).chg hc (by omega)
      have hi : (k : Int) < (ts.length : Int) := by omega
      have HY : Hid (entB (ts.getD k Ent.none).1 (ts.getD k Ent.none).2 = true → allE ts (k + 1)) := fun h j hj => by
        rcases Nat.lt_or_eq_of_le (Nat.le_of_lt_succ hj) with h3 | h3
        · exact hall j h3
        · rw [h3]; exact h
      have HN : Hid (entB (ts.getD k Ent.none).1 (ts.getD k Ent.none).2 = false → okD ts = false) := fun h => by
        rw [HOK.out]
        exact decide_eq_false (fun h' => by have := h'.1 k hlt; rw [h] at this; cases this)
      generalize ts.getD k Ent.none = t at *
      have hN := isValidE_calls (wr.alloc (.cells #[.int .i64 t.1, .string t.2] 34)) t.1 t.2
      have HC1 : Hid (Chg 0 0 W (wr.alloc (.cells #[.int .i64 t.1, .string t.2] 34))) := hc.alloc _
      obtain ⟨e0, e1⟩ := duoE (heap_new wr (.cells #[.int .i64 t.1, .string t.2] 34))
      clear hc hall hce hrow hg1 hg2
      cases hb : entB t.1 t.2 with
      | true =>
        rw [hb] at hN
        have HA : Hid (allE ts (k + 1)) := HY.out hb
        clear HY HN hb
        go_wp2_with (go_at_call 34; refine hN.mono ?_; clear hN; rintro e w3 ⟨rfl, hc3⟩)
        go_roundw
        case rel => exact ⟨k + 1, by omega, by go_num, HC1.out.trans hc3, HA.out⟩
        case measure => simp [intOf]; omega
      | false =>
        rw [hb] at hN
        have HA : Hid (okD ts = false) := HN.out hb
        clear HY HN hb
        go_wp2_with (go_at_call 34; refine hN.mono ?_; clear hN; rintro e w3 ⟨rfl, hc3⟩)
        go_ret
        exact ⟨by rw [HA.out]; rfl, HC1.out.trans hc3⟩
    · obtain rfl : k = ts.length := by omega
      have HB : Hid (okD ts = decide (Maps.size D = ts.length)) := by
        show _ = _
        rw [HOK.out, Bool.eq_iff_iff, decide_eq_true_eq, decide_eq_true_eq, HLen.out]
        exact ⟨fun h => h.2, fun h => ⟨hall, h⟩⟩
      have HD1 := HD.out.chg hc (by omega)
      have HC : Hid (Chg 0 0 W wr.drew) := hc.drew
      have HS : Hid ((fun w' : World => w'.heap[bd]? = some (.cells #[.slice ao ts.length vc, .map (some bm)] 44 (0, 0)) ∧ w'.ownsMap Try.prog 9 (plainElem Try.prog 2) bm ts.length D) wr.drew) := ⟨HD1.cells, HD1.map⟩
      have hfew := HD1.says.few
      clear hall hc HD1 hrow HOK HLen
      have hLenM : ∀ w' : World, w'.ownsMap Try.prog 9 (plainElem Try.prog 2) bm ts.length D → (Builtin.len_ #[42] 3 #[.map (some bm)]).run Try.prog w' = .ok (.int .i64 (Maps.size D)) w' := fun w' h => World.ownsMap.len h Try.underlying42 _
      generalize Maps.size D = z at *
      have heq : ((z : Int) == (ts.length : Int)) = decide (z = ts.length) := by rw [Bool.eq_iff_iff, beq_iff_eq, decide_eq_true_eq]; omega
      go_upto_region 7 with fail
      refine held_region (fun w' : World => w'.heap[bd]? = some (.cells #[.slice ao ts.length vc, .map (some bm)] 44 (0, 0)) ∧ w'.ownsMap Try.prog 9 (plainElem Try.prog 2) bm ts.length D) (by kernel_rfl) ?_
      generalize wr.drew = x1 at *
      refine held_take 0 (.pointer (some ⟨bd, 0, none⟩)) rfl (by kernel_rfl) (by kernel_rfl) (by kernel_rfl) (fun _ _ _ h => h) (.inl ⟨by kernel_rfl, fun w' hw' => by go_simp⟩) HS.out ?_
      go_simp
      refine held_take 1 (.pointer (some ⟨bd, 0, none⟩)) rfl (by kernel_rfl) (by kernel_rfl) (by kernel_rfl) (fun _ _ _ h => h) (.inl ⟨by kernel_rfl, fun w' hw' => by go_simp⟩) HS.out ?_
      go_simp
      refine held_take 2 (.pointer (some ⟨bd, 1, none⟩)) rfl (by kernel_rfl) (by kernel_rfl) (by kernel_rfl) (fun _ _ _ h => h) (.inl ⟨by kernel_rfl, fun w' hw' => by go_simp⟩) HS.out ?_
      go_simp
      refine held_take 3 (.map (some bm)) rfl (by kernel_rfl) (by kernel_rfl) (by kernel_rfl) (fun _ _ _ h => h) (.inl ⟨by kernel_rfl, fun w' hw' => by obtain ⟨p0, p1⟩ := dir_cells hw'.1; go_simp⟩) HS.out ?_
      go_simp
      refine held_take 4 (.int .i64 z) rfl (by kernel_rfl) (by kernel_rfl) (by kernel_rfl) (fun _ _ _ h => h) (.inl ⟨by kernel_rfl, fun w' hw' => by have hlm := hLenM w' hw'.2; go_simp⟩) HS.out ?_
      go_simp
      refine held_take 5 (.pointer (some ⟨bd, 0, none⟩)) rfl (by kernel_rfl) (by kernel_rfl) (by kernel_rfl) (fun _ _ _ h => h) (.inl ⟨by kernel_rfl, fun w' hw' => by go_simp⟩) HS.out ?_
      go_simp
      refine held_take 6 (.pointer (some ⟨bd, 0, none⟩)) rfl (by kernel_rfl) (by kernel_rfl) (by kernel_rfl) (fun _ _ _ h => h) (.inl ⟨by kernel_rfl, fun w' hw' => by go_simp⟩) HS.out ?_
      go_simp
      refine held_take 7 (.pointer (some ⟨bd, 0, none⟩)) rfl (by kernel_rfl) (by kernel_rfl) (by kernel_rfl) (fun _ _ _ h => h) (.inl ⟨by kernel_rfl, fun w' hw' => by go_simp⟩) HS.out ?_
      go_simp
      refine held_take 8 (.slice ao ts.length vc) rfl (by kernel_rfl) (by kernel_rfl) (by kernel_rfl) (fun _ _ _ h => h) (.inl ⟨by kernel_rfl, fun w' hw' => by obtain ⟨p0, p1⟩ := dir_cells hw'.1; go_simp⟩) HS.out ?_
      go_simp
      refine held_take 9 (.int .i64 ts.length) rfl (by kernel_rfl) (by kernel_rfl) (by kernel_rfl) (fun _ _ _ h => h) (.inl ⟨by kernel_rfl, fun w' hw' => by go_simp⟩) HS.out ?_
      go_simp
      refine held_take 10 (.bool (decide (z = ts.length))) rfl (by kernel_rfl) (by kernel_rfl) (by kernel_rfl) (fun _ _ _ h => h) (.inl ⟨by kernel_rfl, fun w' hw' => by go_simp⟩) HS.out ?_
      go_simp
      refine held_take 11 (.bool (decide (z = ts.length))) rfl (by kernel_rfl) (by kernel_rfl) (by kernel_rfl) (fun _ _ _ h => h) (.inl ⟨by kernel_rfl, fun w' hw' => by go_simp⟩) HS.out ?_
      go_simp
      refine held_done (by kernel_rfl) (NoPanic.normal ?_)
      go_wp2
      go_ret
      exact ⟨by rw [HB.out]; rfl, HC.out⟩

end Go.Proofs.Ytilnlphkkbflaaa

namespace Go.Proofs.Ytilnlphkkbflaaa
open Go.RowKit

theorem DirO.low {base base' : Nat} {W : World} {bd bm : Nat} {v : Value} {D : DataW Unit} {ts : List Ent} (h : DirO base W bd bm v D ts) (hb : base' ≤ base) : DirO base' W bd bm v D ts := by
  refine ⟨h.cells, ⟨Nat.le_trans hb h.lo.1, Nat.le_trans hb h.lo.2⟩, ?_, h.map, h.says⟩
  rcases h.own.2 with h1 | ⟨g, cap, cur, hv, hg, r⟩
  · exact ⟨h.own.1, Or.inl h1⟩
  · exact ⟨h.own.1, Or.inr ⟨g, cap, cur, hv, Nat.le_trans hb hg, r⟩⟩

set_option maxRecDepth 20000 in
set_option maxHeartbeats 2000000 in
theorem directoryOf_some (w : World) (ts : List Ent) (ao : Option Addr) (cap : Nat) (hl : ts.length ≤ 1048576) (hz : ∀ i, i < ts.length → (ts.getD i Ent.none).2.size ≤ 1048576)
    (h1 : ts = [] ∨ ∃ b off, ao = some ⟨b, off, none⟩ ∧ ∀ i, i < ts.length → EAt w b (off + i * 2) (ts.getD i Ent.none)) :
    Calls Try.prog 21 #[.slice ao ts.length cap] w fun e w' => ∃ bd bm v D, e = .returned (.pointer (some ⟨bd, 0, none⟩)) ∧ DirO w.heap.size w' bd bm v D ts ∧ Chg 0 0 w w' := by
  have hmk : ∀ x : World, (Instr.makeMap 42 none).run Try.prog x = .ok (.map (some x.heap.size)) (x.alloc (.map #[] 0)) := fun _ => rfl
  have hM0 := World.ownsMap_made w Try.prog 9 (plainElem (H := Unit) Try.prog 2)
  have hD0 : DirO w.heap.size ((w.alloc (.map #[] 0)).alloc (.cells #[.slice none 0 0, .map (some w.heap.size)] 44)) (w.heap.size + 1) w.heap.size (.slice none 0 0) (.map []) [] :=
    ⟨(alloc2 w _ _).2.2, by omega, ⟨rfl, Or.inl ⟨rfl, rfl⟩⟩, hM0.alloc _, Says.nil⟩
  have hC0 : Chg 0 0 w ((w.alloc (.map #[] 0)).alloc (.cells #[.slice none 0 0, .map (some w.heap.size)] 44)) := (Chg.alloc (Chg.refl 0 0 w) _).alloc _
  have hsz : (w.alloc (.map #[] 0)).heap.size = w.heap.size + 1 := by simp
  clear hM0
  go_enter Try.func21, Try.ntmps21
  go_wp2
  generalize ((w.alloc (.map #[] 0)).alloc (.cells #[.slice none 0 0, .map (some w.heap.size)] 44)) = w1 at *
  go_loopw [11] (fun x wr => ∃ (k : Nat) (v : Value) (D : DataW Unit), k ≤ ts.length ∧ x = .int .i64 k ∧ DirO w.heap.size wr (w.heap.size + 1) w.heap.size v D (ts.take k) ∧ Chg 0 0 w wr) (fun x _ => ts.length - (intOf x).toNat)
  case atStart => exact ⟨0, _, _, Nat.zero_le _, rfl, hD0, hC0⟩
  case round =>
    clear hD0 hC0
    obtain ⟨k, v, D, hk, rfl, hd, hc⟩ := hrel
    by_cases hlt : k < ts.length
    · obtain ⟨b, off, rfl, hce⟩ := h1.resolve_left (fun h => by rw [h] at hlt; exact absurd hlt (Nat.not_lt_zero k))
      obtain ⟨c1, c2⟩ := (hce k hlt).chg hc (by omega)
      have hx : ts.getD k Ent.none = ts[k] := by simp [List.getD_eq_getElem?_getD, hlt]
      have HT : Hid (ts.take (k + 1) = ts.take k ++ [ts.getD k Ent.none]) := by show _ = _; rw [List.take_succ_eq_append_getElem hlt, hx]
      have hi : (k : Int) < (ts.length : Int) := by omega
      have hz' := hz k hlt
      generalize ts.getD k Ent.none = t at *
      have C1 : Chg 0 0 wr (wr.alloc (.cells #[.int .i64 t.1, .string t.2] 34)) := Chg.alloc (Chg.refl 0 0 wr) _
      have hN := add_calls w.heap.size (wr.alloc (.cells #[.int .i64 t.1, .string t.2] 34)) (w.heap.size + 1) w.heap.size v D (ts.take k) t (hd.chg C1 (by omega)) hz' (by rw [List.length_take]; omega)
      have HC1 : Hid (Chg 0 0 w (wr.alloc (.cells #[.int .i64 t.1, .string t.2] 34))) := hc.trans C1
      obtain ⟨e0, e1⟩ := duoE (heap_new wr (.cells #[.int .i64 t.1, .string t.2] 34))
      clear hx hd hc C1 hce h1 hz hz'
      go_wp2_with (go_at_call 24; refine hN.mono ?_; clear hN; rintro e w3 ⟨⟨x, rfl⟩, hd3, hc3⟩)
      obtain ⟨v3, D3, hd3⟩ := hd3
      go_roundw
      case rel => exact ⟨k + 1, v3, D3, by omega, by go_num, by rw [HT.out]; exact hd3, HC1.out.step hc3 (by omega)⟩
      case measure => simp [intOf]; omega
    · obtain rfl : k = ts.length := by omega
      rw [List.take_length] at hd
      have HD : Hid (DirO w.heap.size wr (w.heap.size + 1) w.heap.size v D ts) := hd
      clear hd h1 hz
      go_wp2
      go_ret
      exact ⟨_, _, _, _, rfl, HD.out, hc⟩

end Go.Proofs.Ytilnlphkkbflaaa
