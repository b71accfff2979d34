/- l5Writes of the model: homes as operations. -/
import Derived.Test.YtfdbmhaapembjaaGreatDoorOpsApp
import Derived.Test.YtfdbmhaapembjaaGreatDoorCopy
import Derived.Test.YtfdbmhaapembjaaGreatDoorHeld
import Derived.Test.YtfdbmhaapembjaaGreatDoorWeak
import Derived.Deep.DeepCutAuto
import Derived.Great.BuildSlice
namespace Go.Proofs.YtfdbmhaapembjaaGreatDoor
open Go.RowKit

/-- Homes as operations. -/
def opsOf (ps : List Wr) : List Opx := ps.map fun p => (1, p.1, p.2)

theorem opsOf_length (ps : List Wr) : (opsOf ps).length = ps.length := by simp [opsOf]

theorem opsOf_take (ps : List Wr) (k : Nat) (h : k < ps.length) : opsOf (ps.take (k + 1)) = opsOf (ps.take k) ++ [(1, (ps.getD k (0, [])).1, (ps.getD k (0, [])).2)] := by
  unfold opsOf
  rw [List.take_succ_eq_append_getElem h, List.map_append]
  simp [List.getD_eq_getElem?_getD, h]

theorem cnt_data {ps : List Wr} {i : Nat} (h : i < ps.length) : (ps.getD i (0, [])).2.length + 1 ≤ cnt ps := by
  have h1 := cnt_take_succ ps i h
  have h2 := cnt_take_le ps (i + 1)
  omega

theorem OwnOx.nil (w : World) (base : Nat) (hb : base ≤ w.heap.size) : OwnOx (w.alloc (.cells #[] 44)) base 44 5 (.slice (some ⟨w.heap.size, 0, none⟩) 0 0) [] [] (fun _ => .slice none 0 0) := by
  have := World.ownsRow_lit (base := base) (e := 44) (size := 3) w #[] 0 hb (by unfold maxLen; omega) rfl
  exact ⟨by simpa using this, fun i h => absurd h (Nat.not_lt_zero i), fun i h => absurd h (Nat.not_lt_zero i), fun i h => absurd h (Nat.not_lt_zero i), fun i h => absurd h (Nat.not_lt_zero i), fun _ j _ _ h => absurd h (Nat.not_lt_zero j)⟩

/-- An operation more: its bytes are new. -/
theorem more_apart {N : Nat} {nv : Value} {os : List Opx} {dvs : Nat → Value} (hN : ∀ i g, i < os.length → (dvs i).ownBlock = some g → g < N) (hy : ∀ g, nv.ownBlock = some g → N ≤ g) :
    ∀ (i j : Nat) (g : Nat), i < os.length → j < 1 → (dvs i).ownBlock = some g → nv.ownBlock ≠ some g := fun i j g hi _ hg e => by have := hN i g hi hg; have := hy g e; omega

set_option maxRecDepth 20000 in
set_option maxHeartbeats 2000000 in
theorem l5Writes_some (w : World) (ps : List Wr) (lo hi b off cap : Nat) (hl : cnt ps ≤ 1048576)
    (h1 : ∀ i, i < ps.length → ∃ dv, w.cell? ⟨b, off + i * 2, none⟩ = some (.int .i64 (ps.getD i (0, [])).1) ∧ w.cell? ⟨b, off + i * 2 + 1, none⟩ = some dv ∧ View w lo hi .u8 dv (ps.getD i (0, [])).2) :
    Calls Tryz.prog 16 #[.slice (some ⟨b, off, none⟩) ps.length cap] w fun e w' => ∃ v, e = .returned v ∧ (∃ cells dvs, OwnOx w' w.heap.size 44 5 v (opsOf ps) cells dvs) ∧ Chg 0 0 w w' := by
  have hlp := cnt_ge ps
  have HO0 : Hid (OwnOx (w.alloc (.cells #[] 44)) w.heap.size 44 5 (.slice (some ⟨w.heap.size, 0, none⟩) 0 0) [] [] (fun _ => .slice none 0 0)) := OwnOx.nil w _ (Nat.le_refl _)
  have C0 : Chg 0 0 w (w.alloc (.cells #[] 44)) := Chg.alloc (Chg.refl 0 0 w) _
  go_enter Tryz.func16, Tryz.ntmps16
  go_wp2
  go_loopw [3, 4] (fun o x wr => ∃ (k g cp : Nat), k ≤ ps.length ∧ x = .int .i64 k ∧ o = .slice (some ⟨g, 0, none⟩) k cp ∧ (∃ cells dvs, OwnOx wr w.heap.size 44 5 (.slice (some ⟨g, 0, none⟩) k cp) (opsOf (ps.take k)) cells dvs) ∧ Chg 0 0 w wr) (fun _ x _ => ps.length - (intOf x).toNat)
  case atStart => exact ⟨0, _, _, Nat.zero_le _, rfl, rfl, ⟨_, _, HO0.out⟩, C0⟩
  case round =>
    obtain ⟨k, g, cp, hk, rfl, rfl, ⟨cells, dvs, ho⟩, hch⟩ := hrel
    have HC : Hid (Chg 0 0 w wr) := hch
    have HO : Hid (OwnOx wr w.heap.size 44 5 (.slice (some ⟨g, 0, none⟩) k cp) (opsOf (ps.take k)) cells dvs) := ho
    have sz := hch.size
    by_cases hlt : k < ps.length
    · have hi' : (k : Int) < (ps.length : Int) := by omega
      obtain ⟨dv, c0, c1, vw⟩ := h1 k hlt
      have HT : Hid (opsOf (ps.take (k + 1)) = opsOf (ps.take k) ++ [(1, (ps.getD k (0, [])).1, (ps.getD k (0, [])).2)]) := opsOf_take ps k hlt
      have HL : Hid ((opsOf (ps.take k)).length = k) := by show _ = _; rw [opsOf_length, List.length_take]; omega
      have hxl : (ps.getD k (0, [])).2.length ≤ 1048576 := by have := cnt_data hlt; omega
      generalize ps.getD k (0, []) = p at *
      obtain ⟨q, xs⟩ := p
      simp only at c0 c1 vw hxl
      have VX : Hid (View wr.drew lo hi .u8 dv xs) := (vw.chg hch (by omega)).chg (Chg.drew (Chg.refl 0 0 wr)) (by omega)
      obtain ⟨dao, dcap, rfl, _, _, _⟩ := vw
      have HS : Hid ((fun w' : World => w'.cell? ⟨b, off + k * 2, none⟩ = some (.int .i64 q) ∧ w'.cell? ⟨b, off + k * 2 + 1, none⟩ = some (.slice dao xs.length dcap)) wr.drew) := ⟨hch.cell c0 (by omega), hch.cell c1 (by omega)⟩
      have hbw : b < w.heap.size := lt_of_cell c0
      clear c0 c1 ho hch h1 HO0 C0
      go_wp2
      refine held_region (fun w' : World => w'.cell? ⟨b, off + k * 2, none⟩ = some (.int .i64 q) ∧ w'.cell? ⟨b, off + k * 2 + 1, none⟩ = some (.slice dao xs.length dcap)) (by kernel_rfl) ?_
      refine held_take 0 (.slice (some ⟨g, 0, none⟩) k cp) rfl (by kernel_rfl) (by kernel_rfl) (by kernel_rfl) (fun _ _ _ h => h) (.inl ⟨by kernel_rfl, fun w' hw' => by go_simp⟩) HS.out ?_
      go_simp
      refine held_take 1 (.slice (some ⟨b, off, none⟩) ps.length cap) rfl (by kernel_rfl) (by kernel_rfl) (by kernel_rfl) (fun _ _ _ h => h) (.inl ⟨by kernel_rfl, fun w' hw' => by go_simp⟩) HS.out ?_
      go_simp
      refine held_take 2 (.int .i64 (k : Int)) rfl (by kernel_rfl) (by kernel_rfl) (by kernel_rfl) (fun _ _ _ h => h) (.inl ⟨by kernel_rfl, fun w' hw' => by go_simp⟩) HS.out ?_
      go_simp
      refine held_take 3 (.pointer (some ⟨b, off + k * 2, none⟩)) rfl (by kernel_rfl) (by kernel_rfl) (by kernel_rfl) (fun _ _ _ h => h) (.inl ⟨by kernel_rfl, fun w' hw' => by go_simp⟩) HS.out ?_
      go_simp
      refine held_take 4 (.pointer (some ⟨b, off + k * 2, none⟩)) rfl (by kernel_rfl) (by kernel_rfl) (by kernel_rfl) (fun _ _ _ h => h) (.inl ⟨by kernel_rfl, fun w' hw' => by go_simp⟩) HS.out ?_
      go_simp
      refine held_take 5 (.int .i64 q) rfl (by kernel_rfl) (by kernel_rfl) (by kernel_rfl) (fun _ _ _ h => h) (.inl ⟨by kernel_rfl, fun w' hw' => by have h4 := hw'.1; go_simp⟩) HS.out ?_
      go_simp
      refine held_take 6 (.slice (some ⟨b, off, none⟩) ps.length cap) rfl (by kernel_rfl) (by kernel_rfl) (by kernel_rfl) (fun _ _ _ h => h) (.inl ⟨by kernel_rfl, fun w' hw' => by go_simp⟩) HS.out ?_
      go_simp
      refine held_take 7 (.int .i64 (k : Int)) rfl (by kernel_rfl) (by kernel_rfl) (by kernel_rfl) (fun _ _ _ h => h) (.inl ⟨by kernel_rfl, fun w' hw' => by go_simp⟩) HS.out ?_
      go_simp
      refine held_take 8 (.pointer (some ⟨b, off + k * 2, none⟩)) rfl (by kernel_rfl) (by kernel_rfl) (by kernel_rfl) (fun _ _ _ h => h) (.inl ⟨by kernel_rfl, fun w' hw' => by go_simp⟩) HS.out ?_
      go_simp
      refine held_take 9 (.pointer (some ⟨b, off + k * 2 + 1, none⟩)) rfl (by kernel_rfl) (by kernel_rfl) (by kernel_rfl) (fun _ _ _ h => h) (.inl ⟨by kernel_rfl, fun w' hw' => by go_simp⟩) HS.out ?_
      go_simp
      refine held_take 10 (.slice dao xs.length dcap) rfl (by kernel_rfl) (by kernel_rfl) (by kernel_rfl) (fun _ _ _ h => h) (.inl ⟨by kernel_rfl, fun w' hw' => by have h4 := hw'.2; go_simp⟩) HS.out ?_
      go_simp
      refine held_one 11 rfl rfl (by kernel_rfl) ?_
      have hds : wr.drew.heap.size = wr.heap.size := rfl
      refine wp_enter 29 #[.slice dao xs.length dcap] (by first | kernel_rfl | go_simp) (l1Copy_calls wr.drew hxl VX.out) ?_
      rintro e w5 ⟨v5, rfl, ho5, hc5⟩
      obtain ⟨va, vl, vc, rfl⟩ := row_slice ho5
      refine ⟨_, rfl, ?_⟩
      have HS5 : Hid ((fun w' : World => w'.cell? ⟨b, off + k * 2, none⟩ = some (.int .i64 q) ∧ w'.cell? ⟨b, off + k * 2 + 1, none⟩ = some (.slice dao xs.length dcap)) w5) := ⟨hc5.cell HS.out.1 (by omega), hc5.cell HS.out.2 (by omega)⟩
      have HC5 : Hid (Chg 0 0 wr w5) := (Chg.drew (Chg.refl 0 0 wr)).trans hc5
      have s5 := hc5.size
      rw [hds] at s5 ho5
      have HO5 : Hid (OwnB w5 wr.heap.size 5 (.slice va vl vc) xs) := ho5
      clear HS ho5 hc5
      refine ⟨HS5.out, ?_⟩
      go_simp
      refine held_take 12 (.agg #[.int .i64 1, .int .i64 q, .slice va vl vc]) rfl (by kernel_rfl) (by kernel_rfl) (by kernel_rfl) (fun _ _ _ h => h) (.inl ⟨by kernel_rfl, fun w' hw' => by go_simp⟩) HS5.out ?_
      go_simp
      obtain ⟨ic, hic, hcz0, hcz1, hcz2⟩ := info_parts Tryz.infoOp
      refine held_one 13 rfl rfl (by kernel_rfl) ?_
      refine wp_buildSlice 26 44 1 #[(0, .tmp 24)] rfl #[.int .i64 1, .int .i64 q, .slice va vl vc] ic _ Tryz.underlying26 hic hcz0 (by rw [hcz1]; decide) (by rw [hcz1]; decide) (by rw [hcz1, Array.toList_map]; refine fill3 _ ?_ _ _ _; simp) ?_
      have X6 := oneOp_own w5 wr.heap.size 1 q (.slice va vl vc) xs (by omega) HO5.out
      have C6 : Chg 0 0 wr (w5.alloc (.cells #[.int .i64 1, .int .i64 q, .slice va vl vc] 44)) := HC5.out.alloc _
      have C6' : Chg 0 0 w5 (w5.alloc (.cells #[.int .i64 1, .int .i64 q, .slice va vl vc] 44)) := Chg.alloc (Chg.refl 0 0 w5) _
      have s6 : (w5.alloc (.cells #[.int .i64 1, .int .i64 q, .slice va vl vc] 44)).heap.size = w5.heap.size + 1 := by simp
      generalize w5.alloc (.cells #[.int .i64 1, .int .i64 q, .slice va vl vc] 44) = w6 at *
      have HS6 : Hid ((fun w' : World => w'.cell? ⟨b, off + k * 2, none⟩ = some (.int .i64 q) ∧ w'.cell? ⟨b, off + k * 2 + 1, none⟩ = some (.slice dao xs.length dcap)) w6) := ⟨C6'.cell HS5.out.1 (by omega), C6'.cell HS5.out.2 (by omega)⟩
      refine ⟨HS6.out, ?_⟩
      have O6 := HO.out.chg C6 (by intro g' _; omega) (by intro i g' _ _; omega)
      have hfr := more_apart (os := (opsOf (ps.take k))) (dvs := dvs) (nv := .slice va vl vc) (N := wr.heap.size) (fun i g' hi hg => ((HO.out.data i hi).lt g' hg).2) (fun g' hg => (HO5.out.lt g' hg).1)
      have HX6 : Hid (OwnOx w6 wr.heap.size 44 5 (.slice (some ⟨w5.heap.size, 0, none⟩) 1 1) [(1, q, xs)] [.int .i64 1, .int .i64 q, .slice va vl vc] (fun _ => .slice va vl vc)) := X6
      have HO6 : Hid (OwnOx w6 w.heap.size 44 5 (.slice (some ⟨g, 0, none⟩) k cp) (opsOf (ps.take k)) cells dvs) := O6
      have HC6 : Hid (Chg 0 0 w w6) := HC.out.trans C6
      have Hfr : Hid (∀ (i j : Nat) (g : Nat), i < (opsOf (ps.take k)).length → j < 1 → (dvs i).ownBlock = some g → (Value.slice va vl vc).ownBlock ≠ some g) := hfr
      clear X6 C6 C6' O6 hfr HC5 HO5
      go_simp
      refine held_one 14 rfl rfl (by kernel_rfl) ?_
      refine wp_app_ops (.tmp 12) (.tmp 25) rfl w.heap.size wr.heap.size _ _ (opsOf (ps.take k)) [(1, q, xs)] cells _ dvs _ rfl HO6.out rfl HX6.out (by omega) (by omega) Nat.one_pos (by rw [HL.out]; show k + 1 ≤ _; omega) Hfr.out ?_
      rintro v' w8 ⟨g8, cp8, rfl⟩ ⟨cells8, dvs8, ho8⟩ hc8 hk8
      rw [HL.out]
      have HC8 : Hid (Chg 0 0 w w8) := HC6.out.step hc8 (by omega)
      have HS8 : Hid ((fun w' : World => w'.cell? ⟨b, off + k * 2, none⟩ = some (.int .i64 q) ∧ w'.cell? ⟨b, off + k * 2 + 1, none⟩ = some (.slice dao xs.length dcap)) w8) := ⟨hc8.cell HS6.out.1 (by omega), hc8.cell HS6.out.2 (by omega)⟩
      have HO8 : Hid (OwnOx w8 w.heap.size 44 5 (.slice (some ⟨g8, 0, none⟩) (k + 1) cp8) (opsOf (ps.take (k + 1))) cells8 dvs8) := by
        rw [HT.out]
        rw [HL.out] at ho8
        exact ho8
      clear ho8 hc8 hk8 HC6 HO6 HX6 HS6 Hfr HS5 HO
      refine ⟨HS8.out, ?_⟩
      go_simp
      refine held_take 15 (.slice (some ⟨g8, 0, none⟩) (k + 1) cp8) rfl (by kernel_rfl) (by kernel_rfl) (by kernel_rfl) (fun _ _ _ h => h) (.inl ⟨by kernel_rfl, fun w' hw' => by go_simp⟩) HS8.out ?_
      go_simp
      refine held_done (by kernel_rfl) (NoPanic.normal ?_)
      go_wp2
      go_roundw
      case rel => exact ⟨k + 1, g8, cp8, by omega, by go_num, rfl, ⟨_, _, HO8.out⟩, HC8.out⟩
      case measure => simp [intOf]; omega
    · obtain rfl : k = ps.length := by omega
      have HR : Hid (∃ cells dvs, OwnOx wr w.heap.size 44 5 (.slice (some ⟨g, 0, none⟩) ps.length cp) (opsOf ps) cells dvs) := by
        rw [List.take_length] at ho
        exact ⟨_, _, ho⟩
      clear ho HO
      go_wp2
      go_ret
      exact ⟨_, rfl, HR.out, HC.out⟩

set_option maxRecDepth 20000 in
set_option maxHeartbeats 1000000 in
theorem l5Writes_none (w : World) (ao : Option Addr) (cap : Nat) :
    Calls Tryz.prog 16 #[.slice ao 0 cap] w fun e w' => ∃ v, e = .returned v ∧ (∃ cells dvs, OwnOx w' w.heap.size 44 5 v [] cells dvs) ∧ Chg 0 0 w w' := by
  have HO0 : Hid (OwnOx (w.alloc (.cells #[] 44)) w.heap.size 44 5 (.slice (some ⟨w.heap.size, 0, none⟩) 0 0) [] [] (fun _ => .slice none 0 0)) := OwnOx.nil w _ (Nat.le_refl _)
  have HC0 : Hid (Chg 0 0 w (w.alloc (.cells #[] 44))) := Chg.alloc (Chg.refl 0 0 w) _
  go_enter Tryz.func16, Tryz.ntmps16
  go_wp2
  go_loopw [3, 4] (fun o x wr => x = .int .i64 0 ∧ o = .slice (some ⟨w.heap.size, 0, none⟩) 0 0 ∧ wr = w.alloc (.cells #[] 44)) (fun _ _ _ => 0)
  case atStart => exact ⟨rfl, rfl, rfl⟩
  case round =>
    obtain ⟨rfl, rfl, rfl⟩ := hrel
    go_wp2
    go_ret
    exact ⟨_, rfl, ⟨_, _, HO0.out⟩, HC0.out⟩

theorem l5Writes_calls (w : World) {lo hi : Nat} {a : Value} {ps : List Wr} (hl : cnt ps ≤ 1048576) (h1 : PView w lo hi a ps) :
    Calls Tryz.prog 16 #[a] w fun e w' => ∃ v, e = .returned v ∧ (∃ cells dvs, OwnOx w' w.heap.size 44 5 v (opsOf ps) cells dvs) ∧ Chg 0 0 w w' := by
  obtain ⟨ao, cap, rfl, _, _, h1⟩ := h1
  rcases h1 with rfl | ⟨x, off, rfl, _, _, h1⟩
  · exact l5Writes_none w ao cap
  · exact l5Writes_some w ps lo hi x off cap hl h1

end Go.Proofs.YtfdbmhaapembjaaGreatDoor
