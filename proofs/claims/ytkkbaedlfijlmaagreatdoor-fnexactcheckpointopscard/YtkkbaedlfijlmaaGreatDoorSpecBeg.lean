/- Several short texts in one: SpecWrites, ViewStr, Byt, StrInj, L2Same, Mg, SpecBeg. -/
import Derived.Test.YtkkbaedlfijlmaaGreatDoorOpsNil
import Derived.Test.YtkkbaedlfijlmaaGreatDoorWeak
import Derived.Deep.DeepCutAuto
import Derived.Great.BuildSlice
import Derived.Test.YtkkbaedlfijlmaaGreatDoorRows
import Derived.Test.YtkkbaedlfijlmaaGreatDoorMem
import Derived.Laws.BytesArg
import Derived.Lib.Bytes
import Derived.Deep.RegionWith
namespace Go.Proofs.YtkkbaedlfijlmaaGreatDoor
open Go.RowKit

/-- Homes as operations. -/
def opsOf (ps : List Wr) : List Opx := ps.map fun p => (1, p.1, p.2)

theorem opsOf_length (ps : List Wr) : (opsOf ps).length = ps.length := by simp [opsOf]

theorem opsOf_take (ps : List Wr) (k : Nat) (h : k < ps.length) : opsOf (ps.take (k + 1)) = opsOf (ps.take k) ++ [(1, (ps.getD k (0, [])).1, (ps.getD k (0, [])).2)] := by
  unfold opsOf
  rw [List.take_succ_eq_append_getElem h, List.map_append]
  simp [List.getD_eq_getElem?_getD, h]

theorem cnt_data {ps : List Wr} {i : Nat} (h : i < ps.length) : (ps.getD i (0, [])).2.length + 1 ≤ cnt ps := by
  have h1 := cnt_take_succ ps i h
  have h2 := cnt_take_le ps (i + 1)
  omega

set_option maxRecDepth 20000 in
set_option maxHeartbeats 2000000 in
theorem l5Writes_some (w : World) (ps : List Wr) (lo hi b off cap : Nat) (hl : cnt ps ≤ 1048576)
    (h1 : ∀ i, i < ps.length → ∃ dv, w.cell? ⟨b, off + i * 2, none⟩ = some (.int .i64 (ps.getD i (0, [])).1) ∧ w.cell? ⟨b, off + i * 2 + 1, none⟩ = some dv ∧ View w lo hi .u8 dv (ps.getD i (0, [])).2) :
    Calls Tryz.prog 16 #[.slice (some ⟨b, off, none⟩) ps.length cap] w fun e w' => ∃ v, e = .returned v ∧ (∃ cells dvs, OwnOx w' w.heap.size 44 5 v (opsOf ps) cells dvs) ∧ Chg 0 0 w w' := by
  have hlp := cnt_ge ps
  have HO0 : Hid (OwnOx (w.alloc (.cells #[] 44)) w.heap.size 44 5 (.slice (some ⟨w.heap.size, 0, none⟩) 0 0) [] [] (fun _ => .slice none 0 0)) := OwnOx.nil w _ (Nat.le_refl _)
  have C0 : Chg 0 0 w (w.alloc (.cells #[] 44)) := Chg.alloc (Chg.refl 0 0 w) _
  go_enter Tryz.func16, Tryz.ntmps16
  go_wp2
  go_loopw [3, 4] (fun o x wr => ∃ (k g cp : Nat), k ≤ ps.length ∧ x = .int .i64 k ∧ o = .slice (some ⟨g, 0, none⟩) k cp ∧ (∃ cells dvs, OwnOx wr w.heap.size 44 5 (.slice (some ⟨g, 0, none⟩) k cp) (opsOf (ps.take k)) cells dvs) ∧ Chg 0 0 w wr) (fun _ x _ => ps.length - (intOf x).toNat)
  case atStart => exact ⟨0, _, _, Nat.zero_le _, rfl, rfl, ⟨_, _, HO0.out⟩, C0⟩
  case round =>
    obtain ⟨k, g, cp, hk, rfl, rfl, ⟨cells, dvs, ho⟩, hch⟩ := hrel
    have HC : Hid (Chg 0 0 w wr) := hch
    have HO : Hid (OwnOx wr w.heap.size 44 5 (.slice (some ⟨g, 0, none⟩) k cp) (opsOf (ps.take k)) cells dvs) := ho
    have sz := hch.size
    by_cases hlt : k < ps.length
    · have hi' : (k : Int) < (ps.length : Int) := by omega
      obtain ⟨dv, c0, c1, vw⟩ := h1 k hlt
      have HT : Hid (opsOf (ps.take (k + 1)) = opsOf (ps.take k) ++ [(1, (ps.getD k (0, [])).1, (ps.getD k (0, [])).2)]) := opsOf_take ps k hlt
      have HL : Hid ((opsOf (ps.take k)).length = k) := by show _ = _; rw [opsOf_length, List.length_take]; omega
      have hxl : (ps.getD k (0, [])).2.length ≤ 1048576 := by have := cnt_data hlt; omega
      generalize ps.getD k (0, []) = p at *
      obtain ⟨q, xs⟩ := p
      simp only at c0 c1 vw hxl
      have VX : Hid (View wr.drew lo hi .u8 dv xs) := (vw.chg hch (by omega)).chg (Chg.drew (Chg.refl 0 0 wr)) (by omega)
      obtain ⟨dao, dcap, rfl, _, _, _⟩ := vw
      have HS : Hid ((fun w' : World => w'.cell? ⟨b, off + k * 2, none⟩ = some (.int .i64 q) ∧ w'.cell? ⟨b, off + k * 2 + 1, none⟩ = some (.slice dao xs.length dcap)) wr.drew) := ⟨hch.cell c0 (by omega), hch.cell c1 (by omega)⟩
      have hbw : b < w.heap.size := lt_of_cell c0
      clear c0 c1 ho hch h1 HO0 C0
      go_wp2
      refine held_region (fun w' : World => w'.cell? ⟨b, off + k * 2, none⟩ = some (.int .i64 q) ∧ w'.cell? ⟨b, off + k * 2 + 1, none⟩ = some (.slice dao xs.length dcap)) (by kernel_rfl) ?_
      refine held_take 0 (.slice (some ⟨g, 0, none⟩) k cp) rfl (by kernel_rfl) (by kernel_rfl) (by kernel_rfl) (fun _ _ _ h => h) (.inl ⟨by kernel_rfl, fun w' hw' => by go_simp⟩) HS.out ?_
      go_simp
      refine held_take 1 (.slice (some ⟨b, off, none⟩) ps.length cap) rfl (by kernel_rfl) (by kernel_rfl) (by kernel_rfl) (fun _ _ _ h => h) (.inl ⟨by kernel_rfl, fun w' hw' => by go_simp⟩) HS.out ?_
      go_simp
      refine held_take 2 (.int .i64 (k : Int)) rfl (by kernel_rfl) (by kernel_rfl) (by kernel_rfl) (fun _ _ _ h => h) (.inl ⟨by kernel_rfl, fun w' hw' => by go_simp⟩) HS.out ?_
      go_simp
      refine held_take 3 (.pointer (some ⟨b, off + k * 2, none⟩)) rfl (by kernel_rfl) (by kernel_rfl) (by kernel_rfl) (fun _ _ _ h => h) (.inl ⟨by kernel_rfl, fun w' hw' => by go_simp⟩) HS.out ?_
      go_simp
      refine held_take 4 (.pointer (some ⟨b, off + k * 2, none⟩)) rfl (by kernel_rfl) (by kernel_rfl) (by kernel_rfl) (fun _ _ _ h => h) (.inl ⟨by kernel_rfl, fun w' hw' => by go_simp⟩) HS.out ?_
      go_simp
      refine held_take 5 (.int .i64 q) rfl (by kernel_rfl) (by kernel_rfl) (by kernel_rfl) (fun _ _ _ h => h) (.inl ⟨by kernel_rfl, fun w' hw' => by have h4 := hw'.1; go_simp⟩) HS.out ?_
      go_simp
      refine held_take 6 (.slice (some ⟨b, off, none⟩) ps.length cap) rfl (by kernel_rfl) (by kernel_rfl) (by kernel_rfl) (fun _ _ _ h => h) (.inl ⟨by kernel_rfl, fun w' hw' => by go_simp⟩) HS.out ?_
      go_simp
      refine held_take 7 (.int .i64 (k : Int)) rfl (by kernel_rfl) (by kernel_rfl) (by kernel_rfl) (fun _ _ _ h => h) (.inl ⟨by kernel_rfl, fun w' hw' => by go_simp⟩) HS.out ?_
      go_simp
      refine held_take 8 (.pointer (some ⟨b, off + k * 2, none⟩)) rfl (by kernel_rfl) (by kernel_rfl) (by kernel_rfl) (fun _ _ _ h => h) (.inl ⟨by kernel_rfl, fun w' hw' => by go_simp⟩) HS.out ?_
      go_simp
      refine held_take 9 (.pointer (some ⟨b, off + k * 2 + 1, none⟩)) rfl (by kernel_rfl) (by kernel_rfl) (by kernel_rfl) (fun _ _ _ h => h) (.inl ⟨by kernel_rfl, fun w' hw' => by go_simp⟩) HS.out ?_
      go_simp
      refine held_take 10 (.slice dao xs.length dcap) rfl (by kernel_rfl) (by kernel_rfl) (by kernel_rfl) (fun _ _ _ h => h) (.inl ⟨by kernel_rfl, fun w' hw' => by have h4 := hw'.2; go_simp⟩) HS.out ?_
      go_simp
      refine held_one 11 rfl rfl (by kernel_rfl) ?_
      have hds : wr.drew.heap.size = wr.heap.size := rfl
      refine wp_enter 29 #[.slice dao xs.length dcap] (by first | kernel_rfl | go_simp) (l1Copy_calls wr.drew hxl VX.out) ?_
      rintro e w5 ⟨v5, rfl, ho5, hc5⟩
      obtain ⟨va, vl, vc, rfl⟩ := row_slice ho5
      refine ⟨_, rfl, ?_⟩
      have HS5 : Hid ((fun w' : World => w'.cell? ⟨b, off + k * 2, none⟩ = some (.int .i64 q) ∧ w'.cell? ⟨b, off + k * 2 + 1, none⟩ = some (.slice dao xs.length dcap)) w5) := ⟨hc5.cell HS.out.1 (by omega), hc5.cell HS.out.2 (by omega)⟩
      have HC5 : Hid (Chg 0 0 wr w5) := (Chg.drew (Chg.refl 0 0 wr)).trans hc5
      have s5 := hc5.size
      rw [hds] at s5 ho5
      have HO5 : Hid (OwnB w5 wr.heap.size 5 (.slice va vl vc) xs) := ho5
      clear HS ho5 hc5
      refine ⟨HS5.out, ?_⟩
      go_simp
      refine held_take 12 (.agg #[.int .i64 1, .int .i64 q, .slice va vl vc]) rfl (by kernel_rfl) (by kernel_rfl) (by kernel_rfl) (fun _ _ _ h => h) (.inl ⟨by kernel_rfl, fun w' hw' => by go_simp⟩) HS5.out ?_
      go_simp
      obtain ⟨ic, hic, hcz0, hcz1, hcz2⟩ := info_parts Tryz.infoOp
      refine held_one 13 rfl rfl (by kernel_rfl) ?_
      refine wp_buildSlice 26 44 1 #[(0, .tmp 24)] rfl #[.int .i64 1, .int .i64 q, .slice va vl vc] ic _ Tryz.underlying26 hic hcz0 (by rw [hcz1]; decide) (by rw [hcz1]; decide) (by rw [hcz1, Array.toList_map]; refine fill3 _ ?_ _ _ _; simp) ?_
      have X6 := oneOp_own w5 wr.heap.size 1 q (.slice va vl vc) xs (by omega) HO5.out
      have C6 : Chg 0 0 wr (w5.alloc (.cells #[.int .i64 1, .int .i64 q, .slice va vl vc] 44)) := HC5.out.alloc _
      have C6' : Chg 0 0 w5 (w5.alloc (.cells #[.int .i64 1, .int .i64 q, .slice va vl vc] 44)) := Chg.alloc (Chg.refl 0 0 w5) _
      have s6 : (w5.alloc (.cells #[.int .i64 1, .int .i64 q, .slice va vl vc] 44)).heap.size = w5.heap.size + 1 := by simp
      generalize w5.alloc (.cells #[.int .i64 1, .int .i64 q, .slice va vl vc] 44) = w6 at *
      have HS6 : Hid ((fun w' : World => w'.cell? ⟨b, off + k * 2, none⟩ = some (.int .i64 q) ∧ w'.cell? ⟨b, off + k * 2 + 1, none⟩ = some (.slice dao xs.length dcap)) w6) := ⟨C6'.cell HS5.out.1 (by omega), C6'.cell HS5.out.2 (by omega)⟩
      refine ⟨HS6.out, ?_⟩
      have O6 := HO.out.chg C6 (by intro g' _; omega) (by intro i g' _ _; omega)
      have hfr := more_apart (os := (opsOf (ps.take k))) (dvs := dvs) (nv := .slice va vl vc) (N := wr.heap.size) (fun i g' hi hg => ((HO.out.data i hi).lt g' hg).2) (fun g' hg => (HO5.out.lt g' hg).1)
      have HX6 : Hid (OwnOx w6 wr.heap.size 44 5 (.slice (some ⟨w5.heap.size, 0, none⟩) 1 1) [(1, q, xs)] [.int .i64 1, .int .i64 q, .slice va vl vc] (fun _ => .slice va vl vc)) := X6
      have HO6 : Hid (OwnOx w6 w.heap.size 44 5 (.slice (some ⟨g, 0, none⟩) k cp) (opsOf (ps.take k)) cells dvs) := O6
      have HC6 : Hid (Chg 0 0 w w6) := HC.out.trans C6
      have Hfr : Hid (∀ (i j : Nat) (g : Nat), i < (opsOf (ps.take k)).length → j < 1 → (dvs i).ownBlock = some g → (Value.slice va vl vc).ownBlock ≠ some g) := hfr
      clear X6 C6 C6' O6 hfr HC5 HO5
      go_simp
      refine held_one 14 rfl rfl (by kernel_rfl) ?_
      refine wp_app_ops (.tmp 12) (.tmp 25) rfl w.heap.size wr.heap.size _ _ (opsOf (ps.take k)) [(1, q, xs)] cells _ dvs _ rfl HO6.out rfl HX6.out (by omega) (by omega) Nat.one_pos (by rw [HL.out]; show k + 1 ≤ _; omega) Hfr.out ?_
      rintro v' w8 ⟨g8, cp8, rfl⟩ ⟨cells8, dvs8, ho8⟩ hc8 hk8
      rw [HL.out]
      have HC8 : Hid (Chg 0 0 w w8) := HC6.out.step hc8 (by omega)
      have HS8 : Hid ((fun w' : World => w'.cell? ⟨b, off + k * 2, none⟩ = some (.int .i64 q) ∧ w'.cell? ⟨b, off + k * 2 + 1, none⟩ = some (.slice dao xs.length dcap)) w8) := ⟨hc8.cell HS6.out.1 (by omega), hc8.cell HS6.out.2 (by omega)⟩
      have HO8 : Hid (OwnOx w8 w.heap.size 44 5 (.slice (some ⟨g8, 0, none⟩) (k + 1) cp8) (opsOf (ps.take (k + 1))) cells8 dvs8) := by
        rw [HT.out]
        rw [HL.out] at ho8
        exact ho8
      clear ho8 hc8 hk8 HC6 HO6 HX6 HS6 Hfr HS5 HO
      refine ⟨HS8.out, ?_⟩
      go_simp
      refine held_take 15 (.slice (some ⟨g8, 0, none⟩) (k + 1) cp8) rfl (by kernel_rfl) (by kernel_rfl) (by kernel_rfl) (fun _ _ _ h => h) (.inl ⟨by kernel_rfl, fun w' hw' => by go_simp⟩) HS8.out ?_
      go_simp
      refine held_done (by kernel_rfl) (NoPanic.normal ?_)
      go_wp2
      go_roundw
      case rel => exact ⟨k + 1, g8, cp8, by omega, by go_num, rfl, ⟨_, _, HO8.out⟩, HC8.out⟩
      case measure => simp [intOf]; omega
    · obtain rfl : k = ps.length := by omega
      have HR : Hid (∃ cells dvs, OwnOx wr w.heap.size 44 5 (.slice (some ⟨g, 0, none⟩) ps.length cp) (opsOf ps) cells dvs) := by
        rw [List.take_length] at ho
        exact ⟨_, _, ho⟩
      clear ho HO
      go_wp2
      go_ret
      exact ⟨_, rfl, HR.out, HC.out⟩

set_option maxRecDepth 20000 in
set_option maxHeartbeats 1000000 in
theorem l5Writes_none (w : World) (ao : Option Addr) (cap : Nat) :
    Calls Tryz.prog 16 #[.slice ao 0 cap] w fun e w' => ∃ v, e = .returned v ∧ (∃ cells dvs, OwnOx w' w.heap.size 44 5 v [] cells dvs) ∧ Chg 0 0 w w' := by
  have HO0 : Hid (OwnOx (w.alloc (.cells #[] 44)) w.heap.size 44 5 (.slice (some ⟨w.heap.size, 0, none⟩) 0 0) [] [] (fun _ => .slice none 0 0)) := OwnOx.nil w _ (Nat.le_refl _)
  have HC0 : Hid (Chg 0 0 w (w.alloc (.cells #[] 44))) := Chg.alloc (Chg.refl 0 0 w) _
  go_enter Tryz.func16, Tryz.ntmps16
  go_wp2
  go_loopw [3, 4] (fun o x wr => x = .int .i64 0 ∧ o = .slice (some ⟨w.heap.size, 0, none⟩) 0 0 ∧ wr = w.alloc (.cells #[] 44)) (fun _ _ _ => 0)
  case atStart => exact ⟨rfl, rfl, rfl⟩
  case round =>
    obtain ⟨rfl, rfl, rfl⟩ := hrel
    go_wp2
    go_ret
    exact ⟨_, rfl, ⟨_, _, HO0.out⟩, HC0.out⟩

theorem l5Writes_calls (w : World) {lo hi : Nat} {a : Value} {ps : List Wr} (hl : cnt ps ≤ 1048576) (h1 : PView w lo hi a ps) :
    Calls Tryz.prog 16 #[a] w fun e w' => ∃ v, e = .returned v ∧ (∃ cells dvs, OwnOx w' w.heap.size 44 5 v (opsOf ps) cells dvs) ∧ Chg 0 0 w w' := by
  obtain ⟨ao, cap, rfl, _, _, h1⟩ := h1
  rcases h1 with rfl | ⟨x, off, rfl, _, _, h1⟩
  · exact l5Writes_none w ao cap
  · exact l5Writes_some w ps lo hi x off cap hl h1

end Go.Proofs.YtkkbaedlfijlmaaGreatDoor

namespace Go.Proofs.YtkkbaedlfijlmaaGreatDoor
open Go.RowKit

/-- Bytes as a string. -/
theorem View.str {w : World} {lo hi : Nat} {v : Value} {xs : List Int} (h : View w lo hi .u8 v xs) : (convert 38 9 v).run Tryz.prog w = .ok (.string (strOfNums xs)) w := by
  obtain ⟨ao, cap, rfl, _, _, hcell⟩ := h
  cases ao with
  | none =>
    rcases hcell with rfl | ⟨b, off, e, _⟩
    · exact run_convert_bytes_nil w 38 5 Tryz.underlying38 Tryz.underlying5 0 cap 9 Tryz.underlying9
    · cases e
  | some a =>
    have hl : (loadCells a xs.length).run Tryz.prog w = .ok (xs.map (Value.int .u8)).toArray w := by
      have := run_loadCells_list (P := Tryz.prog) w a (xs.map (Value.int .u8)) (fun j v hj => by
        have hjl : j < xs.length := by have := (List.getElem?_eq_some_iff.1 hj).1; simpa using this
        rcases hcell with rfl | ⟨b, off, e, _, _, hc⟩
        · simp at hjl
        · cases e
          rw [Go.WideShapes.add_plain, hc j hjl, ← hj]
          simp [List.getD_eq_getElem?_getD, hjl])
      simpa using this
    rw [run_convert_bytes_string w 38 9 5 _ _ _ Tryz.underlying38 Tryz.underlying5 Tryz.underlying9, run_bytesToString w _ _ _ xs hl, foldl_push_bytes]
    simp [strOfNums, ByteArray.empty, ByteArray.emptyWithCapacity]
    rfl

theorem View.take {w : World} {lo hi : Nat} {k : IntKind} {ao : Option Addr} {n cap : Nat} {xs : List Int} (h : View w lo hi k (.slice ao n cap) xs) (m : Nat) (hm : m ≤ xs.length) : View w lo hi k (.slice ao m cap) (xs.take m) := by
  obtain ⟨ao', cap', e, hl, ⟨hc, hc'⟩, h⟩ := h
  cases e
  have hlen : (xs.take m).length = m := by rw [List.length_take]; omega
  refine ⟨ao, cap, by rw [hlen], by omega, ⟨by omega, hc'⟩, ?_⟩
  rcases h with h | ⟨b, off, ha, h1, h2, h3⟩
  · left; rw [h]; simp
  · refine Or.inr ⟨b, off, ha, h1, h2, fun i hi => ?_⟩
    rw [hlen] at hi
    have e : (xs.take m).getD i 0 = xs.getD i 0 := by
      simp only [List.getD_eq_getElem?_getD, List.getElem?_take]
      rw [if_pos hi]
    rw [e]
    exact h3 i (by omega)

end Go.Proofs.YtkkbaedlfijlmaaGreatDoor

namespace Go.Proofs.YtkkbaedlfijlmaaGreatDoor
open Go.RowKit

def Byt (xs : List Int) : Prop := ∀ x ∈ xs, 0 ≤ x ∧ x < 256

theorem Byt.getD {xs : List Int} (h : Byt xs) (k : Nat) : 0 ≤ xs.getD k 0 ∧ xs.getD k 0 < 256 := by
  rw [List.getD_eq_getElem?_getD]
  by_cases hk : k < xs.length
  · rw [List.getElem?_eq_getElem hk]; exact h _ (List.getElem_mem hk)
  · rw [List.getElem?_eq_none (by omega)]; simp

theorem byt_of_wf {xs : List Int} (h : ∀ x ∈ xs, (Lit.int .u8 x).wf = true) : Byt xs := by
  intro x hx
  have h1 := h x hx
  have h2 : IntKind.u8.min ≤ x ∧ x ≤ IntKind.u8.max := by simpa [Lit.wf] using h1
  have e1 : IntKind.u8.min = 0 := by decide
  have e2 : IntKind.u8.max = 255 := by decide
  omega

theorem Byt.take {xs : List Int} (h : Byt xs) (n : Nat) : Byt (xs.take n) := fun x hx => h x (List.mem_of_mem_take hx)
theorem Byt.drop {xs : List Int} (h : Byt xs) (n : Nat) : Byt (xs.drop n) := fun x hx => h x (List.mem_of_mem_drop hx)

end Go.Proofs.YtkkbaedlfijlmaaGreatDoor

namespace Go.Proofs.YtkkbaedlfijlmaaGreatDoor
open Go.RowKit

theorem str_inj {xs ys : List Int} (hx : Byt xs) (hy : Byt ys) (h1 : (xs.map fun n => UInt8.ofNat n.toNat) = ys.map fun n => UInt8.ofNat n.toNat) : xs = ys := by
  induction xs generalizing ys with
  | nil => cases ys with
    | nil => rfl
    | cons y r => simp at h1
  | cons x r ih =>
    cases ys with
    | nil => simp at h1
    | cons y s =>
      simp only [List.map_cons, List.cons.injEq] at h1
      have hx0 := hx x (by simp)
      have hy0 := hy y (by simp)
      have e : x = y := by
        have := congrArg UInt8.toNat h1.1
        simp only [UInt8.toNat_ofNat'] at this
        omega
      rw [e, ih (fun a ha => hx a (by simp [ha])) (fun a ha => hy a (by simp [ha])) h1.2]

theorem str_beq {xs ys : List Int} (hx : Byt xs) (hy : Byt ys) : ((strOfNums xs).toList == (strOfNums ys).toList) = decide (xs = ys) := by
  rw [Go.Lib.strOfNums_toList, Go.Lib.strOfNums_toList]
  by_cases h : xs = ys
  · subst h; rw [decide_eq_true rfl]; exact beq_self_eq_true _
  · rw [decide_eq_false h, beq_eq_false_iff_ne]
    exact fun e => h (str_inj hx hy e)

end Go.Proofs.YtkkbaedlfijlmaaGreatDoor

namespace Go.Proofs.YtkkbaedlfijlmaaGreatDoor
open Go.RowKit

end Go.Proofs.YtkkbaedlfijlmaaGreatDoor

namespace Go.Proofs.YtkkbaedlfijlmaaGreatDoor
open Go.RowKit

/-- The magic. -/
def mg : List Int := [106, 108, 111, 103]

theorem byt_mg : Byt mg := by intro x hx; simp [mg] at hx; omega

end Go.Proofs.YtkkbaedlfijlmaaGreatDoor

namespace Go.Proofs.YtkkbaedlfijlmaaGreatDoor
open Go.RowKit

set_option maxRecDepth 20000 in
set_option maxHeartbeats 400000 in
theorem l3Magic_calls (w : World) : Calls Tryz.prog 45 #[] w fun e w' => e = .returned (.slice (some ⟨w.heap.size, 0, none⟩) 4 4) ∧ OwnB w' w.heap.size 5 (.slice (some ⟨w.heap.size, 0, none⟩) 4 4) mg ∧ Chg 0 0 w w' := by
  have HO : Hid (OwnB (w.alloc (.cells #[.int .u8 106, .int .u8 108, .int .u8 111, .int .u8 103] 5)) w.heap.size 5 (.slice (some ⟨w.heap.size, 0, none⟩) 4 4) mg) := by
    show OwnB _ _ _ _ _
    have := World.ownsRow_lit (base := w.heap.size) (e := 5) (size := 1) w #[.int .u8 106, .int .u8 108, .int .u8 111, .int .u8 103] 4 (Nat.le_refl _) (by unfold maxLen; omega) rfl
    simpa [OwnB, mg] using this
  have HC : Hid (Chg 0 0 w (w.alloc (.cells #[.int .u8 106, .int .u8 108, .int .u8 111, .int .u8 103] 5))) := Chg.alloc (Chg.refl 0 0 w) _
  go_enter Tryz.func45, Tryz.ntmps45
  go_wp2
  go_ret
  exact ⟨rfl, HO.out, HC.out⟩

/-- Do bytes begin with the magic? -/
def beg (xs : List Int) : Bool := decide (4 ≤ xs.length) && decide (xs.take 4 = mg)

end Go.Proofs.YtkkbaedlfijlmaaGreatDoor
