/- DecodeEntry of the program. -/
import Derived.Test.YtallhelhmpbpcaaEntRead
namespace Go.Proofs.Ytallhelhmpbpcaa
open Go.RowKit

theorem eT_eS {xs : List Int} (h : entG xs = true) : eT xs = eS xs := by
  unfold entG at h
  simp only [Bool.and_eq_true, decide_eq_true_eq] at h
  unfold eS eT lenN
  rw [Nat.min_eq_left (by omega)]

theorem three_both {w : World} {s : Nat} {a b c : Value} {t : TypeId} (h : w.heap[s]? = some (.cells #[a, b, c] t (0, 0))) :
    (w.cell? ⟨s, 0, none⟩ = some a ∧ w.cell? ⟨s, 1, none⟩ = some b ∧ w.cell? ⟨s, 2, none⟩ = some c) ∧ w.frozen? ⟨s, 0, none⟩ = false ∧ w.frozen? ⟨s, 1, none⟩ = false ∧ w.frozen? ⟨s, 2, none⟩ = false := by
  simp [World.cell?, World.frozen?, h]

set_option maxRecDepth 20000 in
set_option maxHeartbeats 1000000 in
theorem decEntry_some (w : World) (xs : List Int) (b off cap : Nat) (hB : Byt xs) (hl : xs.length = 16)
    (h1 : ∀ i, i < xs.length → w.cell? ⟨b, off + i, none⟩ = some (.int .u8 (xs.getD i 0))) :
    Calls Try.prog 6 #[.slice (some ⟨b, off, none⟩) xs.length cap] w fun e w' => e = .returned (decEnt xs) ∧ Chg 0 0 w w' := by
  obtain ⟨L, hL⟩ : ∃ L, L = xs.map (Value.int .u8) := ⟨_, rfl⟩
  have hLl : L.length = 16 := by rw [hL, List.length_map]; exact hl
  have HA : Hid (Chg 0 0 w (w.alloc (.cells #[.bool false, .int .i64 0, .string ⟨#[]⟩] 26))) := Chg.alloc (Chg.refl 0 0 w) _
  have hR : (w.alloc (.cells #[.bool false, .int .i64 0, .string ⟨#[]⟩] 26)).rangeAt b off L := by
    intro j v hj
    have hjl : j < xs.length := by have := (List.getElem?_eq_some_iff.1 hj).1; rw [hLl] at this; omega
    rw [HA.out.cell (h1 j hjl) (by omega), ← hj, hL]
    simp [List.getD_eq_getElem?_getD, hjl]
  have hiL : (Try.prog.info? 37).map (·.size) = some L.length := by rw [hLl]; exact Try.sizeERec
  have hN := readEntry_calls (w.alloc (.cells #[.bool false, .int .i64 0, .string ⟨#[]⟩] 26)) xs hl hB
  rw [← hL] at hN
  have HR : Hid ((w.alloc (.cells #[.bool false, .int .i64 0, .string ⟨#[]⟩] 26)).rangeAt b off L) := hR
  have HB0 : Hid ((w.alloc (.cells #[.bool false, .int .i64 0, .string ⟨#[]⟩] 26)).heap[w.heap.size]? = some (.cells #[.bool false, .int .i64 0, .string ⟨#[]⟩] 26 (0, 0))) := heap_new w _
  have har : ∀ x : World, (Instr.arrayAt 37 (.slice (some ⟨b, off, none⟩) 16 cap)).run Try.prog x = .ok (.pointer (some ⟨b, off, none⟩)) x := fun x => by simp [Instr.arrayAt, run_underlying Try.underlying37]
  rw [hl]
  clear hL hLl hR h1 hl hB
  cases hg : entG xs with
  | true =>
    rw [hg, if_pos rfl, eT_eS hg] at hN
    have HD : Hid (decEnt xs = erV true (eQ xs) (eS xs)) := by show _ = _; unfold decEnt; rw [if_pos hg]
    clear hg
    generalize eQ xs = qq at *
    generalize eS xs = ss at *
    go_enter Try.func6, Try.ntmps6
    go_wp2_with (first
      | (refine wpList_load_mid rfl 37 (.tmp 11) rfl b off rfl L _ HR.out Try.underlying37 rfl hiL ?_)
      | (go_at_call 12; refine hN.mono ?_; clear hN; rintro e w2 ⟨rfl, hc2⟩; have hb2 := (hc2.block _ (Array.getElem?_eq_some_iff.1 HB0.out).1 (by omega)).trans HB0.out; have hl2 := (Array.getElem?_eq_some_iff.1 hb2).1; have C7 : Chg 0 0 w2 (w2.alloc (.cells (entA qq ss) 24)) := Chg.alloc (Chg.refl 0 0 w2) _; have hb3 := (C7.block _ hl2 (by omega)).trans hb2; obtain ⟨⟨k0, k1, k2⟩, f0, f1, f2⟩ := three_both hb2; clear hb3; obtain ⟨e0, e1⟩ := ent_cells (heap_new w2 (.cells (entA qq ss) 24))))
    exact bodyPost_ret (v := erV true qq ss) (by simp [results, Try.results6, go_sem, *]) rfl ⟨by rw [HD.out], by first | (refine Chg.alloc (Chg.setCell (Chg.setCell (Chg.setCell (HA.out.trans hc2) ?_ _) ?_ _) ?_ _) _ <;> exact Or.inr (Nat.le_refl _)) | (refine Chg.setCell (Chg.setCell (Chg.setCell ((HA.out.trans hc2).trans C7) ?_ _) ?_ _) ?_ _ <;> exact Or.inr (Nat.le_refl _))⟩
  | false =>
    rw [hg, if_neg (by simp)] at hN
    have HD : Hid (decEnt xs = erV false 0 ⟨#[]⟩) := by show _ = _; unfold decEnt; rw [if_neg (by rw [hg]; simp)]
    clear hg
    go_enter Try.func6, Try.ntmps6
    go_wp2_with (first
      | (refine wpList_load_mid rfl 37 (.tmp 11) rfl b off rfl L _ HR.out Try.underlying37 rfl hiL ?_)
      | (go_at_call 12; refine hN.mono ?_; clear hN; rintro e w2 ⟨rfl, hc2⟩; have hb2 := (hc2.block _ (Array.getElem?_eq_some_iff.1 HB0.out).1 (by omega)).trans HB0.out; have hl2 := (Array.getElem?_eq_some_iff.1 hb2).1; have C7 : Chg 0 0 w2 (w2.alloc (.cells (entA 0 ⟨#[]⟩) 24)) := Chg.alloc (Chg.refl 0 0 w2) _; have hb3 := (C7.block _ hl2 (by omega)).trans hb2; obtain ⟨⟨k0, k1, k2⟩, f0, f1, f2⟩ := three_both hb2; clear hb3))
    exact bodyPost_ret (v := erV false 0 ⟨#[]⟩) (by simp [results, Try.results6, go_sem, *]) rfl ⟨by rw [HD.out], by first | (refine Chg.alloc (Chg.setCell (Chg.setCell (Chg.setCell (HA.out.trans hc2) ?_ _) ?_ _) ?_ _) _ <;> exact Or.inr (Nat.le_refl _)) | (refine Chg.setCell (Chg.setCell (Chg.setCell ((HA.out.trans hc2).trans C7) ?_ _) ?_ _) ?_ _ <;> exact Or.inr (Nat.le_refl _))⟩

set_option maxRecDepth 20000 in
set_option maxHeartbeats 400000 in
theorem decEntry_other (w : World) (n : Nat) (ao : Option Addr) (cap : Nat) (hn : ¬ n = 16) :
    Calls Try.prog 6 #[.slice ao n cap] w fun e w' => e = .returned (erV false 0 ⟨#[]⟩) ∧ Chg 0 0 w w' := by
  have HA : Hid (Chg 0 0 w (w.alloc (.cells #[.bool false, .int .i64 0, .string ⟨#[]⟩] 26))) := Chg.alloc (Chg.refl 0 0 w) _
  have hne : ((n : Int) != 16) = true := by rw [bne_iff_ne]; omega
  clear hn
  go_enter Try.func6, Try.ntmps6
  go_wp2
  exact bodyPost_ret (v := erV false 0 ⟨#[]⟩) (by simp [results, Try.results6, go_sem]) rfl ⟨rfl, by first | exact HA.out | (refine Chg.setCell (Chg.setCell (Chg.setCell HA.out ?_ _) ?_ _) ?_ _ <;> exact Or.inr (Nat.le_refl _))⟩

theorem implDecodeEntry_calls (w : World) {lo hi : Nat} {a : Value} {xs : List Int} (hv : View w lo hi .u8 a xs) (hB : Byt xs) :
    Calls Try.prog 6 #[a] w fun e w' => e = .returned (decEnt xs) ∧ Chg 0 0 w w' := by
  obtain ⟨ao, cap, rfl, _, _, h1⟩ := hv
  by_cases hn : xs.length = 16
  · rcases h1 with rfl | ⟨x, off, rfl, _, _, h1⟩
    · simp at hn
    · exact decEntry_some w xs x off cap hB hn h1
  · rw [show decEnt xs = erV false 0 ⟨#[]⟩ from by unfold decEnt entG; rw [decide_eq_false hn]; rfl]
    exact decEntry_other w xs.length ao cap hn

end Go.Proofs.Ytallhelhmpbpcaa
