/- EncodePointers of the program. -/
import Derived.Test.YtblhinmbcjfnmaaPtrSpec
import Derived.Test.YtblhinmbcjfnmaaEncPs
import Derived.Test.YtblhinmbcjfnmaaBlkImpl
import Derived.Test.YtblhinmbcjfnmaaBytesOf
namespace Go.Proofs.Ytblhinmbcjfnmaa
open Go.RowKit

def Z32 : List Value := List.replicate 32 (.int .i64 0)
theorem Z32_eq : (#[.int .i64 0, .int .i64 0, .int .i64 0, .int .i64 0, .int .i64 0, .int .i64 0, .int .i64 0, .int .i64 0, .int .i64 0, .int .i64 0, .int .i64 0, .int .i64 0, .int .i64 0, .int .i64 0, .int .i64 0, .int .i64 0, .int .i64 0, .int .i64 0, .int .i64 0, .int .i64 0, .int .i64 0, .int .i64 0, .int .i64 0, .int .i64 0, .int .i64 0, .int .i64 0, .int .i64 0, .int .i64 0, .int .i64 0, .int .i64 0, .int .i64 0, .int .i64 0] : Array Value) = Z32.toArray := by unfold Z32; rfl
theorem Z32_length : Z32.length = 32 := by unfold Z32; simp
theorem all_good (xs : List Int) : xs.all blkB = true ↔ ∀ x ∈ xs, 0 ≤ x ∧ x < 2048 := by
  rw [List.all_eq_true]
  exact ⟨fun h x hx => blkB_iff.1 (h x hx), fun h x hx => blkB_iff.2 (h x hx)⟩
theorem OwnB.nilv (w : World) (base : Nat) (e : TypeId) : OwnB w base e (.slice none 0 0) [] := World.ownsRow_nil w base e 1

set_option maxRecDepth 20000 in
set_option maxHeartbeats 1000000 in
theorem encPtr_some (w : World) (xs : List Int) (b off cap : Nat) (hl : xs.length = 32)
    (h1 : ∀ i, i < xs.length → w.cell? ⟨b, off + i, none⟩ = some (.int .i64 (xs.getD i 0))) :
    Calls Try.prog 6 #[.slice (some ⟨b, off, none⟩) xs.length cap] w fun e w' => ∃ v, e = .returned v ∧ OwnB w' w.heap.size 5 v (encP xs) ∧ Chg 0 0 w w' := by
  obtain ⟨L, hL⟩ : ∃ L, L = xs.map (Value.int .i64) := ⟨_, rfl⟩
  have hLl : L.length = 32 := by rw [hL, List.length_map]; exact hl
  have hR : w.rangeAt b off L := by
    intro j v hj
    have hjl : j < xs.length := by have := (List.getElem?_eq_some_iff.1 hj).1; rw [hLl] at this; omega
    rw [h1 j hjl, ← hj, hL]
    simp [List.getD_eq_getElem?_getD, hjl]
  have hiL : (Try.prog.info? 34).map (·.size) = some L.length := by rw [hLl]; kernel_rfl
  have HL1 : Hid (∀ v ∈ L, v.oneCell' = true) := by show ∀ v ∈ L, v.oneCell' = true; rw [hL]; exact ints_oneCell _ _
  have HLl : Hid (L.length = 32) := hLl
  have HL : Hid (L = xs.map (Value.int .i64)) := hL
  have HR : Hid (w.rangeAt b off L) := hR
  have HX : Hid (xs.length = 32) := hl
  rw [hl]
  clear hL hLl hR h1 hl
  have har : ∀ x : World, (Instr.arrayAt 34 (.slice (some ⟨b, off, none⟩) 32 cap)).run Try.prog x = .ok (.pointer (some ⟨b, off, none⟩)) x := fun x => by simp [Instr.arrayAt, run_underlying Try.underlying34]
  go_enter Try.func6, Try.ntmps6
  go_wp2_with (first
      | (refine wpList_load_mid rfl 34 (.tmp 8) rfl b off rfl L _ HR.out Try.underlying34 rfl hiL ?_)
      | (refine wpList_store_row rfl 34 (.tmp 3) (.tmp 9) rfl rfl w.heap.size rfl L Z32 34 rfl (by rw [← Z32_eq]; exact heap_new w _) (by rw [Z32_length]; exact HLl.out) hiL HL1.out ?_; intro wg hbg hcg))
  have HC1 : Hid (Chg 0 0 w wg) := (Chg.alloc (Chg.refl 0 0 w) _).step hcg (by omega)
  have HA : Hid (ArrC wg w.heap.size 34 L) := hbg
  have HR2 : Hid (wg.rangeAt w.heap.size 0 L) := HA.out.range
  have hN := areBlocks_calls wg xs w.heap.size 0 32 (by rw [HX.out]; omega) (fun i hi => by
      rw [Nat.zero_add]
      refine HA.out.cell i ?_
      rw [HL.out]
      simp [List.getD_eq_getElem?_getD, hi])
  rw [HX.out] at hN
  clear hbg hcg HR har
  refine hN.mono ?_
  rintro e w' ⟨rfl, rfl⟩
  clear hN
  cases hb : xs.all blkB with
  | true =>
    have hg := (all_good xs).1 hb
    have HE : Hid (encP xs = putPs xs) := by
      show _ = _
      unfold encP
      rw [if_pos ⟨HX.out, fun x hx => goodP_iff.2 (hg x hx)⟩]
      rfl
    have HG : Hid (∀ x ∈ xs, 0 ≤ x ∧ x < 2048) := hg
    clear hb hg
    go_wp2_with (first
      | (refine wpList_load_mid rfl 34 (.tmp 3) rfl w.heap.size 0 rfl L _ HR2.out Try.underlying34 rfl hiL ?_)
      | (go_at_call 16; rw [HL.out]; refine (encPsOf_calls w' xs HX.out HG.out).mono ?_; rintro e w2 ⟨rfl, hc2⟩)
      | (go_at_call 15; refine (bytesOf_calls w2 (putPs xs) (by rw [putPs_len HG.out, HX.out])).mono ?_; rintro e w3 ⟨g, rfl, ho3, hc3⟩))
    go_ret
    have hs2 := hc2.size
    have hs1 := HC1.out.size
    refine ⟨_, rfl, ?_, (HC1.out.trans hc2).trans hc3⟩
    rw [HE.out]
    exact OwnB.base ho3 (fun g' hg' => by have := (ho3.lt g' hg').1; omega)
  | false =>
    have HE : Hid (encP xs = []) := by
      show _ = _
      unfold encP
      rw [if_neg (fun h => by have := (all_good xs).2 (fun x hx => goodP_iff.1 (h.2 x hx)); rw [hb] at this; cases this)]
    clear hb
    go_wp2
    go_ret
    exact ⟨_, rfl, by rw [HE.out]; exact OwnB.nilv _ _ _, HC1.out⟩

set_option maxRecDepth 20000 in
set_option maxHeartbeats 400000 in
theorem encPtr_other (w : World) (n : Nat) (ao : Option Addr) (cap : Nat) (hn : ¬ n = 32) (_hl : n ≤ 1048576) :
    Calls Try.prog 6 #[.slice ao n cap] w fun e w' => ∃ v, e = .returned v ∧ OwnB w' w.heap.size 5 v [] ∧ Chg 0 0 w w' := by
  have hne : ((n : Int) != 32) = true := by simp; omega
  go_enter Try.func6, Try.ntmps6
  go_wp2
  go_ret
  exact ⟨_, rfl, OwnB.nilv _ _ _, Chg.refl _ _ _⟩

theorem implEncodePointers_calls (w : World) {lo hi : Nat} {a : Value} {xs : List Int} (hl : xs.length ≤ 1048576) (h1 : View w lo hi .i64 a xs) :
    Calls Try.prog 6 #[a] w fun e w' => ∃ v, e = .returned v ∧ OwnB w' w.heap.size 5 v (encP xs) ∧ Chg 0 0 w w' := by
  obtain ⟨ao, cap, rfl, _, _, h1⟩ := h1
  by_cases hn : xs.length = 32
  · rcases h1 with rfl | ⟨x, off, rfl, _, _, h1⟩
    · simp at hn
    · exact encPtr_some w xs x off cap hn h1
  · rw [show encP xs = [] from by unfold encP; rw [if_neg (fun h => hn h.1)]]
    exact encPtr_other w xs.length ao cap hn hl

end Go.Proofs.Ytblhinmbcjfnmaa
