/- ParseLine of the model. (made by tools/mksp.py) -/
import Derived.Test.YteaeikmgkmpkiaaGreatDoorLineCalls
import Derived.Test.YteaeikmgkmpkiaaGreatDoorImplParse
namespace Go.Proofs.YteaeikmgkmpkiaaGreatDoor
open Go.RowKit Go.Lib

def modelOf (s : ByteArray) : Option Lst := if 65536 < s.size then none else modelF (cutD s 32)
theorem OwnN.first {w : World} {base g cp : Nat} {ns : List Int} (h : OwnN w base (.slice (some ⟨g, 0, none⟩) ns.length cp) ns) (h0 : 1 ≤ ns.length) : w.cell? ⟨g, 0, none⟩ = some (.int .i64 (ns.getD 0 0)) := by
  unfold OwnN at h
  have := World.ownsRow.cellAt h 0 (by omega)
  rw [this, List.getElem?_map, List.getElem?_eq_getElem (by omega : 0 < ns.length)]
  simp [List.getD_eq_getElem?_getD, List.getElem?_eq_getElem (by omega : 0 < ns.length)]

set_option maxRecDepth 20000 in
set_option maxHeartbeats 24000000 in
theorem specParseLine_calls (w : World) {lo hi : Nat} (v : Value) (s : ByteArray) (xs : List Int) (hv : View w lo hi .u8 v xs) (hs : strOfNums xs = s) (hl : xs.length ≤ 1048576) :
    Calls Tryz.prog 4 #[v] w fun e w' => ∃ nv, e = .returned (lineV ((modelOf s).getD zeroL) nv) ∧ OwnN w' w.heap.size nv ((modelOf s).getD zeroL).nums ∧ Chg 0 0 w w' := by
  have hsz : s.size = xs.length := by rw [← hs, strOfNums_size]
  have hst : ∀ W, Chg 0 0 w W → (convert 22 9 v).run Tryz.prog W = .ok (.string s) W := fun W c => by rw [← hs]; exact (hv.chg c (by omega)).str
  obtain ⟨ao, cap, rfl, _⟩ := hv
  have hst1 : (convert 22 9 (.slice ao xs.length cap)).run Tryz.prog (w.alloc (.cells #[.int .i64 0, .int .i64 0, .string ⟨#[]⟩, .string ⟨#[]⟩, .int .i64 0, .int .i64 0, .int .i64 0, .string ⟨#[]⟩, .slice none 0 0] 27)) = .ok (.string s) (w.alloc (.cells #[.int .i64 0, .int .i64 0, .string ⟨#[]⟩, .string ⟨#[]⟩, .int .i64 0, .int .i64 0, .int .i64 0, .string ⟨#[]⟩, .slice none 0 0] 27)) := hst _ (Chg.alloc (Chg.refl 0 0 w) _)
  have HA : Hid (Chg 0 0 w (w.alloc (.cells #[.int .i64 0, .int .i64 0, .string ⟨#[]⟩, .string ⟨#[]⟩, .int .i64 0, .int .i64 0, .int .i64 0, .string ⟨#[]⟩, .slice none 0 0] 27))) := Chg.alloc (Chg.refl 0 0 w) _
  have hmx : Tryz.prog.follows .mixedOrders = true := by kernel_rfl
  clear hst
  go_enter Tryz.func4, Tryz.ntmps4
  by_cases hbig : 65536 < s.size
  · have hn : modelOf s = none := by unfold modelOf; rw [if_pos hbig]
    rw [hn]
    have hb2 : (65536 : Int) < (xs.length : Int) := by omega
    clear hst1
    go_wp2
    exact bodyPost_ret (v := lineV zeroL (.slice none 0 0)) (by simp [results, Tryz.results4, go_sem, zeroL]) rfl ⟨_, rfl, World.ownsRow_nil _ _ _ _, HA.out⟩
  have hb2 : ¬ ((65536 : Int) < (xs.length : Int)) := by omega
  have hn : modelOf s = modelF (cutD s 32) := by unfold modelOf; rw [if_neg hbig]
  obtain ⟨R, HR⟩ : ∃ R, Hid (R = modelF (cutD s 32)) := ⟨_, rfl⟩
  rw [hn, ← HR.out]
  have hN := l10Cut_calls (w.alloc (.cells #[.int .i64 0, .int .i64 0, .string ⟨#[]⟩, .string ⟨#[]⟩, .int .i64 0, .int .i64 0, .int .i64 0, .string ⟨#[]⟩, .slice none 0 0] 27)) s 32 (by omega) (by omega)
  have hF1 : 1 ≤ (cutD s 32).length := by rw [cutD_len]; omega
  have hF2 : (cutD s 32).length ≤ 65537 := by have := cutD_le s; omega
  have HF3 : Hid (∀ x ∈ cutD s 32, x.size ≤ 1048576) := fun x hx => by have := cutD_small s x hx; omega
  have HB0 : Hid ((w.alloc (.cells #[.int .i64 0, .int .i64 0, .string ⟨#[]⟩, .string ⟨#[]⟩, .int .i64 0, .int .i64 0, .int .i64 0, .string ⟨#[]⟩, .slice none 0 0] 27)).heap[w.heap.size]? = some (.cells #[.int .i64 0, .int .i64 0, .string ⟨#[]⟩, .string ⟨#[]⟩, .int .i64 0, .int .i64 0, .int .i64 0, .string ⟨#[]⟩, .slice none 0 0] 27 (0, 0))) := heap_new w _
  have hw0 : (w.alloc (.cells #[.int .i64 0, .int .i64 0, .string ⟨#[]⟩, .string ⟨#[]⟩, .int .i64 0, .int .i64 0, .int .i64 0, .string ⟨#[]⟩, .slice none 0 0] 27)).heap.size = w.heap.size + 1 := by simp
  go_wp2_with fail
  refine hN.mono ?_
  rintro e w1 ⟨g, cp, rfl, ho, c1⟩
  have HC1 : Hid (Chg 0 0 w w1) := HA.out.trans c1
  have HB1 : Hid (w1.heap[w.heap.size]? = some (.cells #[.int .i64 0, .int .i64 0, .string ⟨#[]⟩, .string ⟨#[]⟩, .int .i64 0, .int .i64 0, .int .i64 0, .string ⟨#[]⟩, .slice none 0 0] 27 (0, 0))) := (c1.block _ (by omega) (by omega)).trans HB0.out
  have hz1 : w.heap.size < w1.heap.size := by have := c1.size; omega
  have hgl : w.heap.size + 1 ≤ g ∧ g < w1.heap.size := by have := ho.lt g rfl; omega
  obtain ⟨hgl, hg1⟩ := hgl
  obtain ⟨L, HL⟩ : ∃ L, Hid ((cutD s 32).length = L) := ⟨_, rfl⟩
  have Hcell : Hid (∀ i, i < (cutD s 32).length → w1.cell? ⟨g, i, none⟩ = some (.string ((cutD s 32).getD i noText))) := fun i hi => by
    unfold OwnS at ho
    rw [World.ownsRow.cellAt ho i (by omega), List.getElem?_map, List.getElem?_eq_getElem hi]
    simp [List.getD_eq_getElem?_getD, List.getElem?_eq_getElem hi]
  have hL1 : 1 ≤ L := by have := HL.out; omega
  have hL2 : L ≤ 65537 := by have := HL.out; omega
  rw [HL.out]
  clear hN ho c1 hst1 HA HB0 hw0 hn hbig hb2 hs hl hsz
  generalize cutD s 32 = F at *
  have HE1 : Hid (Chg 0 0 w1 w1) := Chg.refl 0 0 w1
  have HNums : Hid (∀ W, Chg 0 0 w1 W → Calls Tryz.prog 15 #[.slice (some ⟨g, 0, none⟩) L cp, .int .i64 1] W fun e w' => ∃ g2 cp2, e = .returned (.tuple #[.slice (some ⟨g2, 0, none⟩) (numsG [] (F.drop 1)).1.length cp2, .bool (numsG [] (F.drop 1)).2]) ∧ OwnN w' W.heap.size (.slice (some ⟨g2, 0, none⟩) (numsG [] (F.drop 1)).1.length cp2) (numsG [] (F.drop 1)).1 ∧ Chg 0 0 W w') := fun W c => by
    rw [← HL.out]
    exact l14Numbers_calls W F g cp (fun i hi => c.cell (Hcell.out i hi) (by omega)) hF1 hF2 HF3.out
  have HLong : Hid (∀ W, Chg 0 0 w1 W → Calls Tryz.prog 16 #[.slice (some ⟨g, 0, none⟩) L cp] W (CallPost W (longF F))) := fun W c => by
    rw [← HL.out]
    exact long_calls W F g cp (fun i hi => c.cell (Hcell.out i hi) (by omega)) HF3.out hF1
  have HHan : Hid (∀ W, Chg 0 0 w1 W → Calls Tryz.prog 17 #[.slice (some ⟨g, 0, none⟩) L cp] W (CallPost W (hanF F))) := fun W c => by
    rw [← HL.out]
    exact han_calls W F g cp (fun i hi => c.cell (Hcell.out i hi) (by omega)) HF3.out hF1
  have HLl : Hid (∀ s, longF F = some s → s.kind = 1 ∧ s.nums = []) := fun s h => longF_line h
  have HHl : Hid (∀ s, hanF F = some s → s.kind = 1 ∧ s.nums = []) := fun s h => hanF_line h
  clear hF1 hF2 HF3
  go_wp2
  go_loopw [4] (fun x wr => ∃ k : Nat, k ≤ L ∧ x = .int .i64 k ∧ wr = w1 ∧ ∀ j, j < k → F.getD j noText ≠ ⟨#[]⟩) (fun x _ => L - (RowKit.intOf x).toNat)
  case atStart => exact ⟨0, Nat.zero_le _, rfl, rfl, by omega⟩
  case round =>
    obtain ⟨k, hk, rfl, hwr, hR⟩ := hrel
    obtain rfl : w1 = wr := hwr.symm
    by_cases hlt : k < L
    · have c1 := Hcell.out k (by rw [HL.out]; exact hlt)
      have hki : (k : Int) < (L : Int) := by omega
      by_cases he : F.getD k noText = ⟨#[]⟩
      · have hb : ((F.getD k noText).toList == []) = true := tl_yes (l := []) he
        have HN : Hid (R = none) := by
          show _ = _
          rw [HR.out]
          unfold modelF
          rw [if_pos ((containsS_iff F ⟨#[]⟩).2 ?_)]
          rw [← he, List.getD_eq_getElem?_getD, List.getElem?_eq_getElem (by rw [HL.out]; exact hlt)]
          exact List.getElem_mem _
        generalize F.getD k noText = fk at *
        obtain ⟨⟨y0, y1, y2, y3, y4, y5, y6, y7, y8⟩, f0, f1, f2, f3, f4, f5, f6, f7, f8⟩ := nine_all HB1.out
        clear he hR HR HNums HLong HHan HLl HHl Hcell HL
        go_wp2
        exact bodyPost_ret (v := lineV zeroL (.slice none 0 0)) (by simp [results, Tryz.results4, go_sem, zeroL, *]) rfl ⟨.slice none 0 0, by rw [HN.out]; rfl, by rw [HN.out]; exact World.ownsRow_nil _ _ _ _, (Chg.setCell (Chg.setCell (Chg.setCell (Chg.setCell (Chg.setCell (Chg.setCell (Chg.setCell (Chg.setCell (Chg.setCell HC1.out (Or.inr (Nat.le_refl _)) _) (Or.inr (Nat.le_refl _)) _) (Or.inr (Nat.le_refl _)) _) (Or.inr (Nat.le_refl _)) _) (Or.inr (Nat.le_refl _)) _) (Or.inr (Nat.le_refl _)) _) (Or.inr (Nat.le_refl _)) _) (Or.inr (Nat.le_refl _)) _) (Or.inr (Nat.le_refl _)) _)⟩
      · have hb : ((F.getD k noText).toList == []) = false := tl_no (l := []) he
        have HS : Hid (∀ j, j < k + 1 → F.getD j noText ≠ ⟨#[]⟩) := fun j hj => by
          by_cases e : j = k
          · rw [e]; exact he
          · exact hR j (by omega)
        generalize F.getD k noText = fk at *
        clear he hR
        go_wp2
        go_roundw
        case rel => exact ⟨k + 1, by omega, by go_num, by first | rfl | trivial, HS.out⟩
        case measure => simp [RowKit.intOf]; omega
    · have hkL : k = L := by omega
      have hki : ¬ ((k : Int) < (L : Int)) := by omega
      have hcs : containsS F ⟨#[]⟩ = false := by
        cases hc : containsS F ⟨#[]⟩ with
        | false => rfl
        | true =>
          exfalso
          obtain ⟨i, hi, e⟩ := List.mem_iff_getElem.1 ((containsS_iff F ⟨#[]⟩).1 hc)
          refine hR i (by have := HL.out; omega) ?_
          rw [List.getD_eq_getElem?_getD, List.getElem?_eq_getElem hi]
          exact e
      obtain ⟨x0, hx0⟩ : ∃ x, F.getD 0 noText = x := ⟨_, rfl⟩
      obtain ⟨x1, hx1⟩ : ∃ x, F.getD 1 noText = x := ⟨_, rfl⟩
      have cl0 : w1.cell? ⟨g, 0, none⟩ = some (.string x0) := by rw [← hx0]; exact Hcell.out 0 (by rw [HL.out]; omega)
      have Hcl1 : Hid (1 < L → w1.cell? ⟨g, 1, none⟩ = some (.string x1)) := fun h => by rw [← hx1]; exact Hcell.out 1 (by rw [HL.out]; omega)
      have hLone := fun W => l14Lone_calls W x0
      have hWord := fun W => l14Word_calls W x0
      have hNums := HNums.out
      have hLong := HLong.out
      have hHan := HHan.out
      have hLE := HL.out
      have HM : Hid (R = if L = 1 ∧ x0 = ⟨#[116, 114, 101, 101]⟩ then some ⟨2, 0, ⟨#[]⟩, ⟨#[]⟩, 0, 0, 0, ⟨#[]⟩, []⟩ else if L = 1 ∧ x0 = ⟨#[99, 104, 101, 99, 107]⟩ then some ⟨3, 0, ⟨#[]⟩, ⟨#[]⟩, 0, 0, 0, ⟨#[]⟩, []⟩ else if L = 1 ∧ x0 = ⟨#[109, 111, 117, 110, 116]⟩ then some ⟨6, 0, ⟨#[]⟩, ⟨#[]⟩, 0, 0, 0, ⟨#[]⟩, []⟩ else if L = 1 ∧ 0 < loneN x0 then some ⟨1, loneN x0, ⟨#[]⟩, ⟨#[]⟩, 0, 0, 0, ⟨#[]⟩, []⟩ else if L = 2 ∧ 0 < wordN x0 then some ⟨1, wordN x0, x1, ⟨#[]⟩, 0, 0, 0, ⟨#[]⟩, []⟩ else if x0 = ⟨#[99, 114, 97, 115, 104]⟩ then (if (numsG [] (F.drop 1)).2 = true ∧ (numsG [] (F.drop 1)).1.length ≤ 600 then some ⟨5, 0, ⟨#[]⟩, ⟨#[]⟩, 0, 0, 0, ⟨#[]⟩, (numsG [] (F.drop 1)).1⟩ else none) else if x0 = ⟨#[97, 114, 109]⟩ then (if (numsG [] (F.drop 1)).2 = true ∧ 1 ≤ (numsG [] (F.drop 1)).1.length ∧ (numsG [] (F.drop 1)).1.length ≤ 601 ∧ (1 : Int) ≤ (numsG [] (F.drop 1)).1.getD 0 0 then some ⟨4, 0, ⟨#[]⟩, ⟨#[]⟩, 0, 0, 0, ⟨#[]⟩, (numsG [] (F.drop 1)).1⟩ else none) else restF F) := by
        show _ = _
        rw [HR.out]
        unfold modelF crashF armF
        rw [if_neg (by rw [hcs]; decide), hx0, hx1, hLE]
      unfold restF at HM
      generalize longF F = LF at *
      generalize hanF F = HF at *
      generalize loneN x0 = LN at *
      generalize wordN x0 = WN at *
      generalize (numsG [] (F.drop 1)).1 = NS at *
      generalize (numsG [] (F.drop 1)).2 = NB at *
      have hpos : (0 : Int) < (L : Int) := by omega
      subst hkL
      have hkk : ¬ ((k : Int) < (k : Int)) := by omega
      clear hR hcs hx0 hx1 hLE HR HNums HLong HHan Hcell hki hlt hk
      have m0 := cl0
      by_cases h1 : k = 1
      · subst h1
        clear HL hL1
        by_cases k_tree : x0 = ⟨#[116, 114, 101, 101]⟩
        · have b_tree : (x0.toList == [116, 114, 101, 101]) = true := tl_yes k_tree
          have HN : Hid (R = some ⟨2, 0, ⟨#[]⟩, ⟨#[]⟩, 0, 0, 0, ⟨#[]⟩, []⟩) := by show _ = _; rw [HM.out, if_pos ⟨by first | rfl | trivial, k_tree⟩]
          clear HM  k_tree
          obtain ⟨⟨y0, y1, y2, y3, y4, y5, y6, y7, y8⟩, f0, f1, f2, f3, f4, f5, f6, f7, f8⟩ := nine_all HB1.out
          go_wp2
          exact bodyPost_ret (v := lineV ⟨2, 0, ⟨#[]⟩, ⟨#[]⟩, 0, 0, 0, ⟨#[]⟩, []⟩ (.slice none 0 0)) (by simp [results, Tryz.results4, go_sem, *]) rfl ⟨.slice none 0 0, by rw [HN.out]; rfl, by rw [HN.out]; exact World.ownsRow_nil _ _ _ _, (Chg.setCell (Chg.setCell (Chg.setCell (Chg.setCell (Chg.setCell (Chg.setCell (Chg.setCell (Chg.setCell (Chg.setCell HC1.out (Or.inr (Nat.le_refl _)) _) (Or.inr (Nat.le_refl _)) _) (Or.inr (Nat.le_refl _)) _) (Or.inr (Nat.le_refl _)) _) (Or.inr (Nat.le_refl _)) _) (Or.inr (Nat.le_refl _)) _) (Or.inr (Nat.le_refl _)) _) (Or.inr (Nat.le_refl _)) _) (Or.inr (Nat.le_refl _)) _)⟩
        have b_tree : (x0.toList == [116, 114, 101, 101]) = false := tl_no k_tree
        by_cases k_check : x0 = ⟨#[99, 104, 101, 99, 107]⟩
        · have b_check : (x0.toList == [99, 104, 101, 99, 107]) = true := tl_yes k_check
          have HN : Hid (R = some ⟨3, 0, ⟨#[]⟩, ⟨#[]⟩, 0, 0, 0, ⟨#[]⟩, []⟩) := by show _ = _; rw [HM.out, if_neg (fun h => k_tree h.2), if_pos ⟨by first | rfl | trivial, k_check⟩]
          clear HM k_tree k_check
          obtain ⟨⟨y0, y1, y2, y3, y4, y5, y6, y7, y8⟩, f0, f1, f2, f3, f4, f5, f6, f7, f8⟩ := nine_all HB1.out
          go_wp2
          exact bodyPost_ret (v := lineV ⟨3, 0, ⟨#[]⟩, ⟨#[]⟩, 0, 0, 0, ⟨#[]⟩, []⟩ (.slice none 0 0)) (by simp [results, Tryz.results4, go_sem, *]) rfl ⟨.slice none 0 0, by rw [HN.out]; rfl, by rw [HN.out]; exact World.ownsRow_nil _ _ _ _, (Chg.setCell (Chg.setCell (Chg.setCell (Chg.setCell (Chg.setCell (Chg.setCell (Chg.setCell (Chg.setCell (Chg.setCell HC1.out (Or.inr (Nat.le_refl _)) _) (Or.inr (Nat.le_refl _)) _) (Or.inr (Nat.le_refl _)) _) (Or.inr (Nat.le_refl _)) _) (Or.inr (Nat.le_refl _)) _) (Or.inr (Nat.le_refl _)) _) (Or.inr (Nat.le_refl _)) _) (Or.inr (Nat.le_refl _)) _) (Or.inr (Nat.le_refl _)) _)⟩
        have b_check : (x0.toList == [99, 104, 101, 99, 107]) = false := tl_no k_check
        by_cases k_mount : x0 = ⟨#[109, 111, 117, 110, 116]⟩
        · have b_mount : (x0.toList == [109, 111, 117, 110, 116]) = true := tl_yes k_mount
          have HN : Hid (R = some ⟨6, 0, ⟨#[]⟩, ⟨#[]⟩, 0, 0, 0, ⟨#[]⟩, []⟩) := by show _ = _; rw [HM.out, if_neg (fun h => k_tree h.2), if_neg (fun h => k_check h.2), if_pos ⟨by first | rfl | trivial, k_mount⟩]
          clear HM k_tree k_check k_mount
          obtain ⟨⟨y0, y1, y2, y3, y4, y5, y6, y7, y8⟩, f0, f1, f2, f3, f4, f5, f6, f7, f8⟩ := nine_all HB1.out
          go_wp2
          exact bodyPost_ret (v := lineV ⟨6, 0, ⟨#[]⟩, ⟨#[]⟩, 0, 0, 0, ⟨#[]⟩, []⟩ (.slice none 0 0)) (by simp [results, Tryz.results4, go_sem, *]) rfl ⟨.slice none 0 0, by rw [HN.out]; rfl, by rw [HN.out]; exact World.ownsRow_nil _ _ _ _, (Chg.setCell (Chg.setCell (Chg.setCell (Chg.setCell (Chg.setCell (Chg.setCell (Chg.setCell (Chg.setCell (Chg.setCell HC1.out (Or.inr (Nat.le_refl _)) _) (Or.inr (Nat.le_refl _)) _) (Or.inr (Nat.le_refl _)) _) (Or.inr (Nat.le_refl _)) _) (Or.inr (Nat.le_refl _)) _) (Or.inr (Nat.le_refl _)) _) (Or.inr (Nat.le_refl _)) _) (Or.inr (Nat.le_refl _)) _) (Or.inr (Nat.le_refl _)) _)⟩
        have b_mount : (x0.toList == [109, 111, 117, 110, 116]) = false := tl_no k_mount
        rw [if_neg (fun h => k_tree h.2), if_neg (fun h => k_check h.2), if_neg (fun h => k_mount h.2)] at HM
        clear k_tree k_check k_mount
        go_wp2_with fail
        refine (hLone w1).mono ?_
        rintro e w2 ⟨rfl, cc⟩
        clear m0
        have HC2 : Hid (Chg 0 0 w w2) := HC1.out.trans cc
        have HE2 : Hid (Chg 0 0 w1 w2) := HE1.out.trans cc
        have HB2 : Hid (w2.heap[w.heap.size]? = some (.cells #[.int .i64 0, .int .i64 0, .string ⟨#[]⟩, .string ⟨#[]⟩, .int .i64 0, .int .i64 0, .int .i64 0, .string ⟨#[]⟩, .slice none 0 0] 27 (0, 0))) := (cc.block _ (by omega) (by omega)).trans HB1.out
        have hz2 : w.heap.size < w2.heap.size := by have := cc.size; omega
        have hg2 : g < w2.heap.size := by have := cc.size; omega
        have m0 := HE2.out.cell cl0 (by omega)
        clear cc
        by_cases hp : 0 < LN
        · have HN : Hid (R = some ⟨1, LN, ⟨#[]⟩, ⟨#[]⟩, 0, 0, 0, ⟨#[]⟩, []⟩) := by show _ = _; rw [HM.out, if_pos ⟨by first | rfl | trivial, hp⟩]
          clear HM
          go_wp2_with fail
          refine (hLone w2).mono ?_
          rintro e w3 ⟨rfl, cc⟩
          clear m0
          have HC3 : Hid (Chg 0 0 w w3) := HC2.out.trans cc
          have HE3 : Hid (Chg 0 0 w1 w3) := HE2.out.trans cc
          have HB3 : Hid (w3.heap[w.heap.size]? = some (.cells #[.int .i64 0, .int .i64 0, .string ⟨#[]⟩, .string ⟨#[]⟩, .int .i64 0, .int .i64 0, .int .i64 0, .string ⟨#[]⟩, .slice none 0 0] 27 (0, 0))) := (cc.block _ (by omega) (by omega)).trans HB2.out
          have hz3 : w.heap.size < w3.heap.size := by have := cc.size; omega
          have hg3 : g < w3.heap.size := by have := cc.size; omega
          have m0 := HE3.out.cell cl0 (by omega)
          clear cc
          obtain ⟨⟨y0, y1, y2, y3, y4, y5, y6, y7, y8⟩, f0, f1, f2, f3, f4, f5, f6, f7, f8⟩ := nine_all HB3.out
          go_wp2
          exact bodyPost_ret (v := lineV ⟨1, LN, ⟨#[]⟩, ⟨#[]⟩, 0, 0, 0, ⟨#[]⟩, []⟩ (.slice none 0 0)) (by simp [results, Tryz.results4, go_sem, *]) rfl ⟨.slice none 0 0, by rw [HN.out]; rfl, by rw [HN.out]; exact World.ownsRow_nil _ _ _ _, (Chg.setCell (Chg.setCell (Chg.setCell (Chg.setCell (Chg.setCell (Chg.setCell (Chg.setCell (Chg.setCell (Chg.setCell HC3.out (Or.inr (Nat.le_refl _)) _) (Or.inr (Nat.le_refl _)) _) (Or.inr (Nat.le_refl _)) _) (Or.inr (Nat.le_refl _)) _) (Or.inr (Nat.le_refl _)) _) (Or.inr (Nat.le_refl _)) _) (Or.inr (Nat.le_refl _)) _) (Or.inr (Nat.le_refl _)) _) (Or.inr (Nat.le_refl _)) _)⟩
        have HT : Hid (R = if x0 = ⟨#[99, 114, 97, 115, 104]⟩ then (if NB = true ∧ NS.length ≤ 600 then some ⟨5, 0, ⟨#[]⟩, ⟨#[]⟩, 0, 0, 0, ⟨#[]⟩, NS⟩ else none) else if x0 = ⟨#[97, 114, 109]⟩ then (if NB = true ∧ 1 ≤ NS.length ∧ NS.length ≤ 601 ∧ (1 : Int) ≤ NS.getD 0 0 then some ⟨4, 0, ⟨#[]⟩, ⟨#[]⟩, 0, 0, 0, ⟨#[]⟩, NS⟩ else none) else orF LF HF) := by show _ = _; rw [HM.out, if_neg (fun h => hp h.2), if_neg (fun h => absurd h.1 (by decide))]
        clear HM
        by_cases kc : x0 = ⟨#[99, 114, 97, 115, 104]⟩
        · have b_crash : (x0.toList == [99, 114, 97, 115, 104]) = true := tl_yes kc
          have b_arm : (x0.toList == [97, 114, 109]) = false := tl_no (by rw [kc]; decide)
          have HK : Hid (R = (if NB = true ∧ NS.length ≤ 600 then some ⟨5, 0, ⟨#[]⟩, ⟨#[]⟩, 0, 0, 0, ⟨#[]⟩, NS⟩ else none)) := by show _ = _; rw [HT.out, if_pos kc]
          clear HT kc
          go_wp2_with fail
          refine (hNums w2 HE2.out).mono ?_
          rintro e w3 ⟨g2, cp2, rfl, ho2, cc⟩
          clear m0
          have HC3 : Hid (Chg 0 0 w w3) := HC2.out.trans cc
          have HE3 : Hid (Chg 0 0 w1 w3) := HE2.out.trans cc
          have HB3 : Hid (w3.heap[w.heap.size]? = some (.cells #[.int .i64 0, .int .i64 0, .string ⟨#[]⟩, .string ⟨#[]⟩, .int .i64 0, .int .i64 0, .int .i64 0, .string ⟨#[]⟩, .slice none 0 0] 27 (0, 0))) := (cc.block _ (by omega) (by omega)).trans HB2.out
          have hz3 : w.heap.size < w3.heap.size := by have := cc.size; omega
          have hg3 : g < w3.heap.size := by have := cc.size; omega
          have m0 := HE3.out.cell cl0 (by omega)
          have HO : Hid (OwnN w3 w2.heap.size (.slice (some ⟨g2, 0, none⟩) NS.length cp2) NS) := ho2
          clear cc ho2
          obtain ⟨⟨y0, y1, y2, y3, y4, y5, y6, y7, y8⟩, f0, f1, f2, f3, f4, f5, f6, f7, f8⟩ := nine_all HB3.out
          cases NB
          · skip
            have HN : Hid (R = none) := by show _ = _; rw [HK.out]; exact if_neg (fun h => absurd h.1 (by decide))
            clear HK
            go_wp2
            exact bodyPost_ret (v := lineV zeroL (.slice none 0 0)) (by simp [results, Tryz.results4, go_sem, zeroL, *]) rfl ⟨.slice none 0 0, by rw [HN.out]; rfl, by rw [HN.out]; exact World.ownsRow_nil _ _ _ _, (Chg.setCell (Chg.setCell (Chg.setCell (Chg.setCell (Chg.setCell (Chg.setCell (Chg.setCell (Chg.setCell (Chg.setCell HC3.out (Or.inr (Nat.le_refl _)) _) (Or.inr (Nat.le_refl _)) _) (Or.inr (Nat.le_refl _)) _) (Or.inr (Nat.le_refl _)) _) (Or.inr (Nat.le_refl _)) _) (Or.inr (Nat.le_refl _)) _) (Or.inr (Nat.le_refl _)) _) (Or.inr (Nat.le_refl _)) _) (Or.inr (Nat.le_refl _)) _)⟩
          · by_cases h6 : NS.length ≤ 600
            · have h6i : (NS.length : Int) ≤ 600 := by omega
              have HN : Hid (R = some ⟨5, 0, ⟨#[]⟩, ⟨#[]⟩, 0, 0, 0, ⟨#[]⟩, NS⟩) := by show _ = _; rw [HK.out]; exact if_pos ⟨rfl, h6⟩
              clear HK
              go_wp2
              exact bodyPost_ret (v := lineV ⟨5, 0, ⟨#[]⟩, ⟨#[]⟩, 0, 0, 0, ⟨#[]⟩, NS⟩ (.slice (some ⟨g2, 0, none⟩) NS.length cp2)) (by simp [results, Tryz.results4, go_sem, *]) rfl ⟨(.slice (some ⟨g2, 0, none⟩) NS.length cp2), by rw [HN.out]; rfl, by rw [HN.out]; exact OwnN.low (OwnN.set (OwnN.set (OwnN.set (OwnN.set (OwnN.set (OwnN.set (OwnN.set (OwnN.set (OwnN.set HO.out _ _ _ hz2) _ _ _ hz2) _ _ _ hz2) _ _ _ hz2) _ _ _ hz2) _ _ _ hz2) _ _ _ hz2) _ _ _ hz2) _ _ _ hz2) (Nat.le_of_lt hz2), (Chg.setCell (Chg.setCell (Chg.setCell (Chg.setCell (Chg.setCell (Chg.setCell (Chg.setCell (Chg.setCell (Chg.setCell HC3.out (Or.inr (Nat.le_refl _)) _) (Or.inr (Nat.le_refl _)) _) (Or.inr (Nat.le_refl _)) _) (Or.inr (Nat.le_refl _)) _) (Or.inr (Nat.le_refl _)) _) (Or.inr (Nat.le_refl _)) _) (Or.inr (Nat.le_refl _)) _) (Or.inr (Nat.le_refl _)) _) (Or.inr (Nat.le_refl _)) _)⟩
            · have h6i : ¬ ((NS.length : Int) ≤ 600) := by omega
              have HN : Hid (R = none) := by show _ = _; rw [HK.out]; exact if_neg (fun h => h6 h.2)
              clear HK
              go_wp2
              exact bodyPost_ret (v := lineV zeroL (.slice none 0 0)) (by simp [results, Tryz.results4, go_sem, zeroL, *]) rfl ⟨.slice none 0 0, by rw [HN.out]; rfl, by rw [HN.out]; exact World.ownsRow_nil _ _ _ _, (Chg.setCell (Chg.setCell (Chg.setCell (Chg.setCell (Chg.setCell (Chg.setCell (Chg.setCell (Chg.setCell (Chg.setCell HC3.out (Or.inr (Nat.le_refl _)) _) (Or.inr (Nat.le_refl _)) _) (Or.inr (Nat.le_refl _)) _) (Or.inr (Nat.le_refl _)) _) (Or.inr (Nat.le_refl _)) _) (Or.inr (Nat.le_refl _)) _) (Or.inr (Nat.le_refl _)) _) (Or.inr (Nat.le_refl _)) _) (Or.inr (Nat.le_refl _)) _)⟩
        · have b_crash : (x0.toList == [99, 114, 97, 115, 104]) = false := tl_no kc
          by_cases ka : x0 = ⟨#[97, 114, 109]⟩
          · have b_arm : (x0.toList == [97, 114, 109]) = true := tl_yes ka
            have HK : Hid (R = (if NB = true ∧ 1 ≤ NS.length ∧ NS.length ≤ 601 ∧ (1 : Int) ≤ NS.getD 0 0 then some ⟨4, 0, ⟨#[]⟩, ⟨#[]⟩, 0, 0, 0, ⟨#[]⟩, NS⟩ else none)) := by show _ = _; rw [HT.out, if_neg kc, if_pos ka]
            clear HT kc ka
            go_wp2_with fail
            refine (hNums w2 HE2.out).mono ?_
            rintro e w3 ⟨g2, cp2, rfl, ho2, cc⟩
            clear m0
            have HC3 : Hid (Chg 0 0 w w3) := HC2.out.trans cc
            have HE3 : Hid (Chg 0 0 w1 w3) := HE2.out.trans cc
            have HB3 : Hid (w3.heap[w.heap.size]? = some (.cells #[.int .i64 0, .int .i64 0, .string ⟨#[]⟩, .string ⟨#[]⟩, .int .i64 0, .int .i64 0, .int .i64 0, .string ⟨#[]⟩, .slice none 0 0] 27 (0, 0))) := (cc.block _ (by omega) (by omega)).trans HB2.out
            have hz3 : w.heap.size < w3.heap.size := by have := cc.size; omega
            have hg3 : g < w3.heap.size := by have := cc.size; omega
            have m0 := HE3.out.cell cl0 (by omega)
            have HO : Hid (OwnN w3 w2.heap.size (.slice (some ⟨g2, 0, none⟩) NS.length cp2) NS) := ho2
            clear cc ho2
            obtain ⟨⟨y0, y1, y2, y3, y4, y5, y6, y7, y8⟩, f0, f1, f2, f3, f4, f5, f6, f7, f8⟩ := nine_all HB3.out
            cases NB
            · skip
              have HN : Hid (R = none) := by show _ = _; rw [HK.out]; exact if_neg (fun h => absurd h.1 (by decide))
              clear HK
              go_wp2
              exact bodyPost_ret (v := lineV zeroL (.slice none 0 0)) (by simp [results, Tryz.results4, go_sem, zeroL, *]) rfl ⟨.slice none 0 0, by rw [HN.out]; rfl, by rw [HN.out]; exact World.ownsRow_nil _ _ _ _, (Chg.setCell (Chg.setCell (Chg.setCell (Chg.setCell (Chg.setCell (Chg.setCell (Chg.setCell (Chg.setCell (Chg.setCell HC3.out (Or.inr (Nat.le_refl _)) _) (Or.inr (Nat.le_refl _)) _) (Or.inr (Nat.le_refl _)) _) (Or.inr (Nat.le_refl _)) _) (Or.inr (Nat.le_refl _)) _) (Or.inr (Nat.le_refl _)) _) (Or.inr (Nat.le_refl _)) _) (Or.inr (Nat.le_refl _)) _) (Or.inr (Nat.le_refl _)) _)⟩
            · by_cases h0 : 1 ≤ NS.length
              · have h0i : (1 : Int) ≤ (NS.length : Int) := by omega
                have h0j : (0 : Int) < (NS.length : Int) := by omega
                by_cases h6 : NS.length ≤ 601
                · have h6i : (NS.length : Int) ≤ 601 := by omega
                  have cn : w3.cell? ⟨g2, 0, none⟩ = some (.int .i64 (NS.getD 0 0)) := OwnN.first HO.out h0
                  by_cases hf : (1 : Int) ≤ NS.getD 0 0
                  · have HN : Hid (R = some ⟨4, 0, ⟨#[]⟩, ⟨#[]⟩, 0, 0, 0, ⟨#[]⟩, NS⟩) := by show _ = _; rw [HK.out]; exact if_pos ⟨rfl, h0, h6, hf⟩
                    clear HK
                    generalize NS.getD 0 0 = nf at *
                    go_wp2
                    exact bodyPost_ret (v := lineV ⟨4, 0, ⟨#[]⟩, ⟨#[]⟩, 0, 0, 0, ⟨#[]⟩, NS⟩ (.slice (some ⟨g2, 0, none⟩) NS.length cp2)) (by simp [results, Tryz.results4, go_sem, *]) rfl ⟨(.slice (some ⟨g2, 0, none⟩) NS.length cp2), by rw [HN.out]; rfl, by rw [HN.out]; exact OwnN.low (OwnN.set (OwnN.set (OwnN.set (OwnN.set (OwnN.set (OwnN.set (OwnN.set (OwnN.set (OwnN.set HO.out _ _ _ hz2) _ _ _ hz2) _ _ _ hz2) _ _ _ hz2) _ _ _ hz2) _ _ _ hz2) _ _ _ hz2) _ _ _ hz2) _ _ _ hz2) (Nat.le_of_lt hz2), (Chg.setCell (Chg.setCell (Chg.setCell (Chg.setCell (Chg.setCell (Chg.setCell (Chg.setCell (Chg.setCell (Chg.setCell HC3.out (Or.inr (Nat.le_refl _)) _) (Or.inr (Nat.le_refl _)) _) (Or.inr (Nat.le_refl _)) _) (Or.inr (Nat.le_refl _)) _) (Or.inr (Nat.le_refl _)) _) (Or.inr (Nat.le_refl _)) _) (Or.inr (Nat.le_refl _)) _) (Or.inr (Nat.le_refl _)) _) (Or.inr (Nat.le_refl _)) _)⟩
                  · have HN : Hid (R = none) := by show _ = _; rw [HK.out]; exact if_neg (fun h => hf h.2.2.2)
                    clear HK
                    generalize NS.getD 0 0 = nf at *
                    go_wp2
                    exact bodyPost_ret (v := lineV zeroL (.slice none 0 0)) (by simp [results, Tryz.results4, go_sem, zeroL, *]) rfl ⟨.slice none 0 0, by rw [HN.out]; rfl, by rw [HN.out]; exact World.ownsRow_nil _ _ _ _, (Chg.setCell (Chg.setCell (Chg.setCell (Chg.setCell (Chg.setCell (Chg.setCell (Chg.setCell (Chg.setCell (Chg.setCell HC3.out (Or.inr (Nat.le_refl _)) _) (Or.inr (Nat.le_refl _)) _) (Or.inr (Nat.le_refl _)) _) (Or.inr (Nat.le_refl _)) _) (Or.inr (Nat.le_refl _)) _) (Or.inr (Nat.le_refl _)) _) (Or.inr (Nat.le_refl _)) _) (Or.inr (Nat.le_refl _)) _) (Or.inr (Nat.le_refl _)) _)⟩
                · have h6i : ¬ ((NS.length : Int) ≤ 601) := by omega
                  have HN : Hid (R = none) := by show _ = _; rw [HK.out]; exact if_neg (fun h => h6 h.2.2.1)
                  clear HK
                  go_wp2
                  exact bodyPost_ret (v := lineV zeroL (.slice none 0 0)) (by simp [results, Tryz.results4, go_sem, zeroL, *]) rfl ⟨.slice none 0 0, by rw [HN.out]; rfl, by rw [HN.out]; exact World.ownsRow_nil _ _ _ _, (Chg.setCell (Chg.setCell (Chg.setCell (Chg.setCell (Chg.setCell (Chg.setCell (Chg.setCell (Chg.setCell (Chg.setCell HC3.out (Or.inr (Nat.le_refl _)) _) (Or.inr (Nat.le_refl _)) _) (Or.inr (Nat.le_refl _)) _) (Or.inr (Nat.le_refl _)) _) (Or.inr (Nat.le_refl _)) _) (Or.inr (Nat.le_refl _)) _) (Or.inr (Nat.le_refl _)) _) (Or.inr (Nat.le_refl _)) _) (Or.inr (Nat.le_refl _)) _)⟩
              · have h0i : ¬ ((1 : Int) ≤ (NS.length : Int)) := by omega
                have HN : Hid (R = none) := by show _ = _; rw [HK.out]; exact if_neg (fun h => h0 h.2.1)
                clear HK
                go_wp2
                exact bodyPost_ret (v := lineV zeroL (.slice none 0 0)) (by simp [results, Tryz.results4, go_sem, zeroL, *]) rfl ⟨.slice none 0 0, by rw [HN.out]; rfl, by rw [HN.out]; exact World.ownsRow_nil _ _ _ _, (Chg.setCell (Chg.setCell (Chg.setCell (Chg.setCell (Chg.setCell (Chg.setCell (Chg.setCell (Chg.setCell (Chg.setCell HC3.out (Or.inr (Nat.le_refl _)) _) (Or.inr (Nat.le_refl _)) _) (Or.inr (Nat.le_refl _)) _) (Or.inr (Nat.le_refl _)) _) (Or.inr (Nat.le_refl _)) _) (Or.inr (Nat.le_refl _)) _) (Or.inr (Nat.le_refl _)) _) (Or.inr (Nat.le_refl _)) _) (Or.inr (Nat.le_refl _)) _)⟩
          · have b_arm : (x0.toList == [97, 114, 109]) = false := tl_no ka
            have HK : Hid (R = orF LF HF) := by show _ = _; rw [HT.out, if_neg kc, if_neg ka]
            clear HT kc ka
            go_wp2_with fail
            refine (hLong w2 HE2.out).mono ?_
            rintro e w3 ⟨s', rfl, hs', cc⟩
            clear m0
            have HC3 : Hid (Chg 0 0 w w3) := HC2.out.trans cc
            have HE3 : Hid (Chg 0 0 w1 w3) := HE2.out.trans cc
            have HB3 : Hid (w3.heap[w.heap.size]? = some (.cells #[.int .i64 0, .int .i64 0, .string ⟨#[]⟩, .string ⟨#[]⟩, .int .i64 0, .int .i64 0, .int .i64 0, .string ⟨#[]⟩, .slice none 0 0] 27 (0, 0))) := (cc.block _ (by omega) (by omega)).trans HB2.out
            have hz3 : w.heap.size < w3.heap.size := by have := cc.size; omega
            have hg3 : g < w3.heap.size := by have := cc.size; omega
            have m0 := HE3.out.cell cl0 (by omega)
            clear cc
            cases LF with
            | some s =>
              obtain rfl := hs' s rfl
              have HN : Hid (R = some s) := HK.out
              rw [Option.isSome_some]
              clear HK hs'
              obtain ⟨hk1, hk2⟩ := HLl.out s rfl
              have HV : Hid (∀ W, (∃ nv, Ending.returned (.agg #[.int .i64 1, .int .i64 s.ck, .string s.path, .string s.to', .int .i64 s.han, .int .i64 s.off, .int .i64 s.siz, .string s.data, .slice none 0 0]) = .returned (lineV (R.getD zeroL) nv) ∧ OwnN W w.heap.size nv (R.getD zeroL).nums) ) := fun W => ⟨.slice none 0 0, by
                rw [HN.out]
                show Ending.returned (.agg #[.int .i64 1, .int .i64 s.ck, .string s.path, .string s.to', .int .i64 s.han, .int .i64 s.off, .int .i64 s.siz, .string s.data, .slice none 0 0]) = .returned (.agg #[.int .i64 s.kind, .int .i64 s.ck, .string s.path, .string s.to', .int .i64 s.han, .int .i64 s.off, .int .i64 s.siz, .string s.data, .slice none 0 0])
                rw [hk1], by
                rw [HN.out]
                show OwnN W w.heap.size (.slice none 0 0) s.nums
                rw [hk2]
                exact World.ownsRow_nil _ _ _ _⟩
              clear HN hk1 hk2
              obtain ⟨⟨y0, y1, y2, y3, y4, y5, y6, y7, y8⟩, f0, f1, f2, f3, f4, f5, f6, f7, f8⟩ := nine_all HB3.out
              go_wp2
              exact bodyPost_ret (v := .agg #[.int .i64 1, .int .i64 s.ck, .string s.path, .string s.to', .int .i64 s.han, .int .i64 s.off, .int .i64 s.siz, .string s.data, .slice none 0 0]) (by simp [results, Tryz.results4, go_sem, *]) rfl (by
                obtain ⟨nv, e1, e2⟩ := HV.out _
                exact ⟨nv, e1, e2, (Chg.alloc (Chg.setCell (Chg.setCell (Chg.setCell (Chg.setCell (Chg.setCell (Chg.setCell (Chg.setCell (Chg.setCell (Chg.setCell HC3.out (Or.inr (Nat.le_refl _)) _) (Or.inr (Nat.le_refl _)) _) (Or.inr (Nat.le_refl _)) _) (Or.inr (Nat.le_refl _)) _) (Or.inr (Nat.le_refl _)) _) (Or.inr (Nat.le_refl _)) _) (Or.inr (Nat.le_refl _)) _) (Or.inr (Nat.le_refl _)) _) (Or.inr (Nat.le_refl _)) _) _)⟩)
            | none =>
              have HK2 : Hid (R = HF) := HK.out
              rw [Option.isSome_none]
              clear HK hs'
              have HC4 : Hid (Chg 0 0 w (w3.alloc (.cells #[.int .i64 s'.ck, .string s'.path, .string s'.to', .int .i64 s'.han, .int .i64 s'.off, .int .i64 s'.siz, .string s'.data] 24))) := Chg.alloc HC3.out _
              have HE4 : Hid (Chg 0 0 w1 (w3.alloc (.cells #[.int .i64 s'.ck, .string s'.path, .string s'.to', .int .i64 s'.han, .int .i64 s'.off, .int .i64 s'.siz, .string s'.data] 24))) := Chg.alloc HE3.out _
              have HB4 : Hid ((w3.alloc (.cells #[.int .i64 s'.ck, .string s'.path, .string s'.to', .int .i64 s'.han, .int .i64 s'.off, .int .i64 s'.siz, .string s'.data] 24)).heap[w.heap.size]? = some (.cells #[.int .i64 0, .int .i64 0, .string ⟨#[]⟩, .string ⟨#[]⟩, .int .i64 0, .int .i64 0, .int .i64 0, .string ⟨#[]⟩, .slice none 0 0] 27 (0, 0))) := ((Chg.alloc (Chg.refl 0 0 w3) _).block _ hz3 (by omega)).trans HB3.out
              have hz4 : w.heap.size < (w3.alloc (.cells #[.int .i64 s'.ck, .string s'.path, .string s'.to', .int .i64 s'.han, .int .i64 s'.off, .int .i64 s'.siz, .string s'.data] 24)).heap.size := by simp; omega
              have hg4 : g < (w3.alloc (.cells #[.int .i64 s'.ck, .string s'.path, .string s'.to', .int .i64 s'.han, .int .i64 s'.off, .int .i64 s'.siz, .string s'.data] 24)).heap.size := by simp; omega
              go_wp2_with fail
              generalize w3.alloc (.cells #[.int .i64 s'.ck, .string s'.path, .string s'.to', .int .i64 s'.han, .int .i64 s'.off, .int .i64 s'.siz, .string s'.data] 24) = w4 at *
              refine (hHan w4 HE4.out).mono ?_
              rintro e w5 ⟨s2, rfl, hs2, cc⟩
              clear m0
              have HC5 : Hid (Chg 0 0 w w5) := HC4.out.trans cc
              have HE5 : Hid (Chg 0 0 w1 w5) := HE4.out.trans cc
              have HB5 : Hid (w5.heap[w.heap.size]? = some (.cells #[.int .i64 0, .int .i64 0, .string ⟨#[]⟩, .string ⟨#[]⟩, .int .i64 0, .int .i64 0, .int .i64 0, .string ⟨#[]⟩, .slice none 0 0] 27 (0, 0))) := (cc.block _ (by omega) (by omega)).trans HB4.out
              have hz5 : w.heap.size < w5.heap.size := by have := cc.size; omega
              have hg5 : g < w5.heap.size := by have := cc.size; omega
              have m0 := HE5.out.cell cl0 (by omega)
              clear cc
              cases HF with
              | some s =>
                obtain rfl := hs2 s rfl
                have HN : Hid (R = some s) := HK2.out
                rw [Option.isSome_some]
                clear HK2 hs2
                obtain ⟨hk1, hk2⟩ := HHl.out s rfl
                have HV : Hid (∀ W, (∃ nv, Ending.returned (.agg #[.int .i64 1, .int .i64 s.ck, .string s.path, .string s.to', .int .i64 s.han, .int .i64 s.off, .int .i64 s.siz, .string s.data, .slice none 0 0]) = .returned (lineV (R.getD zeroL) nv) ∧ OwnN W w.heap.size nv (R.getD zeroL).nums) ) := fun W => ⟨.slice none 0 0, by
                  rw [HN.out]
                  show Ending.returned (.agg #[.int .i64 1, .int .i64 s.ck, .string s.path, .string s.to', .int .i64 s.han, .int .i64 s.off, .int .i64 s.siz, .string s.data, .slice none 0 0]) = .returned (.agg #[.int .i64 s.kind, .int .i64 s.ck, .string s.path, .string s.to', .int .i64 s.han, .int .i64 s.off, .int .i64 s.siz, .string s.data, .slice none 0 0])
                  rw [hk1], by
                  rw [HN.out]
                  show OwnN W w.heap.size (.slice none 0 0) s.nums
                  rw [hk2]
                  exact World.ownsRow_nil _ _ _ _⟩
                clear HN hk1 hk2
                obtain ⟨⟨y0, y1, y2, y3, y4, y5, y6, y7, y8⟩, f0, f1, f2, f3, f4, f5, f6, f7, f8⟩ := nine_all HB5.out
                go_wp2
                exact bodyPost_ret (v := .agg #[.int .i64 1, .int .i64 s.ck, .string s.path, .string s.to', .int .i64 s.han, .int .i64 s.off, .int .i64 s.siz, .string s.data, .slice none 0 0]) (by simp [results, Tryz.results4, go_sem, *]) rfl (by
                  obtain ⟨nv, e1, e2⟩ := HV.out _
                  exact ⟨nv, e1, e2, (Chg.alloc (Chg.setCell (Chg.setCell (Chg.setCell (Chg.setCell (Chg.setCell (Chg.setCell (Chg.setCell (Chg.setCell (Chg.setCell HC5.out (Or.inr (Nat.le_refl _)) _) (Or.inr (Nat.le_refl _)) _) (Or.inr (Nat.le_refl _)) _) (Or.inr (Nat.le_refl _)) _) (Or.inr (Nat.le_refl _)) _) (Or.inr (Nat.le_refl _)) _) (Or.inr (Nat.le_refl _)) _) (Or.inr (Nat.le_refl _)) _) (Or.inr (Nat.le_refl _)) _) _)⟩)
              | none =>
                have HN : Hid (R = none) := HK2.out
                rw [Option.isSome_none]
                clear HK2 hs2
                obtain ⟨⟨y0, y1, y2, y3, y4, y5, y6, y7, y8⟩, f0, f1, f2, f3, f4, f5, f6, f7, f8⟩ := nine_all HB5.out
                go_wp2
                exact bodyPost_ret (v := lineV zeroL (.slice none 0 0)) (by simp [results, Tryz.results4, go_sem, zeroL, *]) rfl ⟨.slice none 0 0, by rw [HN.out]; rfl, by rw [HN.out]; exact World.ownsRow_nil _ _ _ _, (Chg.alloc (Chg.setCell (Chg.setCell (Chg.setCell (Chg.setCell (Chg.setCell (Chg.setCell (Chg.setCell (Chg.setCell (Chg.setCell HC5.out (Or.inr (Nat.le_refl _)) _) (Or.inr (Nat.le_refl _)) _) (Or.inr (Nat.le_refl _)) _) (Or.inr (Nat.le_refl _)) _) (Or.inr (Nat.le_refl _)) _) (Or.inr (Nat.le_refl _)) _) (Or.inr (Nat.le_refl _)) _) (Or.inr (Nat.le_refl _)) _) (Or.inr (Nat.le_refl _)) _) _)⟩
      have hl1 : (((k : Nat) : Int) == 1) = false := by rw [beq_eq_false_iff_ne]; omega
      rw [if_neg (fun h => h1 h.1), if_neg (fun h => h1 h.1), if_neg (fun h => h1 h.1), if_neg (fun h => h1 h.1)] at HM
      by_cases h2 : k = 2
      · subst h2
        have m1 := Hcl1.out (by omega)
        clear HL hL1 Hcl1 h1 hl1
        go_wp2_with fail
        refine (hWord w1).mono ?_
        rintro e w2 ⟨rfl, hw2⟩
        obtain rfl : w1 = w2 := hw2.symm
        by_cases hp : 0 < WN
        · have HN : Hid (R = some ⟨1, WN, x1, ⟨#[]⟩, 0, 0, 0, ⟨#[]⟩, []⟩) := by show _ = _; rw [HM.out, if_pos ⟨by first | rfl | trivial, hp⟩]
          clear HM
          go_wp2
          refine held_region (fun W => Chg w.heap.size (w.heap.size + 1) w1 W) hmx ?_
          have HR0 : Hid (Chg w.heap.size (w.heap.size + 1) w1 w1.drew) := Chg.drew (Chg.refl _ _ w1)
          have HD0 : Hid (Chg 0 0 w1 w1.drew) := Chg.drew (Chg.refl _ _ w1)
          generalize w1.drew = wd at *
          refine held_take 0 (.slice (some ⟨g, 0, none⟩) 2 cp) rfl (by kernel_rfl) (by kernel_rfl) (by kernel_rfl) (fun _ _ _ h => h) (.inl ⟨by kernel_rfl, fun w' (hw' : Chg w.heap.size (w.heap.size + 1) w1 w') => by go_simp⟩) HR0.out ?_
          go_simp
          refine held_take 1 (.pointer (some ⟨g, 0, none⟩)) rfl (by kernel_rfl) (by kernel_rfl) (by kernel_rfl) (fun _ _ _ h => h) (.inl ⟨by kernel_rfl, fun w' (hw' : Chg w.heap.size (w.heap.size + 1) w1 w') => by go_simp⟩) HR0.out ?_
          go_simp
          refine held_take 2 (.string x0) rfl (by kernel_rfl) (by kernel_rfl) (by kernel_rfl) (fun _ _ _ h => h) (.inl ⟨by kernel_rfl, fun w' (hw' : Chg w.heap.size (w.heap.size + 1) w1 w') => by have k1 := hw'.cell m0 (Or.inr hgl); go_simp⟩) HR0.out ?_
          go_simp
          refine held_take 4 (.slice (some ⟨g, 0, none⟩) 2 cp) rfl (by kernel_rfl) (by kernel_rfl) (by kernel_rfl) (fun _ _ _ h => h) (.inl ⟨by kernel_rfl, fun w' (hw' : Chg w.heap.size (w.heap.size + 1) w1 w') => by go_simp⟩) HR0.out ?_
          go_simp
          refine held_take 5 (.pointer (some ⟨g, 1, none⟩)) rfl (by kernel_rfl) (by kernel_rfl) (by kernel_rfl) (fun _ _ _ h => h) (.inl ⟨by kernel_rfl, fun w' (hw' : Chg w.heap.size (w.heap.size + 1) w1 w') => by go_simp⟩) HR0.out ?_
          go_simp
          refine held_take 6 (.string x1) rfl (by kernel_rfl) (by kernel_rfl) (by kernel_rfl) (fun _ _ _ h => h) (.inl ⟨by kernel_rfl, fun w' (hw' : Chg w.heap.size (w.heap.size + 1) w1 w') => by have k1 := hw'.cell m1 (Or.inr hgl); go_simp⟩) HR0.out ?_
          go_simp
          refine held_one 3 rfl rfl (by kernel_rfl) ?_
          refine wp_enter 14 #[.string x0] (by first | kernel_rfl | go_simp) (hWord wd) ?_
          rintro e wz ⟨rfl, hwz⟩
          obtain rfl : wd = wz := hwz.symm
          refine ⟨_, rfl, HR0.out, ?_⟩
          go_simp
          refine held_take 7 (.agg #[.int .i64 WN, .string x1, .string ⟨#[]⟩, .int .i64 0, .int .i64 0, .int .i64 0, .string ⟨#[]⟩]) rfl (by kernel_rfl) (by kernel_rfl) (by kernel_rfl) (fun _ _ _ h => h) (.inl ⟨by kernel_rfl, fun w' (hw' : Chg w.heap.size (w.heap.size + 1) w1 w') => by go_simp⟩) HR0.out ?_
          go_simp
          refine held_take 8 (.agg #[.int .i64 1, .int .i64 WN, .string x1, .string ⟨#[]⟩, .int .i64 0, .int .i64 0, .int .i64 0, .string ⟨#[]⟩, .slice none 0 0]) rfl (by kernel_rfl) (by kernel_rfl) (by kernel_rfl) (fun _ _ _ h => h) (.inl ⟨by kernel_rfl, fun w' (hw' : Chg w.heap.size (w.heap.size + 1) w1 w') => by go_simp⟩) HR0.out ?_
          go_simp
          refine held_one 9 rfl rfl (by kernel_rfl) ?_
          have hbz : wd.heap[w.heap.size]? = some (.cells #[.int .i64 0, .int .i64 0, .string ⟨#[]⟩, .string ⟨#[]⟩, .int .i64 0, .int .i64 0, .int .i64 0, .string ⟨#[]⟩, .slice none 0 0] 27 (0, 0)) := (HD0.out.block _ hz1 (by omega)).trans HB1.out
          refine wp_store_row 27 (.tmp 2) (.tmp 74) rfl rfl w.heap.size rfl [.int .i64 1, .int .i64 WN, .string x1, .string ⟨#[]⟩, .int .i64 0, .int .i64 0, .int .i64 0, .string ⟨#[]⟩, .slice none 0 0] [.int .i64 0, .int .i64 0, .string ⟨#[]⟩, .string ⟨#[]⟩, .int .i64 0, .int .i64 0, .int .i64 0, .string ⟨#[]⟩, .slice none 0 0] 27 rfl hbz rfl (by kernel_rfl) (by simp [Value.oneCell']) ?_
          intro wy hy cy
          have HRy : Hid (Chg w.heap.size (w.heap.size + 1) w1 wy) := HR0.out.step cy (Or.inl ⟨Nat.le_refl _, Nat.le_refl _⟩)
          have HCy : Hid (Chg 0 0 w wy) := HC1.out.step HRy.out (Or.inr (Or.inl (Nat.le_refl _)))
          have HBy : Hid (wy.heap[w.heap.size]? = some (.cells #[.int .i64 1, .int .i64 WN, .string x1, .string ⟨#[]⟩, .int .i64 0, .int .i64 0, .int .i64 0, .string ⟨#[]⟩, .slice none 0 0] 27 (0, 0))) := hy
          clear hy cy hbz
          refine ⟨HRy.out, ?_⟩
          refine held_done (by kernel_rfl) (NoPanic.normal ?_)
          obtain ⟨⟨y0, y1, y2, y3, y4, y5, y6, y7, y8⟩, f0, f1, f2, f3, f4, f5, f6, f7, f8⟩ := nine_all HBy.out
          go_wp2
          exact bodyPost_ret (v := lineV ⟨1, WN, x1, ⟨#[]⟩, 0, 0, 0, ⟨#[]⟩, []⟩ (.slice none 0 0)) (by simp [results, Tryz.results4, go_sem, *]) rfl ⟨.slice none 0 0, by rw [HN.out]; rfl, by rw [HN.out]; exact World.ownsRow_nil _ _ _ _, HCy.out⟩
        have HT : Hid (R = if x0 = ⟨#[99, 114, 97, 115, 104]⟩ then (if NB = true ∧ NS.length ≤ 600 then some ⟨5, 0, ⟨#[]⟩, ⟨#[]⟩, 0, 0, 0, ⟨#[]⟩, NS⟩ else none) else if x0 = ⟨#[97, 114, 109]⟩ then (if NB = true ∧ 1 ≤ NS.length ∧ NS.length ≤ 601 ∧ (1 : Int) ≤ NS.getD 0 0 then some ⟨4, 0, ⟨#[]⟩, ⟨#[]⟩, 0, 0, 0, ⟨#[]⟩, NS⟩ else none) else orF LF HF) := by show _ = _; rw [HM.out, if_neg (fun h => hp h.2)]
        clear HM
        by_cases kc : x0 = ⟨#[99, 114, 97, 115, 104]⟩
        · have b_crash : (x0.toList == [99, 114, 97, 115, 104]) = true := tl_yes kc
          have b_arm : (x0.toList == [97, 114, 109]) = false := tl_no (by rw [kc]; decide)
          have HK : Hid (R = (if NB = true ∧ NS.length ≤ 600 then some ⟨5, 0, ⟨#[]⟩, ⟨#[]⟩, 0, 0, 0, ⟨#[]⟩, NS⟩ else none)) := by show _ = _; rw [HT.out, if_pos kc]
          clear HT kc
          go_wp2_with fail
          refine (hNums w1 HE1.out).mono ?_
          rintro e w2 ⟨g2, cp2, rfl, ho2, cc⟩
          clear m0
          have HC2 : Hid (Chg 0 0 w w2) := HC1.out.trans cc
          have HE2 : Hid (Chg 0 0 w1 w2) := HE1.out.trans cc
          have HB2 : Hid (w2.heap[w.heap.size]? = some (.cells #[.int .i64 0, .int .i64 0, .string ⟨#[]⟩, .string ⟨#[]⟩, .int .i64 0, .int .i64 0, .int .i64 0, .string ⟨#[]⟩, .slice none 0 0] 27 (0, 0))) := (cc.block _ (by omega) (by omega)).trans HB1.out
          have hz2 : w.heap.size < w2.heap.size := by have := cc.size; omega
          have hg2 : g < w2.heap.size := by have := cc.size; omega
          have m0 := HE2.out.cell cl0 (by omega)
          have HO : Hid (OwnN w2 w1.heap.size (.slice (some ⟨g2, 0, none⟩) NS.length cp2) NS) := ho2
          clear cc ho2
          obtain ⟨⟨y0, y1, y2, y3, y4, y5, y6, y7, y8⟩, f0, f1, f2, f3, f4, f5, f6, f7, f8⟩ := nine_all HB2.out
          cases NB
          · skip
            have HN : Hid (R = none) := by show _ = _; rw [HK.out]; exact if_neg (fun h => absurd h.1 (by decide))
            clear HK
            go_wp2
            exact bodyPost_ret (v := lineV zeroL (.slice none 0 0)) (by simp [results, Tryz.results4, go_sem, zeroL, *]) rfl ⟨.slice none 0 0, by rw [HN.out]; rfl, by rw [HN.out]; exact World.ownsRow_nil _ _ _ _, (Chg.setCell (Chg.setCell (Chg.setCell (Chg.setCell (Chg.setCell (Chg.setCell (Chg.setCell (Chg.setCell (Chg.setCell HC2.out (Or.inr (Nat.le_refl _)) _) (Or.inr (Nat.le_refl _)) _) (Or.inr (Nat.le_refl _)) _) (Or.inr (Nat.le_refl _)) _) (Or.inr (Nat.le_refl _)) _) (Or.inr (Nat.le_refl _)) _) (Or.inr (Nat.le_refl _)) _) (Or.inr (Nat.le_refl _)) _) (Or.inr (Nat.le_refl _)) _)⟩
          · by_cases h6 : NS.length ≤ 600
            · have h6i : (NS.length : Int) ≤ 600 := by omega
              have HN : Hid (R = some ⟨5, 0, ⟨#[]⟩, ⟨#[]⟩, 0, 0, 0, ⟨#[]⟩, NS⟩) := by show _ = _; rw [HK.out]; exact if_pos ⟨rfl, h6⟩
              clear HK
              go_wp2
              exact bodyPost_ret (v := lineV ⟨5, 0, ⟨#[]⟩, ⟨#[]⟩, 0, 0, 0, ⟨#[]⟩, NS⟩ (.slice (some ⟨g2, 0, none⟩) NS.length cp2)) (by simp [results, Tryz.results4, go_sem, *]) rfl ⟨(.slice (some ⟨g2, 0, none⟩) NS.length cp2), by rw [HN.out]; rfl, by rw [HN.out]; exact OwnN.low (OwnN.set (OwnN.set (OwnN.set (OwnN.set (OwnN.set (OwnN.set (OwnN.set (OwnN.set (OwnN.set HO.out _ _ _ hz1) _ _ _ hz1) _ _ _ hz1) _ _ _ hz1) _ _ _ hz1) _ _ _ hz1) _ _ _ hz1) _ _ _ hz1) _ _ _ hz1) (Nat.le_of_lt hz1), (Chg.setCell (Chg.setCell (Chg.setCell (Chg.setCell (Chg.setCell (Chg.setCell (Chg.setCell (Chg.setCell (Chg.setCell HC2.out (Or.inr (Nat.le_refl _)) _) (Or.inr (Nat.le_refl _)) _) (Or.inr (Nat.le_refl _)) _) (Or.inr (Nat.le_refl _)) _) (Or.inr (Nat.le_refl _)) _) (Or.inr (Nat.le_refl _)) _) (Or.inr (Nat.le_refl _)) _) (Or.inr (Nat.le_refl _)) _) (Or.inr (Nat.le_refl _)) _)⟩
            · have h6i : ¬ ((NS.length : Int) ≤ 600) := by omega
              have HN : Hid (R = none) := by show _ = _; rw [HK.out]; exact if_neg (fun h => h6 h.2)
              clear HK
              go_wp2
              exact bodyPost_ret (v := lineV zeroL (.slice none 0 0)) (by simp [results, Tryz.results4, go_sem, zeroL, *]) rfl ⟨.slice none 0 0, by rw [HN.out]; rfl, by rw [HN.out]; exact World.ownsRow_nil _ _ _ _, (Chg.setCell (Chg.setCell (Chg.setCell (Chg.setCell (Chg.setCell (Chg.setCell (Chg.setCell (Chg.setCell (Chg.setCell HC2.out (Or.inr (Nat.le_refl _)) _) (Or.inr (Nat.le_refl _)) _) (Or.inr (Nat.le_refl _)) _) (Or.inr (Nat.le_refl _)) _) (Or.inr (Nat.le_refl _)) _) (Or.inr (Nat.le_refl _)) _) (Or.inr (Nat.le_refl _)) _) (Or.inr (Nat.le_refl _)) _) (Or.inr (Nat.le_refl _)) _)⟩
        · have b_crash : (x0.toList == [99, 114, 97, 115, 104]) = false := tl_no kc
          by_cases ka : x0 = ⟨#[97, 114, 109]⟩
          · have b_arm : (x0.toList == [97, 114, 109]) = true := tl_yes ka
            have HK : Hid (R = (if NB = true ∧ 1 ≤ NS.length ∧ NS.length ≤ 601 ∧ (1 : Int) ≤ NS.getD 0 0 then some ⟨4, 0, ⟨#[]⟩, ⟨#[]⟩, 0, 0, 0, ⟨#[]⟩, NS⟩ else none)) := by show _ = _; rw [HT.out, if_neg kc, if_pos ka]
            clear HT kc ka
            go_wp2_with fail
            refine (hNums w1 HE1.out).mono ?_
            rintro e w2 ⟨g2, cp2, rfl, ho2, cc⟩
            clear m0
            have HC2 : Hid (Chg 0 0 w w2) := HC1.out.trans cc
            have HE2 : Hid (Chg 0 0 w1 w2) := HE1.out.trans cc
            have HB2 : Hid (w2.heap[w.heap.size]? = some (.cells #[.int .i64 0, .int .i64 0, .string ⟨#[]⟩, .string ⟨#[]⟩, .int .i64 0, .int .i64 0, .int .i64 0, .string ⟨#[]⟩, .slice none 0 0] 27 (0, 0))) := (cc.block _ (by omega) (by omega)).trans HB1.out
            have hz2 : w.heap.size < w2.heap.size := by have := cc.size; omega
            have hg2 : g < w2.heap.size := by have := cc.size; omega
            have m0 := HE2.out.cell cl0 (by omega)
            have HO : Hid (OwnN w2 w1.heap.size (.slice (some ⟨g2, 0, none⟩) NS.length cp2) NS) := ho2
            clear cc ho2
            obtain ⟨⟨y0, y1, y2, y3, y4, y5, y6, y7, y8⟩, f0, f1, f2, f3, f4, f5, f6, f7, f8⟩ := nine_all HB2.out
            cases NB
            · skip
              have HN : Hid (R = none) := by show _ = _; rw [HK.out]; exact if_neg (fun h => absurd h.1 (by decide))
              clear HK
              go_wp2
              exact bodyPost_ret (v := lineV zeroL (.slice none 0 0)) (by simp [results, Tryz.results4, go_sem, zeroL, *]) rfl ⟨.slice none 0 0, by rw [HN.out]; rfl, by rw [HN.out]; exact World.ownsRow_nil _ _ _ _, (Chg.setCell (Chg.setCell (Chg.setCell (Chg.setCell (Chg.setCell (Chg.setCell (Chg.setCell (Chg.setCell (Chg.setCell HC2.out (Or.inr (Nat.le_refl _)) _) (Or.inr (Nat.le_refl _)) _) (Or.inr (Nat.le_refl _)) _) (Or.inr (Nat.le_refl _)) _) (Or.inr (Nat.le_refl _)) _) (Or.inr (Nat.le_refl _)) _) (Or.inr (Nat.le_refl _)) _) (Or.inr (Nat.le_refl _)) _) (Or.inr (Nat.le_refl _)) _)⟩
            · by_cases h0 : 1 ≤ NS.length
              · have h0i : (1 : Int) ≤ (NS.length : Int) := by omega
                have h0j : (0 : Int) < (NS.length : Int) := by omega
                by_cases h6 : NS.length ≤ 601
                · have h6i : (NS.length : Int) ≤ 601 := by omega
                  have cn : w2.cell? ⟨g2, 0, none⟩ = some (.int .i64 (NS.getD 0 0)) := OwnN.first HO.out h0
                  by_cases hf : (1 : Int) ≤ NS.getD 0 0
                  · have HN : Hid (R = some ⟨4, 0, ⟨#[]⟩, ⟨#[]⟩, 0, 0, 0, ⟨#[]⟩, NS⟩) := by show _ = _; rw [HK.out]; exact if_pos ⟨rfl, h0, h6, hf⟩
                    clear HK
                    generalize NS.getD 0 0 = nf at *
                    go_wp2
                    exact bodyPost_ret (v := lineV ⟨4, 0, ⟨#[]⟩, ⟨#[]⟩, 0, 0, 0, ⟨#[]⟩, NS⟩ (.slice (some ⟨g2, 0, none⟩) NS.length cp2)) (by simp [results, Tryz.results4, go_sem, *]) rfl ⟨(.slice (some ⟨g2, 0, none⟩) NS.length cp2), by rw [HN.out]; rfl, by rw [HN.out]; exact OwnN.low (OwnN.set (OwnN.set (OwnN.set (OwnN.set (OwnN.set (OwnN.set (OwnN.set (OwnN.set (OwnN.set HO.out _ _ _ hz1) _ _ _ hz1) _ _ _ hz1) _ _ _ hz1) _ _ _ hz1) _ _ _ hz1) _ _ _ hz1) _ _ _ hz1) _ _ _ hz1) (Nat.le_of_lt hz1), (Chg.setCell (Chg.setCell (Chg.setCell (Chg.setCell (Chg.setCell (Chg.setCell (Chg.setCell (Chg.setCell (Chg.setCell HC2.out (Or.inr (Nat.le_refl _)) _) (Or.inr (Nat.le_refl _)) _) (Or.inr (Nat.le_refl _)) _) (Or.inr (Nat.le_refl _)) _) (Or.inr (Nat.le_refl _)) _) (Or.inr (Nat.le_refl _)) _) (Or.inr (Nat.le_refl _)) _) (Or.inr (Nat.le_refl _)) _) (Or.inr (Nat.le_refl _)) _)⟩
                  · have HN : Hid (R = none) := by show _ = _; rw [HK.out]; exact if_neg (fun h => hf h.2.2.2)
                    clear HK
                    generalize NS.getD 0 0 = nf at *
                    go_wp2
                    exact bodyPost_ret (v := lineV zeroL (.slice none 0 0)) (by simp [results, Tryz.results4, go_sem, zeroL, *]) rfl ⟨.slice none 0 0, by rw [HN.out]; rfl, by rw [HN.out]; exact World.ownsRow_nil _ _ _ _, (Chg.setCell (Chg.setCell (Chg.setCell (Chg.setCell (Chg.setCell (Chg.setCell (Chg.setCell (Chg.setCell (Chg.setCell HC2.out (Or.inr (Nat.le_refl _)) _) (Or.inr (Nat.le_refl _)) _) (Or.inr (Nat.le_refl _)) _) (Or.inr (Nat.le_refl _)) _) (Or.inr (Nat.le_refl _)) _) (Or.inr (Nat.le_refl _)) _) (Or.inr (Nat.le_refl _)) _) (Or.inr (Nat.le_refl _)) _) (Or.inr (Nat.le_refl _)) _)⟩
                · have h6i : ¬ ((NS.length : Int) ≤ 601) := by omega
                  have HN : Hid (R = none) := by show _ = _; rw [HK.out]; exact if_neg (fun h => h6 h.2.2.1)
                  clear HK
                  go_wp2
                  exact bodyPost_ret (v := lineV zeroL (.slice none 0 0)) (by simp [results, Tryz.results4, go_sem, zeroL, *]) rfl ⟨.slice none 0 0, by rw [HN.out]; rfl, by rw [HN.out]; exact World.ownsRow_nil _ _ _ _, (Chg.setCell (Chg.setCell (Chg.setCell (Chg.setCell (Chg.setCell (Chg.setCell (Chg.setCell (Chg.setCell (Chg.setCell HC2.out (Or.inr (Nat.le_refl _)) _) (Or.inr (Nat.le_refl _)) _) (Or.inr (Nat.le_refl _)) _) (Or.inr (Nat.le_refl _)) _) (Or.inr (Nat.le_refl _)) _) (Or.inr (Nat.le_refl _)) _) (Or.inr (Nat.le_refl _)) _) (Or.inr (Nat.le_refl _)) _) (Or.inr (Nat.le_refl _)) _)⟩
              · have h0i : ¬ ((1 : Int) ≤ (NS.length : Int)) := by omega
                have HN : Hid (R = none) := by show _ = _; rw [HK.out]; exact if_neg (fun h => h0 h.2.1)
                clear HK
                go_wp2
                exact bodyPost_ret (v := lineV zeroL (.slice none 0 0)) (by simp [results, Tryz.results4, go_sem, zeroL, *]) rfl ⟨.slice none 0 0, by rw [HN.out]; rfl, by rw [HN.out]; exact World.ownsRow_nil _ _ _ _, (Chg.setCell (Chg.setCell (Chg.setCell (Chg.setCell (Chg.setCell (Chg.setCell (Chg.setCell (Chg.setCell (Chg.setCell HC2.out (Or.inr (Nat.le_refl _)) _) (Or.inr (Nat.le_refl _)) _) (Or.inr (Nat.le_refl _)) _) (Or.inr (Nat.le_refl _)) _) (Or.inr (Nat.le_refl _)) _) (Or.inr (Nat.le_refl _)) _) (Or.inr (Nat.le_refl _)) _) (Or.inr (Nat.le_refl _)) _) (Or.inr (Nat.le_refl _)) _)⟩
          · have b_arm : (x0.toList == [97, 114, 109]) = false := tl_no ka
            have HK : Hid (R = orF LF HF) := by show _ = _; rw [HT.out, if_neg kc, if_neg ka]
            clear HT kc ka
            go_wp2_with fail
            refine (hLong w1 HE1.out).mono ?_
            rintro e w2 ⟨s', rfl, hs', cc⟩
            clear m0
            have HC2 : Hid (Chg 0 0 w w2) := HC1.out.trans cc
            have HE2 : Hid (Chg 0 0 w1 w2) := HE1.out.trans cc
            have HB2 : Hid (w2.heap[w.heap.size]? = some (.cells #[.int .i64 0, .int .i64 0, .string ⟨#[]⟩, .string ⟨#[]⟩, .int .i64 0, .int .i64 0, .int .i64 0, .string ⟨#[]⟩, .slice none 0 0] 27 (0, 0))) := (cc.block _ (by omega) (by omega)).trans HB1.out
            have hz2 : w.heap.size < w2.heap.size := by have := cc.size; omega
            have hg2 : g < w2.heap.size := by have := cc.size; omega
            have m0 := HE2.out.cell cl0 (by omega)
            clear cc
            cases LF with
            | some s =>
              obtain rfl := hs' s rfl
              have HN : Hid (R = some s) := HK.out
              rw [Option.isSome_some]
              clear HK hs'
              obtain ⟨hk1, hk2⟩ := HLl.out s rfl
              have HV : Hid (∀ W, (∃ nv, Ending.returned (.agg #[.int .i64 1, .int .i64 s.ck, .string s.path, .string s.to', .int .i64 s.han, .int .i64 s.off, .int .i64 s.siz, .string s.data, .slice none 0 0]) = .returned (lineV (R.getD zeroL) nv) ∧ OwnN W w.heap.size nv (R.getD zeroL).nums) ) := fun W => ⟨.slice none 0 0, by
                rw [HN.out]
                show Ending.returned (.agg #[.int .i64 1, .int .i64 s.ck, .string s.path, .string s.to', .int .i64 s.han, .int .i64 s.off, .int .i64 s.siz, .string s.data, .slice none 0 0]) = .returned (.agg #[.int .i64 s.kind, .int .i64 s.ck, .string s.path, .string s.to', .int .i64 s.han, .int .i64 s.off, .int .i64 s.siz, .string s.data, .slice none 0 0])
                rw [hk1], by
                rw [HN.out]
                show OwnN W w.heap.size (.slice none 0 0) s.nums
                rw [hk2]
                exact World.ownsRow_nil _ _ _ _⟩
              clear HN hk1 hk2
              obtain ⟨⟨y0, y1, y2, y3, y4, y5, y6, y7, y8⟩, f0, f1, f2, f3, f4, f5, f6, f7, f8⟩ := nine_all HB2.out
              go_wp2
              exact bodyPost_ret (v := .agg #[.int .i64 1, .int .i64 s.ck, .string s.path, .string s.to', .int .i64 s.han, .int .i64 s.off, .int .i64 s.siz, .string s.data, .slice none 0 0]) (by simp [results, Tryz.results4, go_sem, *]) rfl (by
                obtain ⟨nv, e1, e2⟩ := HV.out _
                exact ⟨nv, e1, e2, (Chg.alloc (Chg.setCell (Chg.setCell (Chg.setCell (Chg.setCell (Chg.setCell (Chg.setCell (Chg.setCell (Chg.setCell (Chg.setCell HC2.out (Or.inr (Nat.le_refl _)) _) (Or.inr (Nat.le_refl _)) _) (Or.inr (Nat.le_refl _)) _) (Or.inr (Nat.le_refl _)) _) (Or.inr (Nat.le_refl _)) _) (Or.inr (Nat.le_refl _)) _) (Or.inr (Nat.le_refl _)) _) (Or.inr (Nat.le_refl _)) _) (Or.inr (Nat.le_refl _)) _) _)⟩)
            | none =>
              have HK2 : Hid (R = HF) := HK.out
              rw [Option.isSome_none]
              clear HK hs'
              have HC3 : Hid (Chg 0 0 w (w2.alloc (.cells #[.int .i64 s'.ck, .string s'.path, .string s'.to', .int .i64 s'.han, .int .i64 s'.off, .int .i64 s'.siz, .string s'.data] 24))) := Chg.alloc HC2.out _
              have HE3 : Hid (Chg 0 0 w1 (w2.alloc (.cells #[.int .i64 s'.ck, .string s'.path, .string s'.to', .int .i64 s'.han, .int .i64 s'.off, .int .i64 s'.siz, .string s'.data] 24))) := Chg.alloc HE2.out _
              have HB3 : Hid ((w2.alloc (.cells #[.int .i64 s'.ck, .string s'.path, .string s'.to', .int .i64 s'.han, .int .i64 s'.off, .int .i64 s'.siz, .string s'.data] 24)).heap[w.heap.size]? = some (.cells #[.int .i64 0, .int .i64 0, .string ⟨#[]⟩, .string ⟨#[]⟩, .int .i64 0, .int .i64 0, .int .i64 0, .string ⟨#[]⟩, .slice none 0 0] 27 (0, 0))) := ((Chg.alloc (Chg.refl 0 0 w2) _).block _ hz2 (by omega)).trans HB2.out
              have hz3 : w.heap.size < (w2.alloc (.cells #[.int .i64 s'.ck, .string s'.path, .string s'.to', .int .i64 s'.han, .int .i64 s'.off, .int .i64 s'.siz, .string s'.data] 24)).heap.size := by simp; omega
              have hg3 : g < (w2.alloc (.cells #[.int .i64 s'.ck, .string s'.path, .string s'.to', .int .i64 s'.han, .int .i64 s'.off, .int .i64 s'.siz, .string s'.data] 24)).heap.size := by simp; omega
              go_wp2_with fail
              generalize w2.alloc (.cells #[.int .i64 s'.ck, .string s'.path, .string s'.to', .int .i64 s'.han, .int .i64 s'.off, .int .i64 s'.siz, .string s'.data] 24) = w3 at *
              refine (hHan w3 HE3.out).mono ?_
              rintro e w4 ⟨s2, rfl, hs2, cc⟩
              clear m0
              have HC4 : Hid (Chg 0 0 w w4) := HC3.out.trans cc
              have HE4 : Hid (Chg 0 0 w1 w4) := HE3.out.trans cc
              have HB4 : Hid (w4.heap[w.heap.size]? = some (.cells #[.int .i64 0, .int .i64 0, .string ⟨#[]⟩, .string ⟨#[]⟩, .int .i64 0, .int .i64 0, .int .i64 0, .string ⟨#[]⟩, .slice none 0 0] 27 (0, 0))) := (cc.block _ (by omega) (by omega)).trans HB3.out
              have hz4 : w.heap.size < w4.heap.size := by have := cc.size; omega
              have hg4 : g < w4.heap.size := by have := cc.size; omega
              have m0 := HE4.out.cell cl0 (by omega)
              clear cc
              cases HF with
              | some s =>
                obtain rfl := hs2 s rfl
                have HN : Hid (R = some s) := HK2.out
                rw [Option.isSome_some]
                clear HK2 hs2
                obtain ⟨hk1, hk2⟩ := HHl.out s rfl
                have HV : Hid (∀ W, (∃ nv, Ending.returned (.agg #[.int .i64 1, .int .i64 s.ck, .string s.path, .string s.to', .int .i64 s.han, .int .i64 s.off, .int .i64 s.siz, .string s.data, .slice none 0 0]) = .returned (lineV (R.getD zeroL) nv) ∧ OwnN W w.heap.size nv (R.getD zeroL).nums) ) := fun W => ⟨.slice none 0 0, by
                  rw [HN.out]
                  show Ending.returned (.agg #[.int .i64 1, .int .i64 s.ck, .string s.path, .string s.to', .int .i64 s.han, .int .i64 s.off, .int .i64 s.siz, .string s.data, .slice none 0 0]) = .returned (.agg #[.int .i64 s.kind, .int .i64 s.ck, .string s.path, .string s.to', .int .i64 s.han, .int .i64 s.off, .int .i64 s.siz, .string s.data, .slice none 0 0])
                  rw [hk1], by
                  rw [HN.out]
                  show OwnN W w.heap.size (.slice none 0 0) s.nums
                  rw [hk2]
                  exact World.ownsRow_nil _ _ _ _⟩
                clear HN hk1 hk2
                obtain ⟨⟨y0, y1, y2, y3, y4, y5, y6, y7, y8⟩, f0, f1, f2, f3, f4, f5, f6, f7, f8⟩ := nine_all HB4.out
                go_wp2
                exact bodyPost_ret (v := .agg #[.int .i64 1, .int .i64 s.ck, .string s.path, .string s.to', .int .i64 s.han, .int .i64 s.off, .int .i64 s.siz, .string s.data, .slice none 0 0]) (by simp [results, Tryz.results4, go_sem, *]) rfl (by
                  obtain ⟨nv, e1, e2⟩ := HV.out _
                  exact ⟨nv, e1, e2, (Chg.alloc (Chg.setCell (Chg.setCell (Chg.setCell (Chg.setCell (Chg.setCell (Chg.setCell (Chg.setCell (Chg.setCell (Chg.setCell HC4.out (Or.inr (Nat.le_refl _)) _) (Or.inr (Nat.le_refl _)) _) (Or.inr (Nat.le_refl _)) _) (Or.inr (Nat.le_refl _)) _) (Or.inr (Nat.le_refl _)) _) (Or.inr (Nat.le_refl _)) _) (Or.inr (Nat.le_refl _)) _) (Or.inr (Nat.le_refl _)) _) (Or.inr (Nat.le_refl _)) _) _)⟩)
              | none =>
                have HN : Hid (R = none) := HK2.out
                rw [Option.isSome_none]
                clear HK2 hs2
                obtain ⟨⟨y0, y1, y2, y3, y4, y5, y6, y7, y8⟩, f0, f1, f2, f3, f4, f5, f6, f7, f8⟩ := nine_all HB4.out
                go_wp2
                exact bodyPost_ret (v := lineV zeroL (.slice none 0 0)) (by simp [results, Tryz.results4, go_sem, zeroL, *]) rfl ⟨.slice none 0 0, by rw [HN.out]; rfl, by rw [HN.out]; exact World.ownsRow_nil _ _ _ _, (Chg.alloc (Chg.setCell (Chg.setCell (Chg.setCell (Chg.setCell (Chg.setCell (Chg.setCell (Chg.setCell (Chg.setCell (Chg.setCell HC4.out (Or.inr (Nat.le_refl _)) _) (Or.inr (Nat.le_refl _)) _) (Or.inr (Nat.le_refl _)) _) (Or.inr (Nat.le_refl _)) _) (Or.inr (Nat.le_refl _)) _) (Or.inr (Nat.le_refl _)) _) (Or.inr (Nat.le_refl _)) _) (Or.inr (Nat.le_refl _)) _) (Or.inr (Nat.le_refl _)) _) _)⟩
      have hl2 : (((k : Nat) : Int) == 2) = false := by rw [beq_eq_false_iff_ne]; omega
      have HT : Hid (R = if x0 = ⟨#[99, 114, 97, 115, 104]⟩ then (if NB = true ∧ NS.length ≤ 600 then some ⟨5, 0, ⟨#[]⟩, ⟨#[]⟩, 0, 0, 0, ⟨#[]⟩, NS⟩ else none) else if x0 = ⟨#[97, 114, 109]⟩ then (if NB = true ∧ 1 ≤ NS.length ∧ NS.length ≤ 601 ∧ (1 : Int) ≤ NS.getD 0 0 then some ⟨4, 0, ⟨#[]⟩, ⟨#[]⟩, 0, 0, 0, ⟨#[]⟩, NS⟩ else none) else orF LF HF) := by show _ = _; rw [HM.out, if_neg (fun h => h2 h.1)]
      clear HM
      by_cases kc : x0 = ⟨#[99, 114, 97, 115, 104]⟩
      · have b_crash : (x0.toList == [99, 114, 97, 115, 104]) = true := tl_yes kc
        have b_arm : (x0.toList == [97, 114, 109]) = false := tl_no (by rw [kc]; decide)
        have HK : Hid (R = (if NB = true ∧ NS.length ≤ 600 then some ⟨5, 0, ⟨#[]⟩, ⟨#[]⟩, 0, 0, 0, ⟨#[]⟩, NS⟩ else none)) := by show _ = _; rw [HT.out, if_pos kc]
        clear HT kc
        go_wp2_with fail
        refine (hNums w1 HE1.out).mono ?_
        rintro e w2 ⟨g2, cp2, rfl, ho2, cc⟩
        clear m0
        have HC2 : Hid (Chg 0 0 w w2) := HC1.out.trans cc
        have HE2 : Hid (Chg 0 0 w1 w2) := HE1.out.trans cc
        have HB2 : Hid (w2.heap[w.heap.size]? = some (.cells #[.int .i64 0, .int .i64 0, .string ⟨#[]⟩, .string ⟨#[]⟩, .int .i64 0, .int .i64 0, .int .i64 0, .string ⟨#[]⟩, .slice none 0 0] 27 (0, 0))) := (cc.block _ (by omega) (by omega)).trans HB1.out
        have hz2 : w.heap.size < w2.heap.size := by have := cc.size; omega
        have hg2 : g < w2.heap.size := by have := cc.size; omega
        have m0 := HE2.out.cell cl0 (by omega)
        have HO : Hid (OwnN w2 w1.heap.size (.slice (some ⟨g2, 0, none⟩) NS.length cp2) NS) := ho2
        clear cc ho2
        obtain ⟨⟨y0, y1, y2, y3, y4, y5, y6, y7, y8⟩, f0, f1, f2, f3, f4, f5, f6, f7, f8⟩ := nine_all HB2.out
        cases NB
        · skip
          have HN : Hid (R = none) := by show _ = _; rw [HK.out]; exact if_neg (fun h => absurd h.1 (by decide))
          clear HK
          go_wp2
          exact bodyPost_ret (v := lineV zeroL (.slice none 0 0)) (by simp [results, Tryz.results4, go_sem, zeroL, *]) rfl ⟨.slice none 0 0, by rw [HN.out]; rfl, by rw [HN.out]; exact World.ownsRow_nil _ _ _ _, (Chg.setCell (Chg.setCell (Chg.setCell (Chg.setCell (Chg.setCell (Chg.setCell (Chg.setCell (Chg.setCell (Chg.setCell HC2.out (Or.inr (Nat.le_refl _)) _) (Or.inr (Nat.le_refl _)) _) (Or.inr (Nat.le_refl _)) _) (Or.inr (Nat.le_refl _)) _) (Or.inr (Nat.le_refl _)) _) (Or.inr (Nat.le_refl _)) _) (Or.inr (Nat.le_refl _)) _) (Or.inr (Nat.le_refl _)) _) (Or.inr (Nat.le_refl _)) _)⟩
        · by_cases h6 : NS.length ≤ 600
          · have h6i : (NS.length : Int) ≤ 600 := by omega
            have HN : Hid (R = some ⟨5, 0, ⟨#[]⟩, ⟨#[]⟩, 0, 0, 0, ⟨#[]⟩, NS⟩) := by show _ = _; rw [HK.out]; exact if_pos ⟨rfl, h6⟩
            clear HK
            go_wp2
            exact bodyPost_ret (v := lineV ⟨5, 0, ⟨#[]⟩, ⟨#[]⟩, 0, 0, 0, ⟨#[]⟩, NS⟩ (.slice (some ⟨g2, 0, none⟩) NS.length cp2)) (by simp [results, Tryz.results4, go_sem, *]) rfl ⟨(.slice (some ⟨g2, 0, none⟩) NS.length cp2), by rw [HN.out]; rfl, by rw [HN.out]; exact OwnN.low (OwnN.set (OwnN.set (OwnN.set (OwnN.set (OwnN.set (OwnN.set (OwnN.set (OwnN.set (OwnN.set HO.out _ _ _ hz1) _ _ _ hz1) _ _ _ hz1) _ _ _ hz1) _ _ _ hz1) _ _ _ hz1) _ _ _ hz1) _ _ _ hz1) _ _ _ hz1) (Nat.le_of_lt hz1), (Chg.setCell (Chg.setCell (Chg.setCell (Chg.setCell (Chg.setCell (Chg.setCell (Chg.setCell (Chg.setCell (Chg.setCell HC2.out (Or.inr (Nat.le_refl _)) _) (Or.inr (Nat.le_refl _)) _) (Or.inr (Nat.le_refl _)) _) (Or.inr (Nat.le_refl _)) _) (Or.inr (Nat.le_refl _)) _) (Or.inr (Nat.le_refl _)) _) (Or.inr (Nat.le_refl _)) _) (Or.inr (Nat.le_refl _)) _) (Or.inr (Nat.le_refl _)) _)⟩
          · have h6i : ¬ ((NS.length : Int) ≤ 600) := by omega
            have HN : Hid (R = none) := by show _ = _; rw [HK.out]; exact if_neg (fun h => h6 h.2)
            clear HK
            go_wp2
            exact bodyPost_ret (v := lineV zeroL (.slice none 0 0)) (by simp [results, Tryz.results4, go_sem, zeroL, *]) rfl ⟨.slice none 0 0, by rw [HN.out]; rfl, by rw [HN.out]; exact World.ownsRow_nil _ _ _ _, (Chg.setCell (Chg.setCell (Chg.setCell (Chg.setCell (Chg.setCell (Chg.setCell (Chg.setCell (Chg.setCell (Chg.setCell HC2.out (Or.inr (Nat.le_refl _)) _) (Or.inr (Nat.le_refl _)) _) (Or.inr (Nat.le_refl _)) _) (Or.inr (Nat.le_refl _)) _) (Or.inr (Nat.le_refl _)) _) (Or.inr (Nat.le_refl _)) _) (Or.inr (Nat.le_refl _)) _) (Or.inr (Nat.le_refl _)) _) (Or.inr (Nat.le_refl _)) _)⟩
      · have b_crash : (x0.toList == [99, 114, 97, 115, 104]) = false := tl_no kc
        by_cases ka : x0 = ⟨#[97, 114, 109]⟩
        · have b_arm : (x0.toList == [97, 114, 109]) = true := tl_yes ka
          have HK : Hid (R = (if NB = true ∧ 1 ≤ NS.length ∧ NS.length ≤ 601 ∧ (1 : Int) ≤ NS.getD 0 0 then some ⟨4, 0, ⟨#[]⟩, ⟨#[]⟩, 0, 0, 0, ⟨#[]⟩, NS⟩ else none)) := by show _ = _; rw [HT.out, if_neg kc, if_pos ka]
          clear HT kc ka
          go_wp2_with fail
          refine (hNums w1 HE1.out).mono ?_
          rintro e w2 ⟨g2, cp2, rfl, ho2, cc⟩
          clear m0
          have HC2 : Hid (Chg 0 0 w w2) := HC1.out.trans cc
          have HE2 : Hid (Chg 0 0 w1 w2) := HE1.out.trans cc
          have HB2 : Hid (w2.heap[w.heap.size]? = some (.cells #[.int .i64 0, .int .i64 0, .string ⟨#[]⟩, .string ⟨#[]⟩, .int .i64 0, .int .i64 0, .int .i64 0, .string ⟨#[]⟩, .slice none 0 0] 27 (0, 0))) := (cc.block _ (by omega) (by omega)).trans HB1.out
          have hz2 : w.heap.size < w2.heap.size := by have := cc.size; omega
          have hg2 : g < w2.heap.size := by have := cc.size; omega
          have m0 := HE2.out.cell cl0 (by omega)
          have HO : Hid (OwnN w2 w1.heap.size (.slice (some ⟨g2, 0, none⟩) NS.length cp2) NS) := ho2
          clear cc ho2
          obtain ⟨⟨y0, y1, y2, y3, y4, y5, y6, y7, y8⟩, f0, f1, f2, f3, f4, f5, f6, f7, f8⟩ := nine_all HB2.out
          cases NB
          · skip
            have HN : Hid (R = none) := by show _ = _; rw [HK.out]; exact if_neg (fun h => absurd h.1 (by decide))
            clear HK
            go_wp2
            exact bodyPost_ret (v := lineV zeroL (.slice none 0 0)) (by simp [results, Tryz.results4, go_sem, zeroL, *]) rfl ⟨.slice none 0 0, by rw [HN.out]; rfl, by rw [HN.out]; exact World.ownsRow_nil _ _ _ _, (Chg.setCell (Chg.setCell (Chg.setCell (Chg.setCell (Chg.setCell (Chg.setCell (Chg.setCell (Chg.setCell (Chg.setCell HC2.out (Or.inr (Nat.le_refl _)) _) (Or.inr (Nat.le_refl _)) _) (Or.inr (Nat.le_refl _)) _) (Or.inr (Nat.le_refl _)) _) (Or.inr (Nat.le_refl _)) _) (Or.inr (Nat.le_refl _)) _) (Or.inr (Nat.le_refl _)) _) (Or.inr (Nat.le_refl _)) _) (Or.inr (Nat.le_refl _)) _)⟩
          · by_cases h0 : 1 ≤ NS.length
            · have h0i : (1 : Int) ≤ (NS.length : Int) := by omega
              have h0j : (0 : Int) < (NS.length : Int) := by omega
              by_cases h6 : NS.length ≤ 601
              · have h6i : (NS.length : Int) ≤ 601 := by omega
                have cn : w2.cell? ⟨g2, 0, none⟩ = some (.int .i64 (NS.getD 0 0)) := OwnN.first HO.out h0
                by_cases hf : (1 : Int) ≤ NS.getD 0 0
                · have HN : Hid (R = some ⟨4, 0, ⟨#[]⟩, ⟨#[]⟩, 0, 0, 0, ⟨#[]⟩, NS⟩) := by show _ = _; rw [HK.out]; exact if_pos ⟨rfl, h0, h6, hf⟩
                  clear HK
                  generalize NS.getD 0 0 = nf at *
                  go_wp2
                  exact bodyPost_ret (v := lineV ⟨4, 0, ⟨#[]⟩, ⟨#[]⟩, 0, 0, 0, ⟨#[]⟩, NS⟩ (.slice (some ⟨g2, 0, none⟩) NS.length cp2)) (by simp [results, Tryz.results4, go_sem, *]) rfl ⟨(.slice (some ⟨g2, 0, none⟩) NS.length cp2), by rw [HN.out]; rfl, by rw [HN.out]; exact OwnN.low (OwnN.set (OwnN.set (OwnN.set (OwnN.set (OwnN.set (OwnN.set (OwnN.set (OwnN.set (OwnN.set HO.out _ _ _ hz1) _ _ _ hz1) _ _ _ hz1) _ _ _ hz1) _ _ _ hz1) _ _ _ hz1) _ _ _ hz1) _ _ _ hz1) _ _ _ hz1) (Nat.le_of_lt hz1), (Chg.setCell (Chg.setCell (Chg.setCell (Chg.setCell (Chg.setCell (Chg.setCell (Chg.setCell (Chg.setCell (Chg.setCell HC2.out (Or.inr (Nat.le_refl _)) _) (Or.inr (Nat.le_refl _)) _) (Or.inr (Nat.le_refl _)) _) (Or.inr (Nat.le_refl _)) _) (Or.inr (Nat.le_refl _)) _) (Or.inr (Nat.le_refl _)) _) (Or.inr (Nat.le_refl _)) _) (Or.inr (Nat.le_refl _)) _) (Or.inr (Nat.le_refl _)) _)⟩
                · have HN : Hid (R = none) := by show _ = _; rw [HK.out]; exact if_neg (fun h => hf h.2.2.2)
                  clear HK
                  generalize NS.getD 0 0 = nf at *
                  go_wp2
                  exact bodyPost_ret (v := lineV zeroL (.slice none 0 0)) (by simp [results, Tryz.results4, go_sem, zeroL, *]) rfl ⟨.slice none 0 0, by rw [HN.out]; rfl, by rw [HN.out]; exact World.ownsRow_nil _ _ _ _, (Chg.setCell (Chg.setCell (Chg.setCell (Chg.setCell (Chg.setCell (Chg.setCell (Chg.setCell (Chg.setCell (Chg.setCell HC2.out (Or.inr (Nat.le_refl _)) _) (Or.inr (Nat.le_refl _)) _) (Or.inr (Nat.le_refl _)) _) (Or.inr (Nat.le_refl _)) _) (Or.inr (Nat.le_refl _)) _) (Or.inr (Nat.le_refl _)) _) (Or.inr (Nat.le_refl _)) _) (Or.inr (Nat.le_refl _)) _) (Or.inr (Nat.le_refl _)) _)⟩
              · have h6i : ¬ ((NS.length : Int) ≤ 601) := by omega
                have HN : Hid (R = none) := by show _ = _; rw [HK.out]; exact if_neg (fun h => h6 h.2.2.1)
                clear HK
                go_wp2
                exact bodyPost_ret (v := lineV zeroL (.slice none 0 0)) (by simp [results, Tryz.results4, go_sem, zeroL, *]) rfl ⟨.slice none 0 0, by rw [HN.out]; rfl, by rw [HN.out]; exact World.ownsRow_nil _ _ _ _, (Chg.setCell (Chg.setCell (Chg.setCell (Chg.setCell (Chg.setCell (Chg.setCell (Chg.setCell (Chg.setCell (Chg.setCell HC2.out (Or.inr (Nat.le_refl _)) _) (Or.inr (Nat.le_refl _)) _) (Or.inr (Nat.le_refl _)) _) (Or.inr (Nat.le_refl _)) _) (Or.inr (Nat.le_refl _)) _) (Or.inr (Nat.le_refl _)) _) (Or.inr (Nat.le_refl _)) _) (Or.inr (Nat.le_refl _)) _) (Or.inr (Nat.le_refl _)) _)⟩
            · have h0i : ¬ ((1 : Int) ≤ (NS.length : Int)) := by omega
              have HN : Hid (R = none) := by show _ = _; rw [HK.out]; exact if_neg (fun h => h0 h.2.1)
              clear HK
              go_wp2
              exact bodyPost_ret (v := lineV zeroL (.slice none 0 0)) (by simp [results, Tryz.results4, go_sem, zeroL, *]) rfl ⟨.slice none 0 0, by rw [HN.out]; rfl, by rw [HN.out]; exact World.ownsRow_nil _ _ _ _, (Chg.setCell (Chg.setCell (Chg.setCell (Chg.setCell (Chg.setCell (Chg.setCell (Chg.setCell (Chg.setCell (Chg.setCell HC2.out (Or.inr (Nat.le_refl _)) _) (Or.inr (Nat.le_refl _)) _) (Or.inr (Nat.le_refl _)) _) (Or.inr (Nat.le_refl _)) _) (Or.inr (Nat.le_refl _)) _) (Or.inr (Nat.le_refl _)) _) (Or.inr (Nat.le_refl _)) _) (Or.inr (Nat.le_refl _)) _) (Or.inr (Nat.le_refl _)) _)⟩
        · have b_arm : (x0.toList == [97, 114, 109]) = false := tl_no ka
          have HK : Hid (R = orF LF HF) := by show _ = _; rw [HT.out, if_neg kc, if_neg ka]
          clear HT kc ka
          go_wp2_with fail
          refine (hLong w1 HE1.out).mono ?_
          rintro e w2 ⟨s', rfl, hs', cc⟩
          clear m0
          have HC2 : Hid (Chg 0 0 w w2) := HC1.out.trans cc
          have HE2 : Hid (Chg 0 0 w1 w2) := HE1.out.trans cc
          have HB2 : Hid (w2.heap[w.heap.size]? = some (.cells #[.int .i64 0, .int .i64 0, .string ⟨#[]⟩, .string ⟨#[]⟩, .int .i64 0, .int .i64 0, .int .i64 0, .string ⟨#[]⟩, .slice none 0 0] 27 (0, 0))) := (cc.block _ (by omega) (by omega)).trans HB1.out
          have hz2 : w.heap.size < w2.heap.size := by have := cc.size; omega
          have hg2 : g < w2.heap.size := by have := cc.size; omega
          have m0 := HE2.out.cell cl0 (by omega)
          clear cc
          cases LF with
          | some s =>
            obtain rfl := hs' s rfl
            have HN : Hid (R = some s) := HK.out
            rw [Option.isSome_some]
            clear HK hs'
            obtain ⟨hk1, hk2⟩ := HLl.out s rfl
            have HV : Hid (∀ W, (∃ nv, Ending.returned (.agg #[.int .i64 1, .int .i64 s.ck, .string s.path, .string s.to', .int .i64 s.han, .int .i64 s.off, .int .i64 s.siz, .string s.data, .slice none 0 0]) = .returned (lineV (R.getD zeroL) nv) ∧ OwnN W w.heap.size nv (R.getD zeroL).nums) ) := fun W => ⟨.slice none 0 0, by
              rw [HN.out]
              show Ending.returned (.agg #[.int .i64 1, .int .i64 s.ck, .string s.path, .string s.to', .int .i64 s.han, .int .i64 s.off, .int .i64 s.siz, .string s.data, .slice none 0 0]) = .returned (.agg #[.int .i64 s.kind, .int .i64 s.ck, .string s.path, .string s.to', .int .i64 s.han, .int .i64 s.off, .int .i64 s.siz, .string s.data, .slice none 0 0])
              rw [hk1], by
              rw [HN.out]
              show OwnN W w.heap.size (.slice none 0 0) s.nums
              rw [hk2]
              exact World.ownsRow_nil _ _ _ _⟩
            clear HN hk1 hk2
            obtain ⟨⟨y0, y1, y2, y3, y4, y5, y6, y7, y8⟩, f0, f1, f2, f3, f4, f5, f6, f7, f8⟩ := nine_all HB2.out
            go_wp2
            exact bodyPost_ret (v := .agg #[.int .i64 1, .int .i64 s.ck, .string s.path, .string s.to', .int .i64 s.han, .int .i64 s.off, .int .i64 s.siz, .string s.data, .slice none 0 0]) (by simp [results, Tryz.results4, go_sem, *]) rfl (by
              obtain ⟨nv, e1, e2⟩ := HV.out _
              exact ⟨nv, e1, e2, (Chg.alloc (Chg.setCell (Chg.setCell (Chg.setCell (Chg.setCell (Chg.setCell (Chg.setCell (Chg.setCell (Chg.setCell (Chg.setCell HC2.out (Or.inr (Nat.le_refl _)) _) (Or.inr (Nat.le_refl _)) _) (Or.inr (Nat.le_refl _)) _) (Or.inr (Nat.le_refl _)) _) (Or.inr (Nat.le_refl _)) _) (Or.inr (Nat.le_refl _)) _) (Or.inr (Nat.le_refl _)) _) (Or.inr (Nat.le_refl _)) _) (Or.inr (Nat.le_refl _)) _) _)⟩)
          | none =>
            have HK2 : Hid (R = HF) := HK.out
            rw [Option.isSome_none]
            clear HK hs'
            have HC3 : Hid (Chg 0 0 w (w2.alloc (.cells #[.int .i64 s'.ck, .string s'.path, .string s'.to', .int .i64 s'.han, .int .i64 s'.off, .int .i64 s'.siz, .string s'.data] 24))) := Chg.alloc HC2.out _
            have HE3 : Hid (Chg 0 0 w1 (w2.alloc (.cells #[.int .i64 s'.ck, .string s'.path, .string s'.to', .int .i64 s'.han, .int .i64 s'.off, .int .i64 s'.siz, .string s'.data] 24))) := Chg.alloc HE2.out _
            have HB3 : Hid ((w2.alloc (.cells #[.int .i64 s'.ck, .string s'.path, .string s'.to', .int .i64 s'.han, .int .i64 s'.off, .int .i64 s'.siz, .string s'.data] 24)).heap[w.heap.size]? = some (.cells #[.int .i64 0, .int .i64 0, .string ⟨#[]⟩, .string ⟨#[]⟩, .int .i64 0, .int .i64 0, .int .i64 0, .string ⟨#[]⟩, .slice none 0 0] 27 (0, 0))) := ((Chg.alloc (Chg.refl 0 0 w2) _).block _ hz2 (by omega)).trans HB2.out
            have hz3 : w.heap.size < (w2.alloc (.cells #[.int .i64 s'.ck, .string s'.path, .string s'.to', .int .i64 s'.han, .int .i64 s'.off, .int .i64 s'.siz, .string s'.data] 24)).heap.size := by simp; omega
            have hg3 : g < (w2.alloc (.cells #[.int .i64 s'.ck, .string s'.path, .string s'.to', .int .i64 s'.han, .int .i64 s'.off, .int .i64 s'.siz, .string s'.data] 24)).heap.size := by simp; omega
            go_wp2_with fail
            generalize w2.alloc (.cells #[.int .i64 s'.ck, .string s'.path, .string s'.to', .int .i64 s'.han, .int .i64 s'.off, .int .i64 s'.siz, .string s'.data] 24) = w3 at *
            refine (hHan w3 HE3.out).mono ?_
            rintro e w4 ⟨s2, rfl, hs2, cc⟩
            clear m0
            have HC4 : Hid (Chg 0 0 w w4) := HC3.out.trans cc
            have HE4 : Hid (Chg 0 0 w1 w4) := HE3.out.trans cc
            have HB4 : Hid (w4.heap[w.heap.size]? = some (.cells #[.int .i64 0, .int .i64 0, .string ⟨#[]⟩, .string ⟨#[]⟩, .int .i64 0, .int .i64 0, .int .i64 0, .string ⟨#[]⟩, .slice none 0 0] 27 (0, 0))) := (cc.block _ (by omega) (by omega)).trans HB3.out
            have hz4 : w.heap.size < w4.heap.size := by have := cc.size; omega
            have hg4 : g < w4.heap.size := by have := cc.size; omega
            have m0 := HE4.out.cell cl0 (by omega)
            clear cc
            cases HF with
            | some s =>
              obtain rfl := hs2 s rfl
              have HN : Hid (R = some s) := HK2.out
              rw [Option.isSome_some]
              clear HK2 hs2
              obtain ⟨hk1, hk2⟩ := HHl.out s rfl
              have HV : Hid (∀ W, (∃ nv, Ending.returned (.agg #[.int .i64 1, .int .i64 s.ck, .string s.path, .string s.to', .int .i64 s.han, .int .i64 s.off, .int .i64 s.siz, .string s.data, .slice none 0 0]) = .returned (lineV (R.getD zeroL) nv) ∧ OwnN W w.heap.size nv (R.getD zeroL).nums) ) := fun W => ⟨.slice none 0 0, by
                rw [HN.out]
                show Ending.returned (.agg #[.int .i64 1, .int .i64 s.ck, .string s.path, .string s.to', .int .i64 s.han, .int .i64 s.off, .int .i64 s.siz, .string s.data, .slice none 0 0]) = .returned (.agg #[.int .i64 s.kind, .int .i64 s.ck, .string s.path, .string s.to', .int .i64 s.han, .int .i64 s.off, .int .i64 s.siz, .string s.data, .slice none 0 0])
                rw [hk1], by
                rw [HN.out]
                show OwnN W w.heap.size (.slice none 0 0) s.nums
                rw [hk2]
                exact World.ownsRow_nil _ _ _ _⟩
              clear HN hk1 hk2
              obtain ⟨⟨y0, y1, y2, y3, y4, y5, y6, y7, y8⟩, f0, f1, f2, f3, f4, f5, f6, f7, f8⟩ := nine_all HB4.out
              go_wp2
              exact bodyPost_ret (v := .agg #[.int .i64 1, .int .i64 s.ck, .string s.path, .string s.to', .int .i64 s.han, .int .i64 s.off, .int .i64 s.siz, .string s.data, .slice none 0 0]) (by simp [results, Tryz.results4, go_sem, *]) rfl (by
                obtain ⟨nv, e1, e2⟩ := HV.out _
                exact ⟨nv, e1, e2, (Chg.alloc (Chg.setCell (Chg.setCell (Chg.setCell (Chg.setCell (Chg.setCell (Chg.setCell (Chg.setCell (Chg.setCell (Chg.setCell HC4.out (Or.inr (Nat.le_refl _)) _) (Or.inr (Nat.le_refl _)) _) (Or.inr (Nat.le_refl _)) _) (Or.inr (Nat.le_refl _)) _) (Or.inr (Nat.le_refl _)) _) (Or.inr (Nat.le_refl _)) _) (Or.inr (Nat.le_refl _)) _) (Or.inr (Nat.le_refl _)) _) (Or.inr (Nat.le_refl _)) _) _)⟩)
            | none =>
              have HN : Hid (R = none) := HK2.out
              rw [Option.isSome_none]
              clear HK2 hs2
              obtain ⟨⟨y0, y1, y2, y3, y4, y5, y6, y7, y8⟩, f0, f1, f2, f3, f4, f5, f6, f7, f8⟩ := nine_all HB4.out
              go_wp2
              exact bodyPost_ret (v := lineV zeroL (.slice none 0 0)) (by simp [results, Tryz.results4, go_sem, zeroL, *]) rfl ⟨.slice none 0 0, by rw [HN.out]; rfl, by rw [HN.out]; exact World.ownsRow_nil _ _ _ _, (Chg.alloc (Chg.setCell (Chg.setCell (Chg.setCell (Chg.setCell (Chg.setCell (Chg.setCell (Chg.setCell (Chg.setCell (Chg.setCell HC4.out (Or.inr (Nat.le_refl _)) _) (Or.inr (Nat.le_refl _)) _) (Or.inr (Nat.le_refl _)) _) (Or.inr (Nat.le_refl _)) _) (Or.inr (Nat.le_refl _)) _) (Or.inr (Nat.le_refl _)) _) (Or.inr (Nat.le_refl _)) _) (Or.inr (Nat.le_refl _)) _) (Or.inr (Nat.le_refl _)) _) _)⟩

end Go.Proofs.YteaeikmgkmpkiaaGreatDoor
