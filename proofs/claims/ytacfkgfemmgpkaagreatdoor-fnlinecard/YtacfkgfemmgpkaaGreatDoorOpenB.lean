/- Several short texts in one: ImplParse2, LineText, LwAt, OpenB. -/
import Derived.Test.YtacfkgfemmgpkaaGreatDoorImplParse
import Derived.Test.YtacfkgfemmgpkaaGreatDoorDrawFill
import Derived.Test.YtacfkgfemmgpkaaGreatDoorLineNum
import Derived.Test.YtacfkgfemmgpkaaGreatDoorNameSpec
import Derived.Test.YtacfkgfemmgpkaaGreatDoorRows
import Derived.Test.YtacfkgfemmgpkaaGreatDoorMem
import Derived.ProofKit
import Derived.OpenShut
import Derived.Carry
import Derived.ChangeOld
import Derived.Below
namespace Go.Proofs.YtacfkgfemmgpkaaGreatDoor
open Go.RowKit Go.Lib

set_option maxRecDepth 20000 in
set_option maxHeartbeats 4000000 in
theorem implParseLine_calls (w : World) {lo hi : Nat} (v : Value) (s : ByteArray) (xs : List Int) (hv : View w lo hi .u8 v xs) (hs : strOfNums xs = s) (hl : xs.length ≤ 1048576)
    (hS : SynE w) (hR : RanE w) (hP : Pow w) (hB : Blank w) (hgb : 8 ≤ w.heap.size) :
    Calls Tryz.prog 7 #[v] w fun e w' => ∃ nv, e = .returned (lineV ((lineOf s).getD zeroL) nv) ∧ OwnN w' w.heap.size nv ((lineOf s).getD zeroL).nums ∧ Chg 0 0 w w' := by
  have HA : Hid (Chg 0 0 w (w.alloc (.cells #[.int .i64 0, .int .i64 0, .string ⟨#[]⟩, .string ⟨#[]⟩, .int .i64 0, .int .i64 0, .int .i64 0, .string ⟨#[]⟩, .slice none 0 0] 35))) := Chg.alloc (Chg.refl 0 0 w) _
  have HN : Hid ((w.alloc (.cells #[.int .i64 0, .int .i64 0, .string ⟨#[]⟩, .string ⟨#[]⟩, .int .i64 0, .int .i64 0, .int .i64 0, .string ⟨#[]⟩, .slice none 0 0] 35)).heap[w.heap.size]? = some (.cells (cLine zeroL (.slice none 0 0)) 35 (0, 0))) := heap_new w _
  have hz : w.heap.size < (w.alloc (.cells #[.int .i64 0, .int .i64 0, .string ⟨#[]⟩, .string ⟨#[]⟩, .int .i64 0, .int .i64 0, .int .i64 0, .string ⟨#[]⟩, .slice none 0 0] 35)).heap.size := by simp
  have HV : Hid (View w lo hi .u8 v xs) := hv
  obtain ⟨R, hRr⟩ : ∃ R, R = (lineOf s).getD zeroL := ⟨_, rfl⟩
  rw [← hRr]
  obtain ⟨ao, cap, rfl, _⟩ := hv
  go_enter Tryz.func7, Tryz.ntmps7
  go_wp2_with fail
  generalize w.alloc (.cells #[.int .i64 0, .int .i64 0, .string ⟨#[]⟩, .string ⟨#[]⟩, .int .i64 0, .int .i64 0, .int .i64 0, .string ⟨#[]⟩, .slice none 0 0] 35) = w1 at *
  refine (commands_calls w1).mono ?_
  rintro e w2 ⟨rfl, hC⟩
  have c2 : Chg 0 0 w1 w2 := by obtain ⟨_, _, _, h⟩ := hC; exact h
  have c3 := HA.out.trans c2
  have hB2 : Blank w2 := by obtain ⟨m, hm⟩ := hB; exact ⟨m, c3.cell hm (by omega)⟩
  have hs2 := c2.size
  have hpc := parsed_calls w1 w2 _ s xs (HV.out.chg c3 (by omega)) hs hl hC (synE_chg hS c3) (hR.chg c3) (hP.chg c3) hB2 (by omega)
  rw [← hRr] at hpc
  go_wp2_with fail
  refine hpc.mono ?_
  rintro e w4 ⟨nv, rfl, hnv, c4⟩
  have HC : Hid (Chg 0 0 w w4) := c3.trans c4
  have HR4 : Hid (w4.heap[w.heap.size]? = some (.cells (cLine zeroL (.slice none 0 0)) 35 (0, 0))) := ((c2.trans c4).block _ hz (by omega)).trans HN.out
  have HNV : Hid (OwnN w4 w2.heap.size nv R.nums) := hnv
  obtain ⟨na, nl, nc, rfl⟩ := hnv.slice
  obtain ⟨⟨x0, x1, x2, x3, x4, x5, x6, x7, x8⟩, f0, f1, f2, f3, f4, f5, f6, f7, f8⟩ := nine_all HR4.out
  clear hnv hpc HR4 HN c4 c3 c2 hC hB hB2 hS hR hP HV HA hRr
  go_wp2
  exact bodyPost_ret (v := lineV R (.slice na nl nc)) (by simp [results, Tryz.results7, go_sem, *]) rfl ⟨_, rfl, (OwnN.low (OwnN.set (OwnN.set (OwnN.set (OwnN.set (OwnN.set (OwnN.set (OwnN.set (OwnN.set (OwnN.set HNV.out _ _ _ (by omega)) _ _ _ (by omega)) _ _ _ (by omega)) _ _ _ (by omega)) _ _ _ (by omega)) _ _ _ (by omega)) _ _ _ (by omega)) _ _ _ (by omega)) _ _ _ (by omega)) (by omega)), (Chg.setCell (Chg.setCell (Chg.setCell (Chg.setCell (Chg.setCell (Chg.setCell (Chg.setCell (Chg.setCell (Chg.setCell HC.out (Or.inr (Nat.le_refl _)) _) (Or.inr (Nat.le_refl _)) _) (Or.inr (Nat.le_refl _)) _) (Or.inr (Nat.le_refl _)) _) (Or.inr (Nat.le_refl _)) _) (Or.inr (Nat.le_refl _)) _) (Or.inr (Nat.le_refl _)) _) (Or.inr (Nat.le_refl _)) _) (Or.inr (Nat.le_refl _)) _)⟩

end Go.Proofs.YtacfkgfemmgpkaaGreatDoor

namespace Go.Proofs.YtacfkgfemmgpkaaGreatDoor
open Go.RowKit Go.Lib

theorem str_bytes (s : ByteArray) : strOfNums (s.data.toList.map fun b => (b.toNat : Int)) = s := by
  apply ByteArray.ext
  have e : (s.data.toList.map ((fun n : Int => UInt8.ofNat n.toNat) ∘ fun b : UInt8 => (b.toNat : Int))) = s.data.toList := by
    conv => rhs; rw [← List.map_id s.data.toList]
    apply List.map_congr_left
    intro b _
    simp
  simp [strOfNums, e]
/-- What the program's ParseLine needs of the world. -/
structure Rdy (w : World) : Prop where
  syn : SynE w
  ran : RanE w
  pow : Pow w
  bla : Blank w
  gs : 8 ≤ w.heap.size
theorem Rdy.chg {w w' : World} (h : Rdy w) (c : Chg 0 0 w w') : Rdy w' :=
  ⟨synE_chg h.syn c, h.ran.chg c, h.pow.chg c, by obtain ⟨m, hm⟩ := h.bla; exact ⟨m, c.cell hm (by omega)⟩, Nat.le_trans h.gs c.size⟩
theorem text_conv (W : World) (s : ByteArray) : (convert 9 22 (.string s)).run Tryz.prog W = .ok (.slice (some ⟨W.heap.size, 0, none⟩) s.size (Go.grownCap W s.size 0 5)) (Lib.bytesWorld W 5 s) :=
  Lib.run_convert_string_bytes (P := Tryz.prog) W 9 22 5 s (u := .string) Tryz.underlying9 Tryz.underlying22 Tryz.underlying5
theorem parseText_calls (W : World) (s : ByteArray) (hs : s.size ≤ 1048576) (h : Rdy W) :
    Calls Tryz.prog 7 #[.slice (some ⟨W.heap.size, 0, none⟩) s.size (Go.grownCap W s.size 0 5)] (Lib.bytesWorld W 5 s) fun e w' => ∃ a c, e = .returned (.agg (cLine ((lineOf s).getD zeroL) (.slice a ((lineOf s).getD zeroL).nums.length c))) ∧ OwnN w' W.heap.size (.slice a ((lineOf s).getD zeroL).nums.length c) ((lineOf s).getD zeroL).nums ∧ Chg 0 0 W w' := by
  have cB := bytesWorld_chg W s
  have hR := RowM.conv W s hs
  have hl : (s.data.toList.map fun b => (b.toNat : Int)).length = s.size := by rw [List.length_map, ← Lib.size_eq]
  have hV := hR.seen (by omega)
  have h2 := h.chg cB
  refine (implParseLine_calls _ _ s _ hV (str_bytes s) (by omega) h2.syn h2.ran h2.pow h2.bla h2.gs).mono ?_
  rintro e w' ⟨nv, rfl, ho, c⟩
  obtain ⟨a, cc, rfl⟩ : ∃ a cc, nv = .slice a ((lineOf s).getD zeroL).nums.length cc := by
    have ho' := ho
    unfold OwnN at ho'
    rcases ho'.2 with ⟨rfl, h0⟩ | ⟨g, cap, cur, rfl, _⟩
    · rw [h0]; exact ⟨_, _, rfl⟩
    · exact ⟨_, _, rfl⟩
  exact ⟨a, cc, rfl, ho.low cB.size, cB.trans c⟩

theorem cellsC_at : ∀ (cs : List Lst) (k j : Nat), j < 7 → (hk : k < cs.length) → (cellsC cs)[k * 7 + j]? = (cK cs[k])[j]?
  | [], k, j, _, hk => by simp at hk
  | q :: r, 0, j, hj, _ => by
    show (cK q ++ cellsC r)[0 * 7 + j]? = _
    rw [Nat.zero_mul, Nat.zero_add, List.getElem?_append_left (by simpa using hj)]
    rfl
  | q :: r, k + 1, j, hj, hk => by
    show (cK q ++ cellsC r)[(k + 1) * 7 + j]? = _
    rw [List.getElem?_append_right (by simp; omega)]
    have e : (k + 1) * 7 + j - (cK q).length = k * 7 + j := by simp; omega
    rw [e, cellsC_at r k j hj (by simpa using hk)]
    rfl
theorem OwnC.cells {w : World} {base g cp : Nat} {cs : List Lst} (h : OwnC w base (.slice (some ⟨g, 0, none⟩) cs.length cp) cs) (k : Nat) (hk : k < cs.length) :
    w.cell? ⟨g, k * 7, none⟩ = some (.int .i64 cs[k].ck) ∧ w.cell? ⟨g, k * 7 + 1, none⟩ = some (.string cs[k].path) ∧ w.cell? ⟨g, k * 7 + 2, none⟩ = some (.string cs[k].to') ∧ w.cell? ⟨g, k * 7 + 3, none⟩ = some (.int .i64 cs[k].han) ∧ w.cell? ⟨g, k * 7 + 4, none⟩ = some (.int .i64 cs[k].off) ∧ w.cell? ⟨g, k * 7 + 5, none⟩ = some (.int .i64 cs[k].siz) ∧ w.cell? ⟨g, k * 7 + 6, none⟩ = some (.string cs[k].data) := by
  have ha : ∀ j, j < 7 → w.cell? ⟨g, k * 7 + j, none⟩ = (cK cs[k])[j]? := fun j hj => by
    unfold OwnC at h
    rw [World.ownsRow.cellAt h (k * 7 + j) (by omega), cellsC_at cs k j hj hk]
  exact ⟨ha 0 (by omega), ha 1 (by omega), ha 2 (by omega), ha 3 (by omega), ha 4 (by omega), ha 5 (by omega), ha 6 (by omega)⟩

end Go.Proofs.YtacfkgfemmgpkaaGreatDoor

namespace Go.Proofs.YtacfkgfemmgpkaaGreatDoor
open Go.RowKit

set_option maxHeartbeats 1000000 in
theorem lwAt_calls (w : World) (i n : Nat) (hi : i ≤ 1048576) (hn : n ≤ 4294967296) {lo hi' : Nat} {a : Value} {ms : List Int} (hB : Byt ms) (h1 : View w lo hi' .u8 a ms) (hl : ms.length ≤ 1048576) :
    Calls Tryz.prog 8 #[a, .int .i64 i, .int .i64 n] w fun e w' => (∃ r : Nat, e = .returned (.int .i64 r) ∧ (1 < n → r < n) ∧ (n ≤ 1 → r = 0)) ∧ Same w w' := by
  obtain ⟨ao, cap, rfl, _, _, hcell⟩ := h1
  by_cases hn1 : n ≤ 1
  · have h' : (n : Int) ≤ 1 := by omega
    clear hcell
    go_enter Tryz.func8, Tryz.ntmps8
    go_wp2
    go_ret
    exact ⟨⟨0, rfl, by omega, by omega⟩, Same.refl _⟩
  have h' : ¬ (n : Int) ≤ 1 := by omega
  have hn0 : ¬ (n : Int) = 0 := by omega
  by_cases hk : ms.length = 0
  · have hk' : ((ms.length : Int) == 0) = true := by rw [hk]; rfl
    have hr1 : 0 ≤ (i : Int) * 7 % (n : Int) := Int.emod_nonneg _ (by omega)
    have hr2 : (i : Int) * 7 % (n : Int) < n := Int.emod_lt_of_pos _ (by omega)
    obtain ⟨r, hr⟩ : ∃ r : Nat, (i : Int) * 7 % (n : Int) = (r : Int) := ⟨((i : Int) * 7 % (n : Int)).toNat, by omega⟩
    have HR : Hid ((i : Int) * 7 % (n : Int) = (r : Int)) := hr
    rw [hr] at hr2
    clear hcell hk hr hr1
    go_enter Tryz.func8, Tryz.ntmps8
    go_wp2
    go_ret
    exact ⟨⟨r, by rw [← HR.out]; rfl, by omega⟩, Same.refl _⟩
  · obtain ⟨b, off, rfl, hb1, hb2, hc2⟩ : ∃ b off, ao = some ⟨b, off, none⟩ ∧ lo ≤ b ∧ b < hi' ∧ ∀ i, i < ms.length → w.cell? ⟨b, off + i, none⟩ = some (.int .u8 (ms.getD i 0)) := by
      rcases hcell with h | ⟨b, off, e, h1, h2, h3⟩
      · rw [h] at hk; exact absurd rfl hk
      · exact ⟨b, off, e, h1, h2, h3⟩
    have hk' : ((ms.length : Int) == 0) = false := by simp only [beq_eq_false_iff_ne, ne_eq]; omega
    have hk0 : ¬ (ms.length : Int) = 0 := by omega
    obtain ⟨i1, hi1⟩ : ∃ i1, i1 = i % ms.length := ⟨_, rfl⟩
    obtain ⟨i2, hi2⟩ : ∃ i2, i2 = (i + 1) % ms.length := ⟨_, rfl⟩
    obtain ⟨qt, hq⟩ : ∃ qt, qt = i / ms.length := ⟨_, rfl⟩
    have l1 : i1 < ms.length := by rw [hi1]; exact Nat.mod_lt _ (by omega)
    have l2 : i2 < ms.length := by rw [hi2]; exact Nat.mod_lt _ (by omega)
    have lq : qt ≤ i := by rw [hq]; exact Nat.div_le_self _ _
    have e1 : (i : Int) % (ms.length : Int) = (i1 : Int) := by rw [hi1]; omega
    have e2 : ((i : Int) + 1) % (ms.length : Int) = (i2 : Int) := by rw [hi2]; exact (Int.natCast_emod (i + 1) ms.length).symm
    have eq : (i : Int) / (ms.length : Int) = (qt : Int) := by rw [hq]; omega
    have d1 := hc2 i1 l1
    have d2 := hc2 i2 l2
    have b1 := hB.getD i1
    have b2 := hB.getD i2
    generalize ms.getD i1 0 = x1 at *
    generalize ms.getD i2 0 = x2 at *
    clear hi1 hi2 hq hc2 hcell hB
    have hi1' : (i1 : Int) < (ms.length : Int) := by omega
    have hi2' : (i2 : Int) < (ms.length : Int) := by omega
    by_cases h200 : (n : Int) > 200
    · have hr1 : 0 ≤ ((x1 + qt) * 37 + x2) % (n : Int) := Int.emod_nonneg _ (by omega)
      have hr2 : ((x1 + qt) * 37 + x2) % (n : Int) < n := Int.emod_lt_of_pos _ (by omega)
      obtain ⟨r, hr⟩ : ∃ r : Nat, ((x1 + qt) * 37 + x2) % (n : Int) = (r : Int) := ⟨(((x1 + qt) * 37 + x2) % (n : Int)).toNat, by omega⟩
      have HR : Hid (((x1 + qt) * 37 + x2) % (n : Int) = (r : Int)) := hr
      rw [hr] at hr2
      clear hr hr1
      go_enter Tryz.func8, Tryz.ntmps8
      go_wp2
      go_quiet (fail)
      go_wp2
      go_ret
      exact ⟨⟨r, by rw [← HR.out]; rfl, by omega, by omega⟩, (Same.refl w).drewN _⟩
    · have hr1 : 0 ≤ (x1 + qt) % (n : Int) := Int.emod_nonneg _ (by omega)
      have hr2 : (x1 + qt) % (n : Int) < n := Int.emod_lt_of_pos _ (by omega)
      obtain ⟨r, hr⟩ : ∃ r : Nat, (x1 + qt) % (n : Int) = (r : Int) := ⟨((x1 + qt) % (n : Int)).toNat, by omega⟩
      have HR : Hid ((x1 + qt) % (n : Int) = (r : Int)) := hr
      rw [hr] at hr2
      clear hr hr1
      go_enter Tryz.func8, Tryz.ntmps8
      go_wp2
      go_quiet (fail)
      go_wp2
      go_ret
      exact ⟨⟨r, by rw [← HR.out]; rfl, by omega, by omega⟩, (Same.refl w).drewN _⟩

end Go.Proofs.YtacfkgfemmgpkaaGreatDoor

namespace Go.Proofs.YtacfkgfemmgpkaaGreatDoor
open Go.ChangeShapes Go.WideShapes Go.ChangeAt Go.RowKit

theorem own : ownKnob Tryz.prog.godebug = none := by kernel_rfl
theorem laidOut : laidOutB Tryz.prog = true := by kernel_rfl

theorem addr_plain {w : World} {a : Addr} {x : Value} {i : Nat} (h : w.cell? (a.add 0) = some x) : a.add i = ⟨a.block, a.off + i, none⟩ ∧ a = ⟨a.block, a.off, none⟩ := by
  obtain ⟨b, off, spot⟩ := a
  have hspot : spot = none := by simpa [Addr.add] using World.cell?_spot h
  subst hspot
  exact ⟨Go.WideShapes.add_plain _ _ _, rfl⟩

/-- A slice of numbers that came in; each of them fits. -/
theorem view_wf_of_trod {H : Type} {enc : TypeId × Value → H} {W : World} {fuel t e : Nat} {k : IntKind} {v : Value} {x : DataW H × List MemPlace} (ht : Tryz.prog.underlying t = some (.slice e)) (he : Tryz.prog.underlying e = some (.int k)) (hc : Tryz.prog.cellsOf e = 1)
    (h : DataW.trod enc Tryz.prog W 0 (fun _ => true) true fuel t [v] = some x) : ∃ xs, View W 0 W.heap.size k v xs ∧ ∀ x ∈ xs, (Lit.int k x).wf = true := by
  rcases open_ints ht he hc h with ⟨hcs, _⟩ | ⟨a, len, cap, zs, hcs, _, hl, hm, hz, _, hcell, hwf⟩
  · simp at hcs; subst hcs; exact ⟨[], View.nil _ _ _ _, by simp⟩
  · simp at hcs hz; subst hcs
    unfold maxLen at hm
    refine ⟨zs.take len, ⟨some a, cap, by rw [List.length_take, Nat.min_eq_left (by omega)], by rw [List.length_take]; omega, ⟨by rw [List.length_take]; omega, by simp⟩, ?_⟩, fun x hx => hwf x (List.mem_of_mem_take hx)⟩
    by_cases h0 : len = 0
    · left; subst h0; rfl
    · right
      obtain ⟨b, off, rfl, hc2⟩ := ints_at hcell (by omega)
      refine ⟨b, off, rfl, Nat.zero_le _, lt_of_cell (hc2 0 (by omega)), fun i hi => ?_⟩
      rw [List.length_take] at hi
      rw [hc2 i (by omega)]
      simp only [List.getD_eq_getElem?_getD, List.getElem?_take]
      rw [if_pos (by omega)]

end Go.Proofs.YtacfkgfemmgpkaaGreatDoor
