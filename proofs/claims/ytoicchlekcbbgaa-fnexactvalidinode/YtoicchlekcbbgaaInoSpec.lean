/- Inodes: szInode, toInode, eqInode of the laws; ValidInode of the model. -/
import Derived.Test.YtoicchlekcbbgaaInts
import Derived.Test.YtoicchlekcbbgaaSzI
import Derived.Test.YtoicchlekcbbgaaFlat
import Derived.Test.YtoicchlekcbbgaaGoodBlk
import Derived.Deep.DeepCutAuto
namespace Go.Proofs.Ytoicchlekcbbgaa
open Go.RowKit

/-- An inode: kind, links, size, direct blocks, the indirect one. -/
structure Ino where
  kind : Int
  links : Int
  size : Int
  dir : List Int
  ind : Int

abbrev inoV (i : Ino) (ao : Option Addr) (cap : Nat) : Value := .agg #[.int .i64 i.kind, .int .i64 i.links, .int .i64 i.size, .slice ao i.dir.length cap, .int .i64 i.ind]
abbrev inoO (t : TypeId) (i : Ino) (ao : Option Addr) (cap : Nat) : Obj := .cells #[.int .i64 i.kind, .int .i64 i.links, .int .i64 i.size, .slice ao i.dir.length cap, .int .i64 i.ind] t
theorem ino_all {w : World} {s : Nat} {a b c d e : Value} {t : TypeId} (h : w.heap[s]? = some (.cells #[a, b, c, d, e] t (0, 0))) :
    (w.cell? ⟨s, 0, none⟩ = some a ∧ w.cell? ⟨s, 1, none⟩ = some b ∧ w.cell? ⟨s, 2, none⟩ = some c ∧ w.cell? ⟨s, 3, none⟩ = some d ∧ w.cell? ⟨s, 4, none⟩ = some e) ∧
      w.frozen? ⟨s, 0, none⟩ = false ∧ w.frozen? ⟨s, 1, none⟩ = false ∧ w.frozen? ⟨s, 2, none⟩ = false ∧ w.frozen? ⟨s, 3, none⟩ = false ∧ w.frozen? ⟨s, 4, none⟩ = false := by
  simp [World.cell?, World.frozen?, h]

set_option maxRecDepth 20000 in
set_option maxHeartbeats 400000 in
theorem szInode_calls (w : World) (i : Ino) (ao : Option Addr) (cap left : Nat) (hl : i.dir.length ≤ 9223372036854775807) (hb : left ≤ 1048576) :
    Calls Try.prog 4 #[inoV i ao cap, .int .i64 left] w fun e w' => e = .returned (.int .i64 (lft left i.dir.length)) ∧ Chg 0 0 w w' := by
  have hA : Chg 0 0 w (w.alloc (inoO 24 i ao cap)) := Chg.alloc (Chg.refl 0 0 w) _
  by_cases hn : i.dir.length ≤ left
  · go_enter Try.func4, Try.ntmps4
    go_wp2_with fail
    refine (szInt64S_calls _ ao _ cap left hl hb).mono ?_
    rintro e w2 ⟨rfl, rfl⟩
    rw [lft_pos hn]
    go_wp2
    go_ret
    exact ⟨by rw [lft_pos hn]; exact ret_int (by omega), hA⟩
  · go_enter Try.func4, Try.ntmps4
    go_wp2_with fail
    refine (szInt64S_calls _ ao _ cap left hl hb).mono ?_
    rintro e w2 ⟨rfl, rfl⟩
    rw [lft_neg hn]
    go_wp2
    go_ret
    exact ⟨by rw [lft_neg hn]; rfl, hA⟩

set_option maxRecDepth 20000 in
set_option maxHeartbeats 1000000 in
theorem toInode_calls (w : World) {lo hi : Nat} (i : Ino) (ao : Option Addr) (cap : Nat) (hl : i.dir.length ≤ 1048576) (h1 : View w lo hi .i64 (.slice ao i.dir.length cap) i.dir) :
    Calls Try.prog 6 #[inoV i ao cap] w fun e w' => ∃ g, e = .returned (inoV i (some ⟨g, 0, none⟩) i.dir.length) ∧ View w' w.heap.size w'.heap.size .i64 (.slice (some ⟨g, 0, none⟩) i.dir.length i.dir.length) i.dir ∧ Chg 0 0 w w' := by
  obtain ⟨z1, z2, z3, z4⟩ := alloc3 w (inoO 24 i ao cap) (.cells #[.int .i64 0, .int .i64 0, .int .i64 0, .slice none 0 0, .int .i64 0] 27) (.cells #[.int .i64 i.kind, .int .i64 i.links, .int .i64 i.size, .slice none 0 0, .int .i64 0] 27)
  have hw3 : Chg 0 0 w (((w.alloc (inoO 24 i ao cap)).alloc (.cells #[.int .i64 0, .int .i64 0, .int .i64 0, .slice none 0 0, .int .i64 0] 27)).alloc (.cells #[.int .i64 i.kind, .int .i64 i.links, .int .i64 i.size, .slice none 0 0, .int .i64 0] 27)) := (((Chg.alloc (Chg.refl 0 0 w) _).alloc _).alloc _)
  go_enter Try.func6, Try.ntmps6
  go_wp2_with fail
  generalize (((w.alloc (inoO 24 i ao cap)).alloc (.cells #[.int .i64 0, .int .i64 0, .int .i64 0, .slice none 0 0, .int .i64 0] 27)).alloc (.cells #[.int .i64 i.kind, .int .i64 i.links, .int .i64 i.size, .slice none 0 0, .int .i64 0] 27)) = w3 at *
  refine (toInt64S_calls _ hl (h1.chg hw3 (by omega))).mono ?_
  rintro e w4 ⟨g, rfl, ho, hc⟩
  have s4 := hc.size
  have hg := ho.lt g rfl
  obtain ⟨⟨x0, x1, x2, x3, x4⟩, xf0, xf1, xf2, xf3, xf4⟩ := ino_all ((hc.block (w.heap.size + 1 + 1) (by omega) (by omega)).trans z4)
  obtain ⟨⟨y0, y1, y2, y3, y4⟩, yf0, yf1, yf2, yf3, yf4⟩ := ino_all ((hc.block (w.heap.size + 1) (by omega) (by omega)).trans z3)
  obtain ⟨⟨u0, u1, u2, u3, u4⟩, _⟩ := ino_all ((hc.block w.heap.size (by omega) (by omega)).trans z2)
  have hch := hw3.trans hc
  have HV : Hid (∀ w5 : World, Chg (w.heap.size + 1) (w.heap.size + 1 + 1 + 1) w4 w5 → View w5 w.heap.size w5.heap.size .i64 (.slice (some ⟨g, 0, none⟩) i.dir.length i.dir.length) i.dir ∧ Chg 0 0 w w5) := by
    intro w5 c5
    have s5 := c5.size
    exact ⟨((ho.view (hi := w4.heap.size) (by omega) (fun g hg => (ho.lt g hg).2)).chg c5 (by omega)).mono (by omega) (by omega), hch.step c5 (by omega)⟩
  have HS : Hid (∀ u1 u2 u3 u4 u5 u6 u7 : Value, Chg (w.heap.size + 1) (w.heap.size + 1 + 1 + 1) w4 (((((((w4.setCell ⟨w.heap.size + 1 + 1, 3, none⟩ u1).setCell ⟨w.heap.size + 1 + 1, 4, none⟩ u2).setCell ⟨w.heap.size + 1, 0, none⟩ u3).setCell ⟨w.heap.size + 1, 1, none⟩ u4).setCell ⟨w.heap.size + 1, 2, none⟩ u5).setCell ⟨w.heap.size + 1, 3, none⟩ u6).setCell ⟨w.heap.size + 1, 4, none⟩ u7)) := by
    intro u1 u2 u3 u4 u5 u6 u7
    refine Chg.setCell (Chg.setCell (Chg.setCell (Chg.setCell (Chg.setCell (Chg.setCell (Chg.setCell (Chg.refl _ _ _) ?_ _) ?_ _) ?_ _) ?_ _) ?_ _) ?_ _) ?_ _ <;> exact Or.inl ⟨by simp, by simp⟩
  clear ho hc hch hw3 z2 z3 z4 h1
  go_wp2
  exact bodyPost_ret (v := inoV i (some ⟨g, 0, none⟩) i.dir.length) (by simp [results, Try.results6, go_sem, *]) rfl ⟨g, rfl, HV.out _ (HS.out _ _ _ _ _ _ _)⟩

set_option maxRecDepth 20000 in
set_option maxHeartbeats 400000 in
theorem eqInode_calls (w : World) {lo hi lo' hi' : Nat} (i : Ino) (ao bo : Option Addr) (cap cap' : Nat) (h1 : View w lo hi .i64 (.slice ao i.dir.length cap) i.dir) (h2 : View w lo' hi' .i64 (.slice bo i.dir.length cap') i.dir) :
    Calls Try.prog 8 #[inoV i ao cap, inoV i bo cap'] w fun e w' => e = .returned (.bool true) ∧ Chg 0 0 w w' := by
  have hA : Chg 0 0 w ((w.alloc (inoO 27 i ao cap)).alloc (inoO 27 i bo cap')) := (Chg.alloc (Chg.refl 0 0 w) _).alloc _
  obtain ⟨z, b0, b1⟩ := alloc2 w (inoO 27 i ao cap) (inoO 27 i bo cap')
  have n0 : (i.kind != i.kind) = false := by simp
  have n1 : (i.links != i.links) = false := by simp
  have n2 : (i.size != i.size) = false := by simp
  have n3 : (i.ind != i.ind) = false := by simp
  have hN := eqInt64S_calls _ (h1.chg hA (by omega)) (h2.chg hA (by omega))
  clear h1 h2
  go_enter Try.func8, Try.ntmps8
  go_wp2_with fail
  generalize (w.alloc (inoO 27 i ao cap)).alloc (inoO 27 i bo cap') = w0 at *
  refine hN.mono ?_
  rintro e w1 ⟨rfl, hs⟩
  have hs := hs.chg 0 0
  obtain ⟨⟨x0, x1, x2, x3, x4⟩, _⟩ := ino_all ((hs.block w.heap.size (by omega) (by omega)).trans b0)
  obtain ⟨⟨y0, y1, y2, y3, y4⟩, _⟩ := ino_all ((hs.block (w.heap.size + 1) (by omega) (by omega)).trans b1)
  have HC : Hid (Chg 0 0 w w1) := hA.trans hs
  clear hs hA hN b0 b1
  go_wp2
  go_ret
  exact ⟨rfl, HC.out⟩

end Go.Proofs.Ytoicchlekcbbgaa
