/- Inodes of one's own: toInode, markInode. -/
import Derived.Test.YtgadlmjljglpcaaInoSpec
namespace Go.Proofs.Ytgadlmjljglpcaa
open Go.RowKit

theorem OwnI.base {w : World} {base base' : Nat} {e : TypeId} {v : Value} {xs : List Int} (h : OwnI w base e v xs) (hb : ∀ g, v.ownBlock = some g → base' ≤ g) : OwnI w base' e v xs := by
  obtain ⟨h1, h2⟩ := h
  refine ⟨h1, ?_⟩
  rcases h2 with h2 | ⟨g, cap, cur, hv, hg, r⟩
  · exact Or.inl h2
  · exact Or.inr ⟨g, cap, cur, hv, hb g (by rw [hv]; rfl), r⟩

theorem OwnI.seen {w : World} {base : Nat} {e : TypeId} {v : Value} {xs : List Int} (h : OwnI w base e v xs) (hl : xs.length ≤ 1048576) : View w base w.heap.size .i64 v xs :=
  h.view (by omega) (fun g hg => (h.lt g hg).2)

set_option maxRecDepth 20000 in
set_option maxHeartbeats 1000000 in
theorem toInode_own (w : World) {lo hi : Nat} (i : Ino) (ao : Option Addr) (cap : Nat) (hl : i.dir.length ≤ 1048576) (h1 : View w lo hi .i64 (.slice ao i.dir.length cap) i.dir) :
    Calls Try.prog 6 #[inoV i ao cap] w fun e w' => ∃ g, e = .returned (inoV i (some ⟨g, 0, none⟩) i.dir.length) ∧ OwnI w' w.heap.size 2 (.slice (some ⟨g, 0, none⟩) i.dir.length i.dir.length) i.dir ∧ Chg 0 0 w w' := by
  obtain ⟨z1, z2, z3, z4⟩ := alloc3 w (inoO 24 i ao cap) (.cells #[.int .i64 0, .int .i64 0, .int .i64 0, .slice none 0 0, .int .i64 0] 28) (.cells #[.int .i64 i.kind, .int .i64 i.links, .int .i64 i.size, .slice none 0 0, .int .i64 0] 28)
  have hw3 : Chg 0 0 w (((w.alloc (inoO 24 i ao cap)).alloc (.cells #[.int .i64 0, .int .i64 0, .int .i64 0, .slice none 0 0, .int .i64 0] 28)).alloc (.cells #[.int .i64 i.kind, .int .i64 i.links, .int .i64 i.size, .slice none 0 0, .int .i64 0] 28)) := (((Chg.alloc (Chg.refl 0 0 w) _).alloc _).alloc _)
  go_enter Try.func6, Try.ntmps6
  go_wp2_with fail
  generalize (((w.alloc (inoO 24 i ao cap)).alloc (.cells #[.int .i64 0, .int .i64 0, .int .i64 0, .slice none 0 0, .int .i64 0] 28)).alloc (.cells #[.int .i64 i.kind, .int .i64 i.links, .int .i64 i.size, .slice none 0 0, .int .i64 0] 28)) = w3 at *
  refine (toInt64S_calls _ hl (h1.chg hw3 (by omega))).mono ?_
  rintro e w4 ⟨g, rfl, ho, hc⟩
  have s4 := hc.size
  have hg := ho.lt g rfl
  obtain ⟨⟨x0, x1, x2, x3, x4⟩, xf0, xf1, xf2, xf3, xf4⟩ := ino_all ((hc.block (w.heap.size + 1 + 1) (by omega) (by omega)).trans z4)
  obtain ⟨⟨y0, y1, y2, y3, y4⟩, yf0, yf1, yf2, yf3, yf4⟩ := ino_all ((hc.block (w.heap.size + 1) (by omega) (by omega)).trans z3)
  obtain ⟨⟨u0, u1, u2, u3, u4⟩, _⟩ := ino_all ((hc.block w.heap.size (by omega) (by omega)).trans z2)
  have hch := hw3.trans hc
  have HV : Hid (∀ w5 : World, Chg (w.heap.size + 1) (w.heap.size + 1 + 1 + 1) w4 w5 → OwnI w5 w.heap.size 2 (.slice (some ⟨g, 0, none⟩) i.dir.length i.dir.length) i.dir ∧ Chg 0 0 w w5) := by
    intro w5 c5
    have s5 := c5.size
    exact ⟨(ho.chg c5 (fun g' hg' => by have := (ho.lt g' hg').1; omega)).base (fun g' hg' => by have := (ho.lt g' hg').1; omega), hch.step c5 (by omega)⟩
  have HS : Hid (∀ u1 u2 u3 u4 u5 u6 u7 : Value, Chg (w.heap.size + 1) (w.heap.size + 1 + 1 + 1) w4 (((((((w4.setCell ⟨w.heap.size + 1 + 1, 3, none⟩ u1).setCell ⟨w.heap.size + 1 + 1, 4, none⟩ u2).setCell ⟨w.heap.size + 1, 0, none⟩ u3).setCell ⟨w.heap.size + 1, 1, none⟩ u4).setCell ⟨w.heap.size + 1, 2, none⟩ u5).setCell ⟨w.heap.size + 1, 3, none⟩ u6).setCell ⟨w.heap.size + 1, 4, none⟩ u7)) := by
    intro u1 u2 u3 u4 u5 u6 u7
    refine Chg.setCell (Chg.setCell (Chg.setCell (Chg.setCell (Chg.setCell (Chg.setCell (Chg.setCell (Chg.refl _ _ _) ?_ _) ?_ _) ?_ _) ?_ _) ?_ _) ?_ _) ?_ _ <;> exact Or.inl ⟨by simp, by simp⟩
  clear ho hc hch hw3 z2 z3 z4 h1
  go_wp2
  exact bodyPost_ret (v := inoV i (some ⟨g, 0, none⟩) i.dir.length) (by simp [results, Try.results6, go_sem, *]) rfl ⟨g, rfl, HV.out _ (HS.out _ _ _ _ _ _ _)⟩

set_option maxRecDepth 20000 in
set_option maxHeartbeats 1000000 in
theorem markInode_calls (w : World) (i : Ino) (base : Nat) (ao : Option Addr) (cap k0 lo hi : Nat) (hl : i.dir.length ≤ 1048576) (hk0 : k0 ≤ 140737488355328) (h1 : OwnI w base 2 (.slice ao i.dir.length cap) i.dir)
    (hb : ∀ g, (Value.slice ao i.dir.length cap).ownBlock = some g → lo ≤ g ∧ g < hi) :
    Calls Try.prog 10 #[inoV i ao cap, .int .i64 k0] w fun e w' => e = .returned (.int .i64 ((k0 + i.dir.length : Nat) : Int)) ∧ OwnI w' base 2 (.slice ao i.dir.length cap) (marksI k0 i.dir.length) ∧ Chg lo hi w w' := by
  have C0 : Chg 0 0 w (w.alloc (inoO 28 i ao cap)) := Chg.alloc (Chg.refl 0 0 w) _
  have C1 : Chg lo hi w (w.alloc (inoO 28 i ao cap)) := Chg.alloc (Chg.refl lo hi w) _
  have hM := markInt64S_calls (w.alloc (inoO 28 i ao cap)) base 2 (.slice ao i.dir.length cap) i.dir k0 lo hi (by omega) hk0 (h1.chg C0 (by intro g _; omega)) hb
  clear C0
  go_enter Try.func10, Try.ntmps10
  go_wp2_with fail
  generalize w.alloc (inoO 28 i ao cap) = w0 at *
  refine hM.mono ?_
  rintro e w1 ⟨rfl, o1, h1', _, _⟩
  have HR : Hid (OwnI w1 base 2 (.slice ao i.dir.length cap) (marksI k0 i.dir.length) ∧ Chg lo hi w w1) := ⟨o1, C1.trans h1'⟩
  clear hM o1 h1' C1 h1 hb
  go_wp2
  go_ret
  exact ⟨rfl, HR.out⟩

end Go.Proofs.Ytgadlmjljglpcaa
