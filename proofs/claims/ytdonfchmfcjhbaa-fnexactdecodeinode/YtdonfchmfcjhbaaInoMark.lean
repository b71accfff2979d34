/- Inodes of one's own: toInode, markInode. -/
import Derived.Test.YtdonfchmfcjhbaaInoSpec
namespace Go.Proofs.Ytdonfchmfcjhbaa
open Go.RowKit

theorem OwnI.base {w : World} {base base' : Nat} {e : TypeId} {v : Value} {xs : List Int} (h : OwnI w base e v xs) (hb : ∀ g, v.ownBlock = some g → base' ≤ g) : OwnI w base' e v xs := by
  obtain ⟨h1, h2⟩ := h
  refine ⟨h1, ?_⟩
  rcases h2 with h2 | ⟨g, cap, cur, hv, hg, r⟩
  · exact Or.inl h2
  · exact Or.inr ⟨g, cap, cur, hv, hb g (by rw [hv]; rfl), r⟩

theorem OwnI.seen {w : World} {base : Nat} {e : TypeId} {v : Value} {xs : List Int} (h : OwnI w base e v xs) (hl : xs.length ≤ 1048576) : View w base w.heap.size .i64 v xs :=
  h.view (by omega) (fun g hg => (h.lt g hg).2)

set_option maxRecDepth 20000 in
set_option maxHeartbeats 1000000 in
theorem markInode_calls (w : World) (i : Ino) (base : Nat) (ao : Option Addr) (cap k0 lo hi : Nat) (hl : i.dir.length ≤ 1048576) (hk0 : k0 ≤ 140737488355328) (h1 : OwnI w base 2 (.slice ao i.dir.length cap) i.dir)
    (hb : ∀ g, (Value.slice ao i.dir.length cap).ownBlock = some g → lo ≤ g ∧ g < hi) :
    Calls Try.prog 18 #[inoV i ao cap, .int .i64 k0] w fun e w' => e = .returned (.int .i64 ((k0 + i.dir.length : Nat) : Int)) ∧ OwnI w' base 2 (.slice ao i.dir.length cap) (marksI k0 i.dir.length) ∧ Chg lo hi w w' := by
  have C0 : Chg 0 0 w (w.alloc (inoO 25 i ao cap)) := Chg.alloc (Chg.refl 0 0 w) _
  have C1 : Chg lo hi w (w.alloc (inoO 25 i ao cap)) := Chg.alloc (Chg.refl lo hi w) _
  have hM := markInt64S_calls (w.alloc (inoO 25 i ao cap)) base 2 (.slice ao i.dir.length cap) i.dir k0 lo hi (by omega) hk0 (h1.chg C0 (by intro g _; omega)) hb
  clear C0
  go_enter Try.func18, Try.ntmps18
  go_wp2_with fail
  generalize w.alloc (inoO 25 i ao cap) = w0 at *
  refine hM.mono ?_
  rintro e w1 ⟨rfl, o1, h1', _, _⟩
  have HR : Hid (OwnI w1 base 2 (.slice ao i.dir.length cap) (marksI k0 i.dir.length) ∧ Chg lo hi w w1) := ⟨o1, C1.trans h1'⟩
  clear hM o1 h1' C1 h1 hb
  go_wp2
  go_ret
  exact ⟨rfl, HR.out⟩

end Go.Proofs.Ytdonfchmfcjhbaa
