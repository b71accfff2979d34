/- Inodes: szInode, toInode, eqInode of the laws; ValidInode of the model. -/
import Derived.Test.YtdonfchmfcjhbaaInts
import Derived.Test.YtdonfchmfcjhbaaSzI
import Derived.Test.YtdonfchmfcjhbaaFlat
import Derived.Test.YtdonfchmfcjhbaaGoodBlk
import Derived.Deep.DeepCutAuto
namespace Go.Proofs.Ytdonfchmfcjhbaa
open Go.RowKit

/-- An inode: kind, links, size, direct blocks, the indirect one. -/
structure Ino where
  kind : Int
  links : Int
  size : Int
  dir : List Int
  ind : Int

abbrev inoV (i : Ino) (ao : Option Addr) (cap : Nat) : Value := .agg #[.int .i64 i.kind, .int .i64 i.links, .int .i64 i.size, .slice ao i.dir.length cap, .int .i64 i.ind]
abbrev inoO (t : TypeId) (i : Ino) (ao : Option Addr) (cap : Nat) : Obj := .cells #[.int .i64 i.kind, .int .i64 i.links, .int .i64 i.size, .slice ao i.dir.length cap, .int .i64 i.ind] t
theorem ino_all {w : World} {s : Nat} {a b c d e : Value} {t : TypeId} (h : w.heap[s]? = some (.cells #[a, b, c, d, e] t (0, 0))) :
    (w.cell? ⟨s, 0, none⟩ = some a ∧ w.cell? ⟨s, 1, none⟩ = some b ∧ w.cell? ⟨s, 2, none⟩ = some c ∧ w.cell? ⟨s, 3, none⟩ = some d ∧ w.cell? ⟨s, 4, none⟩ = some e) ∧
      w.frozen? ⟨s, 0, none⟩ = false ∧ w.frozen? ⟨s, 1, none⟩ = false ∧ w.frozen? ⟨s, 2, none⟩ = false ∧ w.frozen? ⟨s, 3, none⟩ = false ∧ w.frozen? ⟨s, 4, none⟩ = false := by
  simp [World.cell?, World.frozen?, h]

set_option maxRecDepth 20000 in
set_option maxHeartbeats 400000 in
theorem eqInode_calls (w : World) {lo hi lo' hi' : Nat} (i : Ino) (ao bo : Option Addr) (cap cap' : Nat) (h1 : View w lo hi .i64 (.slice ao i.dir.length cap) i.dir) (h2 : View w lo' hi' .i64 (.slice bo i.dir.length cap') i.dir) :
    Calls Try.prog 17 #[inoV i ao cap, inoV i bo cap'] w fun e w' => e = .returned (.bool true) ∧ Chg 0 0 w w' := by
  have hA : Chg 0 0 w ((w.alloc (inoO 25 i ao cap)).alloc (inoO 25 i bo cap')) := (Chg.alloc (Chg.refl 0 0 w) _).alloc _
  obtain ⟨z, b0, b1⟩ := alloc2 w (inoO 25 i ao cap) (inoO 25 i bo cap')
  have n0 : (i.kind != i.kind) = false := by simp
  have n1 : (i.links != i.links) = false := by simp
  have n2 : (i.size != i.size) = false := by simp
  have n3 : (i.ind != i.ind) = false := by simp
  have hN := eqInt64S_calls _ (h1.chg hA (by omega)) (h2.chg hA (by omega))
  clear h1 h2
  go_enter Try.func17, Try.ntmps17
  go_wp2_with fail
  generalize (w.alloc (inoO 25 i ao cap)).alloc (inoO 25 i bo cap') = w0 at *
  refine hN.mono ?_
  rintro e w1 ⟨rfl, hs⟩
  have hs := hs.chg 0 0
  obtain ⟨⟨x0, x1, x2, x3, x4⟩, _⟩ := ino_all ((hs.block w.heap.size (by omega) (by omega)).trans b0)
  obtain ⟨⟨y0, y1, y2, y3, y4⟩, _⟩ := ino_all ((hs.block (w.heap.size + 1) (by omega) (by omega)).trans b1)
  have HC : Hid (Chg 0 0 w w1) := hA.trans hs
  clear hs hA hN b0 b1
  go_wp2
  go_ret
  exact ⟨rfl, HC.out⟩

end Go.Proofs.Ytdonfchmfcjhbaa
