/- Inodes: szInode, toInode, eqInode of the laws; ValidInode of the model. -/
import Derived.Test.YtbdkdfkhcmckhaaInts
import Derived.Test.YtbdkdfkhcmckhaaSzI
import Derived.Test.YtbdkdfkhcmckhaaFlat
import Derived.Test.YtbdkdfkhcmckhaaGoodBlk
import Derived.Deep.DeepCutAuto
namespace Go.Proofs.Ytbdkdfkhcmckhaa
open Go.RowKit

/-- An inode: kind, links, size, direct blocks, the indirect one. -/
structure Ino where
  kind : Int
  links : Int
  size : Int
  dir : List Int
  ind : Int

abbrev inoV (i : Ino) (ao : Option Addr) (cap : Nat) : Value := .agg #[.int .i64 i.kind, .int .i64 i.links, .int .i64 i.size, .slice ao i.dir.length cap, .int .i64 i.ind]
abbrev inoO (t : TypeId) (i : Ino) (ao : Option Addr) (cap : Nat) : Obj := .cells #[.int .i64 i.kind, .int .i64 i.links, .int .i64 i.size, .slice ao i.dir.length cap, .int .i64 i.ind] t
theorem ino_all {w : World} {s : Nat} {a b c d e : Value} {t : TypeId} (h : w.heap[s]? = some (.cells #[a, b, c, d, e] t (0, 0))) :
    (w.cell? ⟨s, 0, none⟩ = some a ∧ w.cell? ⟨s, 1, none⟩ = some b ∧ w.cell? ⟨s, 2, none⟩ = some c ∧ w.cell? ⟨s, 3, none⟩ = some d ∧ w.cell? ⟨s, 4, none⟩ = some e) ∧
      w.frozen? ⟨s, 0, none⟩ = false ∧ w.frozen? ⟨s, 1, none⟩ = false ∧ w.frozen? ⟨s, 2, none⟩ = false ∧ w.frozen? ⟨s, 3, none⟩ = false ∧ w.frozen? ⟨s, 4, none⟩ = false := by
  simp [World.cell?, World.frozen?, h]

end Go.Proofs.Ytbdkdfkhcmckhaa
