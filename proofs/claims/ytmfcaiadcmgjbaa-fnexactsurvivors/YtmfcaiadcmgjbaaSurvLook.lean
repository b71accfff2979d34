/- A copy looked up. -/
import Derived.Test.YtmfcaiadcmgjbaaSurvNo
namespace Go.Proofs.Ytmfcaiadcmgjbaa
open Go.RowKit

/-- A copy looked up. -/
theorem look_atC {W : World} {bm n : Nat} {D : DataW Value} {f : Int → Option Cp} (h : W.ownsMap Try.prog 2 rC bm n D) (hs : SaysF zC D (fun x => (f x).map cpD)) {x : Int} (hx : (Lit.int .i64 x).wf = true) :
    (Instr.lookup 47 (.map (some bm)) (.int .i64 x) true).run Try.prog W = .ok (.tuple #[match f x with | none => .agg #[.int .i64 0, .slice none 0 0] | some c => .agg #[.int .i64 (c.1 : Nat), c.2.1], .bool (f x).isSome]) W := by
  have K := Maps.int_keyed (P := Try.prog) (k := 2) Try.underlying2
  obtain ⟨v, ps, hrun, hv⟩ := h.look_ok K Try.underlying47 (z := .agg #[.int .i64 0, .slice none 0 0]) (by kernel_rfl) (zd := zC) rfl (kI_of hx)
  rw [hs.has x] at hrun
  have hd : DataW.held v = D.atKey (kI x) zC := (Prod.mk.inj (Option.some.inj hv)).1
  rw [hrun]
  cases hf : f x with
  | none =>
    have : Maps.has D (kI x) = false := by rw [hs.has x, hf]; rfl
    rw [Maps.atKey_of_not_has this] at hd
    injection hd with hd
    rw [hd]; rfl
  | some c =>
    rw [hs.at' x (cpD c) (by rw [hf]; rfl)] at hd
    injection hd with hd
    rw [hd]; rfl

end Go.Proofs.Ytmfcaiadcmgjbaa
