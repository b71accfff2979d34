/- The device refuses a write. -/
import Derived.Test.YtplfehjaakkldaaBase
namespace Go.Proofs.Ytplfehjaakkldaa
open Go.RowKit

set_option maxRecDepth 20000 in
set_option maxHeartbeats 1000000 in
theorem write_no (w : World) {base p lo hi : Nat} {d : Dsk} {b : Value} (a : Int) (ys : List Int) (h : Dev w base p d) (hb : View w lo hi .u8 b ys)
    (h0 : 600 ≤ d.pend.length ∨ a < 0 ∨ ((d.dur.length / 64 : Nat) : Int) ≤ a ∨ ys.length ≠ 64) :
    Calls Try.prog 51 #[.pointer (some ⟨p, 0, none⟩), .int .i64 a, b] w fun e w' => e = .returned (.bool false) ∧ w' = w := by
  have Hh : Hid (Dev w base p d) := h
  obtain ⟨gD, pv, hv, hp, hbx, hdr, hpr⟩ := h
  obtain ⟨po, pn, pc, rfl⟩ := row_slice hpr
  obtain ⟨c0, c1, f0, f1⟩ := two_cells hbx
  have hpn : pn = d.pend.length := by
    rcases hpr.2 with ⟨e, h0⟩ | ⟨g, cap, cur, e, _⟩
    · cases e; exact h0.symm
    · simp only [Value.slice.injEq] at e; exact e.2.1
  subst hpn
  have hm := hv.2.2.2.1
  obtain ⟨bo, bcap, rfl, hbl, _, _⟩ := hb
  clear hbx hdr hpr hv
  by_cases h1 : 600 ≤ d.pend.length
  · go_enter Try.func51, Try.ntmps51
    go_wp2
    go_ret
    exact ⟨rfl, rfl⟩
  · by_cases h2 : 0 ≤ a ∧ a < ((d.dur.length / 64 : Nat) : Int)
    · have h3 : ys.length ≠ 64 := by omega
      have hne : ((ys.length : Int) != 64) = true := by simp; omega
      clear h0
      go_enter Try.func51, Try.ntmps51
      go_wp2_with fail
      refine (has_yes _ a Hh.out h2.1 h2.2).mono ?_
      rintro e w2 ⟨rfl, rfl⟩
      go_wp2
      go_ret
      exact ⟨rfl, rfl⟩
    · clear h0
      go_enter Try.func51, Try.ntmps51
      go_wp2_with fail
      refine (has_no _ a Hh.out (by omega)).mono ?_
      rintro e w2 ⟨rfl, rfl⟩
      go_wp2
      go_ret
      exact ⟨rfl, rfl⟩
end Go.Proofs.Ytplfehjaakkldaa
