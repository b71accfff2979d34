/- lwSameDisk of the laws. -/
import Derived.Test.YtplfehjaakkldaaLwSame
import Derived.BigQuiet
namespace Go.Proofs.Ytplfehjaakkldaa
open Go.RowKit

set_option maxRecDepth 20000 in
set_option maxHeartbeats 4000000 in
theorem lwSameDisk_calls (w : World) {lo hi lo' hi' : Nat} {a b : Value} {d : Dsk} (h1 : DView w lo hi a d) (h2 : DView w lo' hi' b d) :
    Calls Try.prog 34 #[a, b] w fun e w' => e = .returned (.bool true) ∧ Chg 0 0 w w' := by
  obtain ⟨dv, pv, rfl, v1, p1⟩ := h1
  obtain ⟨dv', pv', rfl, v2, p2⟩ := h2
  have v1' := v1
  have v2' := v2
  obtain ⟨ao, cap, rfl, _, _, _⟩ := v1'
  obtain ⟨bo, cap', rfl, _, _, _⟩ := v2'
  obtain ⟨po, pcap, rfl, hpl, _, hp1⟩ := p1
  obtain ⟨qo, qcap, rfl, _, _, hp2⟩ := p2
  obtain ⟨z1, z2, z3⟩ := alloc2 w (.cells #[.slice ao d.dur.length cap, .slice po d.pend.length pcap] 29) (.cells #[.slice bo d.dur.length cap', .slice qo d.pend.length qcap] 29)
  have hB : Chg 0 0 w ((w.alloc (.cells #[.slice ao d.dur.length cap, .slice po d.pend.length pcap] 29)).alloc (.cells #[.slice bo d.dur.length cap', .slice qo d.pend.length qcap] 29)) := (Chg.alloc (Chg.refl 0 0 w) _).alloc _
  have v1 := v1.chg hB (by omega)
  have v2 := v2.chg hB (by omega)
  have HP1 : Hid (d.pend = [] ∨ ∃ b off, po = some ⟨b, off, none⟩ ∧ lo ≤ b ∧ b < hi ∧ ∀ i, i < d.pend.length → ∃ dv, w.cell? ⟨b, off + i * 2, none⟩ = some (.int .i64 (d.pend.getD i (0, [])).1) ∧ w.cell? ⟨b, off + i * 2 + 1, none⟩ = some dv ∧ View w lo hi .u8 dv (d.pend.getD i (0, [])).2) := hp1
  have HP2 : Hid (d.pend = [] ∨ ∃ b off, qo = some ⟨b, off, none⟩ ∧ lo' ≤ b ∧ b < hi' ∧ ∀ i, i < d.pend.length → ∃ dv, w.cell? ⟨b, off + i * 2, none⟩ = some (.int .i64 (d.pend.getD i (0, [])).1) ∧ w.cell? ⟨b, off + i * 2 + 1, none⟩ = some dv ∧ View w lo' hi' .u8 dv (d.pend.getD i (0, [])).2) := hp2
  clear hp1 hp2
  have HZ2 : Hid _ := z2
  have HZ3 : Hid _ := z3
  obtain ⟨x0, x1, _, _⟩ := two_cells z2
  obtain ⟨y0, y1, _, _⟩ := two_cells z3
  have hne : ((d.pend.length : Int) != (d.pend.length : Int)) = false := by simp
  clear z2 z3
  go_enter Try.func34, Try.ntmps34
  go_wp2_with fail
  generalize (w.alloc (.cells #[.slice ao d.dur.length cap, .slice po d.pend.length pcap] 29)).alloc (.cells #[.slice bo d.dur.length cap', .slice qo d.pend.length qcap] 29) = wb at *
  refine (lwSameBytes_calls _ v1 v2).mono ?_
  rintro e w1 ⟨rfl, rfl⟩
  generalize w1 = wb at *
  clear v1 v2 x0 x1 y0 y1
  go_wp2
  go_loopw [5] (fun i wr => ∃ k : Nat, k ≤ d.pend.length ∧ i = .int .i64 k ∧ Same wb wr) (fun i _ => d.pend.length - (intOf i).toNat)
  case atStart => exact ⟨0, Nat.zero_le _, rfl, Same.refl _⟩
  case round =>
    obtain ⟨k, hk, rfl, hsame⟩ := hrel
    have x1 : wr.cell? ⟨w.heap.size, 1, none⟩ = some (.slice po d.pend.length pcap) := (hsame.cell _).trans (two_cells HZ2.out).2.1
    have y1 : wr.cell? ⟨w.heap.size + 1, 1, none⟩ = some (.slice qo d.pend.length qcap) := (hsame.cell _).trans (two_cells HZ3.out).2.1
    have hch : Chg 0 0 w wr := hB.trans (hsame.chg 0 0)
    by_cases hlt : k < d.pend.length
    · obtain ⟨pb, poff, rfl, hpc⟩ : ∃ b off, po = some ⟨b, off, none⟩ ∧ ∀ i, i < d.pend.length → ∃ dv, w.cell? ⟨b, off + i * 2, none⟩ = some (.int .i64 (d.pend.getD i (0, [])).1) ∧ w.cell? ⟨b, off + i * 2 + 1, none⟩ = some dv ∧ View w lo hi .u8 dv (d.pend.getD i (0, [])).2 := by
        rcases HP1.out with h | ⟨b, off, e, _, _, h⟩
        · rw [h] at hlt; simp at hlt
        · exact ⟨b, off, e, h⟩
      obtain ⟨qb, qoff, rfl, hqc⟩ : ∃ b off, qo = some ⟨b, off, none⟩ ∧ ∀ i, i < d.pend.length → ∃ dv, w.cell? ⟨b, off + i * 2, none⟩ = some (.int .i64 (d.pend.getD i (0, [])).1) ∧ w.cell? ⟨b, off + i * 2 + 1, none⟩ = some dv ∧ View w lo' hi' .u8 dv (d.pend.getD i (0, [])).2 := by
        rcases HP2.out with h | ⟨b, off, e, _, _, h⟩
        · rw [h] at hlt; simp at hlt
        · exact ⟨b, off, e, h⟩
      obtain ⟨d1, c1, c2, u1⟩ := hpc k hlt
      obtain ⟨d2, c3, c4, u2⟩ := hqc k hlt
      have c1 := hch.cell c1 (by omega)
      have c2 := hch.cell c2 (by omega)
      have c3 := hch.cell c3 (by omega)
      have c4 := hch.cell c4 (by omega)
      have u1 := u1.chg hch (by omega)
      have u2 := u2.chg hch (by omega)
      obtain ⟨e1, e2, rfl, _⟩ := id u1
      obtain ⟨e3, e4, rfl, _⟩ := id u2
      generalize (d.pend.getD k (0, [])).1 = q at *
      generalize (d.pend.getD k (0, [])).2 = xs at *
      have hik : (k : Int) < (d.pend.length : Int) := by omega
      have hqq : (q != q) = false := by simp
      have HS : Hid (Same wb wr) := hsame
      clear hpc hqc HP1 HP2 hsame
      go_wp2
      go_quiet ((go_at_call 36; exact Calls.quiet_of_same (lwSameBytes_calls _ (u1.chg (Chg.drewN (Chg.refl 0 0 _) _) (by omega)) (u2.chg (Chg.drewN (Chg.refl 0 0 _) _) (by omega)))))
      go_wp2
      go_roundw
      case rel => exact ⟨k + 1, by omega, by go_num, HS.out.drewN _⟩
      case measure => simp [intOf]; omega
    · clear HP1 HP2
      go_wp2
      go_ret
      exact ⟨rfl, hch⟩

end Go.Proofs.Ytplfehjaakkldaa
