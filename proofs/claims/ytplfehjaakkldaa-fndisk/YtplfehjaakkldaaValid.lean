/- ValidDisk, of the program and of its model. -/
import Derived.Test.YtplfehjaakkldaaRows
import Derived.Test.YtplfehjaakkldaaMem
namespace Go.Proofs.Ytplfehjaakkldaa
open Go.RowKit

/-- A pending write of a disk of n blocks. -/
def Good (n : Nat) (p : Wr) : Prop := 0 ≤ p.1 ∧ p.1 < (n : Int) ∧ p.2.length = 64
/-- A valid disk. -/
def Valid (d : Dsk) : Prop := d.dur.length % 64 = 0 ∧ 1 ≤ d.dur.length / 64 ∧ d.dur.length / 64 ≤ 2048 ∧ d.pend.length ≤ 600 ∧ ∀ i, i < d.pend.length → Good (d.dur.length / 64) (d.pend.getD i (0, []))

def goodB (n : Nat) (p : Wr) : Bool := decide (0 ≤ p.1) && (decide (p.1 < (n : Int)) && (p.2.length == 64))
def validB (d : Dsk) : Bool := (d.dur.length % 64 == 0) && (decide (1 ≤ d.dur.length / 64) && (decide (d.dur.length / 64 ≤ 2048) && (decide (d.pend.length ≤ 600) && (List.range d.pend.length).all fun i => goodB (d.dur.length / 64) (d.pend.getD i (0, [])))))
theorem goodB_iff (n : Nat) (p : Wr) : goodB n p = true ↔ Good n p := by simp [goodB, Good]
theorem validB_iff (d : Dsk) : validB d = true ↔ Valid d := by simp only [validB, Valid, Bool.and_eq_true, beq_iff_eq, decide_eq_true_eq, List.all_eq_true, List.mem_range, goodB_iff]
theorem validB_true {d : Dsk} (h : Valid d) : validB d = true := (validB_iff d).2 h
theorem validB_false {d : Dsk} (h : ¬ Valid d) : validB d = false := by
  cases e : validB d with
  | false => rfl
  | true => exact absurd ((validB_iff d).1 e) h

set_option maxRecDepth 20000 in
set_option maxHeartbeats 400000 in
theorem l1Blocks_calls (w : World) (ao : Option Addr) (n cap : Nat) (pv : Value) (hl : n ≤ 9223372036854775807) :
    Calls Try.prog 46 #[.agg #[.slice ao n cap, pv]] w fun e w' => e = .returned (.int .i64 ((n / 64 : Nat) : Int)) ∧ Chg 0 0 w w' := by
  go_enter Try.func46, Try.ntmps46
  go_wp2
  go_ret
  exact ⟨ret_int (by omega), Chg.alloc (Chg.refl 0 0 w) _⟩


set_option maxRecDepth 20000 in
set_option maxHeartbeats 2000000 in
theorem specValid_calls (w : World) {lo hi : Nat} {a : Value} {d : Dsk} (h1 : DView w lo hi a d) :
    Calls Try.prog 45 #[a] w fun e w' => e = .returned (.bool (validB d)) ∧ Chg 0 0 w w' := by
  obtain ⟨dv, pv, rfl, v1, p1⟩ := h1
  obtain ⟨ao, cap, rfl, hl1, _, _⟩ := v1
  obtain ⟨po, pcap, rfl, hl2, _, hpc⟩ := p1
  go_enter Try.func45, Try.ntmps45
  go_wp2_with fail
  refine (l1Blocks_calls _ _ _ _ _ hl1).mono ?_
  rintro e w1 ⟨rfl, hc⟩
  have B1 := (hc.block w.heap.size (by simp) (by omega)).trans (heap_new _ _)
  obtain ⟨x0, x1, _, _⟩ := two_cells B1
  have hch : Chg 0 0 w w1 := (Chg.alloc (Chg.refl 0 0 w) _).trans hc
  clear hc B1
  by_cases t1 : d.dur.length % 64 = 0
  case neg =>
    have HV : Hid (validB d = false) := validB_false (fun h => t1 h.1)
    have t1' : ((d.dur.length : Int) % 64 != 0) = true := by simp; omega
    clear hpc
    go_wp2
    go_ret
    exact ⟨by rw [HV.out]; rfl, hch⟩
  have t1' : ((d.dur.length : Int) % 64 != 0) = false := by simp; omega
  by_cases t2 : 1 ≤ d.dur.length / 64
  case neg =>
    have HV : Hid (validB d = false) := validB_false (fun h => t2 h.2.1)
    have t2' : ((d.dur.length / 64 : Nat) : Int) < 1 := by omega
    clear hpc
    go_wp2
    go_ret
    exact ⟨by rw [HV.out]; rfl, hch⟩
  by_cases t3 : d.dur.length / 64 ≤ 2048
  case neg =>
    have HV : Hid (validB d = false) := validB_false (fun h => t3 h.2.2.1)
    clear hpc
    go_wp2
    go_ret
    exact ⟨by rw [HV.out]; rfl, hch⟩
  by_cases t4 : d.pend.length ≤ 600
  case neg =>
    have HV : Hid (validB d = false) := validB_false (fun h => t4 h.2.2.2.1)
    clear hpc
    go_wp2
    go_ret
    exact ⟨by rw [HV.out]; rfl, hch⟩
  have hcells : ∀ k, k < d.pend.length → ∃ b off ao' cap', po = some ⟨b, off, none⟩ ∧ w1.cell? ⟨b, off + k * 2, none⟩ = some (.int .i64 (d.pend.getD k (0, [])).1) ∧ w1.cell? ⟨b, off + k * 2 + 1, none⟩ = some (.slice ao' (d.pend.getD k (0, [])).2.length cap') := by
    intro k hk
    rcases hpc with e | ⟨b, off, e, _, _, h⟩
    · rw [e] at hk; simp at hk
    · obtain ⟨dv, c1, c2, ao', cap', rfl, _⟩ := h k hk
      exact ⟨b, off, ao', cap', e, hch.cell c1 (by omega), hch.cell c2 (by omega)⟩
  clear hpc
  have HC : Hid (∀ k, k < d.pend.length → ∃ b off ao' cap', po = some ⟨b, off, none⟩ ∧ w1.cell? ⟨b, off + k * 2, none⟩ = some (.int .i64 (d.pend.getD k (0, [])).1) ∧ w1.cell? ⟨b, off + k * 2 + 1, none⟩ = some (.slice ao' (d.pend.getD k (0, [])).2.length cap')) := hcells
  clear hcells
  go_wp2
  go_loop [4] (fun i => ∃ k : Nat, k ≤ d.pend.length ∧ i = .int .i64 k ∧ ∀ j, j < k → Good (d.dur.length / 64) (d.pend.getD j (0, []))) (fun i => d.pend.length - (intOf i).toNat)
  case atStart => exact ⟨0, Nat.zero_le _, rfl, by intro j hj; omega⟩
  case round =>
    obtain ⟨k, hk, rfl, hgd⟩ := hrel
    have HG : Hid (∀ j, j < k → Good (d.dur.length / 64) (d.pend.getD j (0, []))) := hgd
    clear hgd
    by_cases hlt : k < d.pend.length
    case neg =>
      obtain rfl : k = d.pend.length := by omega
      have HV : Hid (validB d = true) := validB_true ⟨t1, t2, t3, t4, HG.out⟩
      clear HG HC
      go_wp2
      go_ret
      exact ⟨by rw [HV.out]; rfl, hch⟩
    obtain ⟨b, off, ao', cap', rfl, c1, c2⟩ := HC.out k hlt
    have HB : Hid (¬ Good (d.dur.length / 64) (d.pend.getD k (0, [])) → validB d = false) := fun h => validB_false (fun hv => h (hv.2.2.2.2 k hlt))
    have HS : Hid (Good (d.dur.length / 64) (d.pend.getD k (0, [])) → ∀ j, j < k + 1 → Good (d.dur.length / 64) (d.pend.getD j (0, []))) := by
      intro h j hj
      rcases Nat.lt_succ_iff_lt_or_eq.1 hj with h' | rfl
      · exact HG.out j h'
      · exact h
    clear HG HC
    have hik : (k : Int) < (d.pend.length : Int) := by omega
    generalize d.pend.getD k (0, []) = p at *
    obtain ⟨q, xs⟩ := p
    simp only at c1 c2
    by_cases g1 : 0 ≤ q
    case neg =>
      have HV : Hid (validB d = false) := HB.out (fun h => g1 h.1)
      go_wp2
      go_ret
      exact ⟨by rw [HV.out]; rfl, hch⟩
    by_cases g2 : q < ((d.dur.length / 64 : Nat) : Int)
    case neg =>
      have HV : Hid (validB d = false) := HB.out (fun h => g2 h.2.1)
      go_wp2
      go_ret
      exact ⟨by rw [HV.out]; rfl, hch⟩
    by_cases g3 : xs.length = 64
    case neg =>
      have HV : Hid (validB d = false) := HB.out (fun h => g3 h.2.2)
      have g3' : ((xs.length : Int) != 64) = true := by simp; omega
      go_wp2
      go_ret
      exact ⟨by rw [HV.out]; rfl, hch⟩
    have HN := HS.out ⟨g1, g2, g3⟩
    have HN' : Hid (∀ j, j < k + 1 → Good (d.dur.length / 64) (d.pend.getD j (0, []))) := HN
    clear HN HS HB
    have g3' : ((xs.length : Int) != 64) = false := by simp; omega
    clear g3
    go_wp2
    go_round
    case rel => exact ⟨k + 1, by omega, by go_num, HN'.out⟩
    case measure => simp [intOf]; omega

set_option maxRecDepth 20000 in
set_option maxHeartbeats 2000000 in
theorem implValid_calls (w : World) {lo hi : Nat} {a : Value} {d : Dsk} (h1 : DView w lo hi a d) :
    Calls Try.prog 76 #[a] w fun e w' => e = .returned (.bool (validB d)) ∧ Chg 0 0 w w' := by
  obtain ⟨dv, pv, rfl, v1, p1⟩ := h1
  obtain ⟨ao, cap, rfl, hl1, _, _⟩ := v1
  obtain ⟨po, pcap, rfl, hl2, _, hpc⟩ := p1
  have HA : Hid (Chg 0 0 w (w.alloc (.cells #[.slice ao d.dur.length cap, .slice po d.pend.length pcap] 29))) := Chg.alloc (Chg.refl 0 0 w) _
  by_cases t0 : d.dur.length = 0
  case pos =>
    have HV : Hid (validB d = false) := validB_false (fun h => by have := h.2.1; omega)
    have t0' : ((d.dur.length : Int) == 0) = true := by rw [beq_iff_eq]; omega
    clear hpc t0
    go_enter Try.func76, Try.ntmps76
    go_wp2
    go_ret
    exact ⟨by rw [HV.out]; rfl, HA.out⟩
  have t0' : ((d.dur.length : Int) == 0) = false := by rw [beq_eq_false_iff_ne]; omega
  by_cases t3 : d.dur.length ≤ 131072
  case neg =>
    have HV : Hid (validB d = false) := validB_false (fun h => by have := h.2.2.1; have := h.1; omega)
    clear hpc
    go_enter Try.func76, Try.ntmps76
    go_wp2
    go_ret
    exact ⟨by rw [HV.out]; rfl, HA.out⟩
  by_cases t1 : d.dur.length % 64 = 0
  case neg =>
    have HV : Hid (validB d = false) := validB_false (fun h => t1 h.1)
    have t1' : ((d.dur.length : Int) % 64 != 0) = true := by simp; omega
    clear hpc
    go_enter Try.func76, Try.ntmps76
    go_wp2
    go_ret
    exact ⟨by rw [HV.out]; rfl, HA.out⟩
  have t1' : ((d.dur.length : Int) % 64 != 0) = false := by simp; omega
  by_cases t4 : d.pend.length ≤ 600
  case neg =>
    have HV : Hid (validB d = false) := validB_false (fun h => t4 h.2.2.2.1)
    clear hpc
    go_enter Try.func76, Try.ntmps76
    go_wp2
    go_ret
    exact ⟨by rw [HV.out]; rfl, HA.out⟩
  have HC : Hid (∀ wr, Chg 0 0 w wr → ∀ k, k < d.pend.length → ∃ b off ao' cap', po = some ⟨b, off, none⟩ ∧ wr.cell? ⟨b, off + k * 2, none⟩ = some (.int .i64 (d.pend.getD k (0, [])).1) ∧ wr.cell? ⟨b, off + k * 2 + 1, none⟩ = some (.slice ao' (d.pend.getD k (0, [])).2.length cap')) := by
    intro wr hch k hk
    rcases hpc with e | ⟨b, off, e, _, _, h⟩
    · rw [e] at hk; simp at hk
    · obtain ⟨dv, c1, c2, ao', cap', rfl, _⟩ := h k hk
      exact ⟨b, off, ao', cap', e, hch.cell c1 (by omega), hch.cell c2 (by omega)⟩
  clear hpc
  have t2 : Hid (1 ≤ d.dur.length / 64) := by show 1 ≤ _; omega
  have t3' : Hid (d.dur.length / 64 ≤ 2048) := by show _ ≤ 2048; omega
  go_enter Try.func76, Try.ntmps76
  go_wp2
  go_loopw [30] (fun i wr => Chg 0 0 w wr ∧ ∃ k : Nat, k ≤ d.pend.length ∧ i = .int .i64 k ∧ ∀ j, j < k → Good (d.dur.length / 64) (d.pend.getD j (0, []))) (fun i _ => d.pend.length - (intOf i).toNat)
  case atStart => exact ⟨HA.out, 0, Nat.zero_le _, rfl, by intro j hj; omega⟩
  case round =>
    obtain ⟨hch, k, hk, rfl, hgd⟩ := hrel
    have HG : Hid (∀ j, j < k → Good (d.dur.length / 64) (d.pend.getD j (0, []))) := hgd
    clear hgd
    by_cases hlt : k < d.pend.length
    case neg =>
      obtain rfl : k = d.pend.length := by omega
      have HV : Hid (validB d = true) := validB_true ⟨t1, t2.out, t3'.out, t4, HG.out⟩
      clear HG HC
      go_wp2
      go_ret
      exact ⟨by rw [HV.out]; rfl, hch⟩
    obtain ⟨b, off, ao', cap', rfl, c1, c2⟩ := HC.out wr hch k hlt
    have HB : Hid (¬ Good (d.dur.length / 64) (d.pend.getD k (0, [])) → validB d = false) := fun h => validB_false (fun hv => h (hv.2.2.2.2 k hlt))
    have HS : Hid (Good (d.dur.length / 64) (d.pend.getD k (0, [])) → ∀ j, j < k + 1 → Good (d.dur.length / 64) (d.pend.getD j (0, []))) := by
      intro h j hj
      rcases Nat.lt_succ_iff_lt_or_eq.1 hj with h' | rfl
      · exact HG.out j h'
      · exact h
    clear HG HC
    have hik : (k : Int) < (d.pend.length : Int) := by omega
    generalize d.pend.getD k (0, []) = p at *
    obtain ⟨q, xs⟩ := p
    simp only at c1 c2
    have HA2 : Hid (Chg 0 0 w (wr.alloc (.cells #[.int .i64 q, .slice ao' xs.length cap'] 55))) := hch.alloc _
    clear HA hch
    by_cases g1 : 0 ≤ q
    case neg =>
      have HV : Hid (validB d = false) := HB.out (fun h => g1 h.1)
      go_wp2
      go_ret
      exact ⟨by rw [HV.out]; rfl, HA2.out⟩
    by_cases g2 : q < ((d.dur.length / 64 : Nat) : Int)
    case neg =>
      have HV : Hid (validB d = false) := HB.out (fun h => g2 h.2.1)
      go_wp2
      go_ret
      exact ⟨by rw [HV.out]; rfl, HA2.out⟩
    by_cases g3 : xs.length = 64
    case neg =>
      have HV : Hid (validB d = false) := HB.out (fun h => g3 h.2.2)
      have g3' : ((xs.length : Int) != 64) = true := by simp; omega
      go_wp2
      go_ret
      exact ⟨by rw [HV.out]; rfl, HA2.out⟩
    have HN := HS.out ⟨g1, g2, g3⟩
    have HN' : Hid (∀ j, j < k + 1 → Good (d.dur.length / 64) (d.pend.getD j (0, []))) := HN
    clear HN HS HB
    have g3' : ((xs.length : Int) != 64) = false := by simp; omega
    clear g3
    go_wp2
    go_roundw
    case rel => exact ⟨HA2.out, k + 1, by omega, by go_num, HN'.out⟩
    case measure => simp [intOf]; omega
end Go.Proofs.Ytplfehjaakkldaa
