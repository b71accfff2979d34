/- The model's DrawCrc; lwAt of the laws. -/
import Derived.Test.YtfkkfifjgkoicaaDrawB
import Derived.Lib.SlBytesConst
namespace Go.Proofs.Ytfkkfifjgkoicaa
open Go.RowKit

def nine : List Int := [49, 50, 51, 52, 53, 54, 55, 56, 57]

/-- The nine bytes in memory. -/
def NC : Array Value := #[.int .u8 49, .int .u8 50, .int .u8 51, .int .u8 52, .int .u8 53, .int .u8 54, .int .u8 55, .int .u8 56, .int .u8 57]

theorem nine_view (w : World) (base : Nat) (hb : base ≤ w.heap.size) : View (w.alloc (.cells NC 5 (NC.size, NC.size + 1))) base (w.heap.size + 1) .u8 (.slice (some ⟨w.heap.size, 0, none⟩) 9 9) nine := by
  have hn := heap_new w (.cells NC 5 (NC.size, NC.size + 1))
  refine ⟨_, 9, rfl, by simp [nine], ⟨by simp [nine], by simp⟩, Or.inr ⟨_, 0, rfl, hb, Nat.lt_succ_self _, fun i hi => ?_⟩⟩
  have hi9 : i < 9 := by simpa [nine] using hi
  simp only [World.cell?, hn]
  rcases i with _ | _ | _ | _ | _ | _ | _ | _ | _ | i
  all_goals first | rfl | omega

/-- What DrawCrc draws. -/
def drawCrc (code : List Int) : List Int := if nxt code 0 10 = 0 then nine else drawB code 2 (nxt code 1 (20 + 8 * (szOf code : Int))).toNat

theorem drawCrc_byt (code : List Int) : Byt (drawCrc code) := by
  unfold drawCrc
  split
  · intro x hx; simp [nine] at hx; omega
  · exact drawB_byt _ _ _

theorem drawCrc_len (code : List Int) : (drawCrc code).length ≤ 116 := by
  unfold drawCrc
  split
  · simp [nine]
  · rw [drawB_length]
    have h1 := nxt_range code 1 (20 + 8 * (szOf code : Int))
    have h2 := h1.2 (by omega)
    have h3 : szOf code ≤ 12 := by unfold szOf; omega
    omega

set_option maxRecDepth 20000 in
set_option maxHeartbeats 1000000 in
theorem drawCrc_calls (w : World) {lo hi : Nat} {cv : Value} {code : List Int} (hB : Byt code) (hcl : code.length ≤ 1048576) (hc : View w lo hi .u8 cv code) (hhi : hi ≤ w.heap.size) :
    Calls Try.prog 4 #[cv] w fun e w' => ∃ v, e = .returned v ∧ (∃ g cap, v = .slice (some ⟨g, 0, none⟩) (drawCrc code).length cap) ∧ View w' w.heap.size w'.heap.size .u8 v (drawCrc code) ∧ Chg 0 0 w w' := by
  have v0 := hc
  obtain ⟨ao, cap, rfl, hl, _, _⟩ := hc
  go_enter Try.func4, Try.ntmps4
  go_wp2_with fail
  refine (l1Source_calls _ ao code.length cap hl).mono ?_
  rintro e w1 ⟨rfl, s1, c1⟩
  have v1 := v0.chg c1 (by omega)
  go_wp2_with fail
  refine (l1Chance_calls _ w.heap.size 0 _ 10 (by omega) hB hcl (by omega) s1 v1 (Or.inr hhi)).mono ?_
  rintro e w2 ⟨rfl, s2, c2⟩
  have v2 := v1.chg c2 (by omega)
  have C2 : Chg 0 0 w w2 := c1.step c2 (Or.inr (Or.inl (Nat.le_refl _)))
  have z2 := C2.size
  have zp : w.heap.size < w2.heap.size := (Array.getElem?_eq_some_iff.1 s2).1
  clear s1 v1 c1 c2
  by_cases h : nxt code 0 10 = 0
  · have hb : (nxt code 0 10 == 0) = true := by rw [h]; rfl
    have HV : Hid (drawCrc code = nine) := by show _ = _; unfold drawCrc; rw [if_pos h]
    rw [hb]
    have hcv := fun (w : World) (C : Array Value) (n c : Nat) => Lib.run_convert_bytes_const (P := Try.prog) w 22 5 C n c Try.underlying22 Try.underlying5
    have HO : Hid (View (w2.alloc (.cells NC 5 (NC.size, NC.size + 1))) w.heap.size (w2.heap.size + 1) .u8 (.slice (some ⟨w2.heap.size, 0, none⟩) 9 9) (drawCrc code)) := by
      show View _ _ _ _ _ _
      rw [HV.out]; exact nine_view w2 _ z2
    have HC : Hid (Chg 0 0 w (w2.alloc (.cells NC 5 (NC.size, NC.size + 1)))) := C2.alloc _
    clear h hb s2 C2
    go_wp2
    go_ret
    exact ⟨_, rfl, ⟨_, 9, by rw [HV.out]; rfl⟩, by have := HO.out; simpa [NC] using this, HC.out⟩
  · have hb : (nxt code 0 10 == 0) = false := by simp only [beq_eq_false_iff_ne, ne_eq]; exact h
    have HV0 : Hid (drawCrc code = drawB code 2 (nxt code 1 (20 + 8 * (szOf code : Int))).toNat) := by show _ = _; unfold drawCrc; rw [if_neg h]
    rw [hb]
    have hsz : szOf code ≤ 12 := by unfold szOf; omega
    have s2 : SrcAt w2 w.heap.size (.slice ao code.length cap) 1 (szOf code) := s2
    obtain ⟨k0, k1, k2, _, _, _⟩ := three_cells s2
    have hr := nxt_range code 1 (20 + 8 * (szOf code : Int))
    have hr2 := hr.2 (by omega)
    obtain ⟨m, hm⟩ : ∃ m : Nat, nxt code 1 (20 + 8 * (szOf code : Int)) = (m : Int) := ⟨(nxt code 1 (20 + 8 * (szOf code : Int))).toNat, by omega⟩
    have hN := l1Next_calls w2 w.heap.size 1 (szOf code) (20 + 8 * (szOf code : Int)) (by omega) hB hcl (by omega) s2 v2 (Or.inr hhi)
    rw [hm] at hN hr2
    have HV : Hid (drawCrc code = drawB code 2 m) := by show _ = _; rw [HV0.out, hm]; rfl
    clear h hb hr hm s2 HV0
    generalize szOf code = z at *
    have hm2 : m ≤ 1048576 := by omega
    go_wp2_with fail
    refine hN.mono ?_
    rintro e w3 ⟨rfl, s3, c3⟩
    have v3 := v2.chg c3 (by omega)
    have C3 : Chg 0 0 w w3 := C2.step c3 (Or.inr (Or.inl (Nat.le_refl _)))
    have z3 := C3.size
    clear hN c3 v2 k0 k1 k2 C2
    go_wp2_with fail
    refine (l1DrawBytes_calls _ w.heap.size 2 _ m hm2 hB hcl (by omega) s3 v3 (Or.inr hhi)).mono ?_
    rintro e w4 ⟨v, rfl, ⟨vg, vc, rfl⟩, o4, s4, c4⟩
    have HC : Hid (Chg 0 0 w w4) := C3.step c4 (Or.inr (Or.inl (Nat.le_refl _)))
    have HO : Hid (View w4 w.heap.size w4.heap.size .u8 (.slice (some ⟨vg, 0, none⟩) m vc) (drawCrc code)) := by
      show View _ _ _ _ _ _
      rw [HV.out]; exact (o4.view (by rw [drawB_length]; omega) (fun g hg => (o4.lt g hg).2)).mono z3 (Nat.le_refl _)
    clear o4 s4 c4 C3 s3 v3
    go_wp2
    go_ret
    exact ⟨_, rfl, ⟨_, _, by rw [HV.out, drawB_length]; rfl⟩, HO.out, HC.out⟩

end Go.Proofs.Ytfkkfifjgkoicaa
