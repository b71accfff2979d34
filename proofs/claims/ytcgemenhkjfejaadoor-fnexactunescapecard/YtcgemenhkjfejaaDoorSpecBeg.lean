/- Does a block begin with the magic? (of the model) -/
import Derived.Test.YtcgemenhkjfejaaDoorL2Same
import Derived.Test.YtcgemenhkjfejaaDoorMg
import Derived.Deep.RegionWith
namespace Go.Proofs.YtcgemenhkjfejaaDoor
open Go.RowKit

set_option maxRecDepth 20000 in
set_option maxHeartbeats 400000 in
theorem l3Magic_calls (w : World) : Calls Tryd.prog 15 #[] w fun e w' => e = .returned (.slice (some ⟨w.heap.size, 0, none⟩) 4 4) ∧ OwnB w' w.heap.size 5 (.slice (some ⟨w.heap.size, 0, none⟩) 4 4) mg ∧ Chg 0 0 w w' := by
  have HO : Hid (OwnB (w.alloc (.cells #[.int .u8 106, .int .u8 108, .int .u8 111, .int .u8 103] 5)) w.heap.size 5 (.slice (some ⟨w.heap.size, 0, none⟩) 4 4) mg) := by
    show OwnB _ _ _ _ _
    have := World.ownsRow_lit (base := w.heap.size) (e := 5) (size := 1) w #[.int .u8 106, .int .u8 108, .int .u8 111, .int .u8 103] 4 (Nat.le_refl _) (by unfold maxLen; omega) rfl
    simpa [OwnB, mg] using this
  have HC : Hid (Chg 0 0 w (w.alloc (.cells #[.int .u8 106, .int .u8 108, .int .u8 111, .int .u8 103] 5))) := Chg.alloc (Chg.refl 0 0 w) _
  go_enter Tryd.func15, Tryd.ntmps15
  go_wp2
  go_ret
  exact ⟨rfl, HO.out, HC.out⟩

/-- Do bytes begin with the magic? -/
def beg (xs : List Int) : Bool := decide (4 ≤ xs.length) && decide (xs.take 4 = mg)

set_option maxRecDepth 20000 in
set_option maxHeartbeats 1000000 in
theorem l3Begins_calls (w : World) {lo hi : Nat} {a : Value} {xs : List Int} (hB : Byt xs) (h1 : View w lo hi .u8 a xs) :
    Calls Tryd.prog 10 #[a] w fun e w' => e = .returned (.bool (beg xs)) ∧ Chg 0 0 w w' := by
  have v0 := h1
  obtain ⟨ao, cap, rfl, hl, _, _⟩ := h1
  by_cases h4 : 4 ≤ xs.length
  · have hi4 : (xs.length : Int) ≥ 4 := by omega
    have hc4 : 4 ≤ cap := by
      obtain ⟨_, _, ev, _, ⟨hc, _⟩, _⟩ := v0
      simp only [Value.slice.injEq] at ev
      omega
    have hb : beg xs = decide (xs.take 4 = mg) := by unfold beg; rw [decide_eq_true h4]; rfl
    rw [hb]
    have HV : Hid (View w lo hi .u8 (.slice ao xs.length cap) xs) := v0
    have HB : Hid (Byt xs) := hB
    have HL : Hid (4 ≤ xs.length) := h4
    clear v0 hb hB h4
    go_enter Tryd.func10, Tryd.ntmps10
    go_wp2
    go_region_with (first
      | (go_at_call 15; refine (l3Magic_calls _).mono ?_; rintro e w' ⟨rfl, ho, hc⟩)
      | (go_at_call 12; refine (l2Same_calls (xs := xs.take 4) (ys := mg) _ (HB.out.take 4) byt_mg ((HV.out.take 4 HL.out).chg ((Chg.drew (Chg.refl 0 0 w)).trans hc) (by omega)) (ho.view (hi := w'.heap.size) (by simp [mg]) (fun g hg => (ho.lt g hg).2))).mono ?_; rintro e w'' ⟨rfl, rfl⟩))
    all_goals (try go_wp2)
    all_goals (go_ret; exact ⟨rfl, (Chg.drew (Chg.refl 0 0 w)).trans hc⟩)
  · have hi4 : ¬ (xs.length : Int) ≥ 4 := by omega
    have hb : beg xs = false := by unfold beg; rw [decide_eq_false h4]; rfl
    rw [hb]
    have hd : decide ((xs.length : Int) ≥ 4) = false := by simpa using hi4
    clear v0 hi4 hb
    go_enter Tryd.func10, Tryd.ntmps10
    go_wp2
    go_quiet (fail)
    go_wp2
    go_ret
    exact ⟨rfl, (Chg.refl 0 0 w).drewN _⟩

end Go.Proofs.YtcgemenhkjfejaaDoor
