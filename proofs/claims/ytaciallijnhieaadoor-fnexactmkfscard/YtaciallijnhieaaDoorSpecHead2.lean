/- l3Head of the model. -/
import Derived.Test.YtaciallijnhieaaDoorSpecHead
import Derived.Test.YtaciallijnhieaaDoorPutN
import Derived.Test.YtaciallijnhieaaDoorAppSeen
namespace Go.Proofs.YtaciallijnhieaaDoor
open Go.RowKit

/-- A block's header. -/
def headL (k c q : Int) : List Int := mg ++ [k, 0] ++ putN c 2 ++ putN q 4

set_option maxRecDepth 20000 in
set_option maxHeartbeats 1000000 in
theorem l3Head_calls (w : World) (k c q : Int) (hk : 0 ≤ k ∧ k < 256) (hc : c ≤ 9223372036854775807) (hq : q ≤ 9223372036854775807) (hc2 : (putN c 2).length = 2) (hq4 : (putN q 4).length = 4) :
    Calls Tryd.prog 41 #[.int .i64 k, .int .i64 c, .int .i64 q] w fun e w' => ∃ v, e = .returned v ∧ OwnB w' w.heap.size 5 v (headL k c q) ∧ Chg 0 0 w w' := by
  have hN := l3Magic_calls w
  obtain ⟨k0, k1⟩ := hk
  have Hc2 : Hid ((putN c 2).length = 2) := hc2
  have Hq4 : Hid ((putN q 4).length = 4) := hq4
  clear hc2 hq4
  go_enter Tryd.func41, Tryd.ntmps41
  go_wp2_with fail
  refine hN.mono ?_
  rintro e w1 ⟨rfl, o1, ch1⟩
  have s1 := ch1.size
  have c2 : Chg 0 0 w1 (w1.alloc (.cells #[.int .u8 k, .int .u8 0] 5)) := Chg.alloc (Chg.refl 0 0 w1) _
  have HO2 : Hid (OwnB (w1.alloc (.cells #[.int .u8 k, .int .u8 0] 5)) w.heap.size 5 (.slice (some ⟨w.heap.size, 0, none⟩) 4 4) mg) := o1.chg c2 (by intro g _; omega)
  have HV2 : Hid (View (w1.alloc (.cells #[.int .u8 k, .int .u8 0] 5)) w1.heap.size (w1.heap.size + 1) .u8 (.slice (some ⟨w1.heap.size, 0, none⟩) 2 2) [k, 0]) := by
    refine ⟨_, 2, rfl, by simp, ⟨by simp, by simp⟩, Or.inr ⟨_, 0, rfl, Nat.le_refl _, Nat.lt_succ_self _, fun i hi => ?_⟩⟩
    have hi2 : i < 2 := by simpa using hi
    have hn := heap_new w1 (.cells #[.int .u8 k, .int .u8 0] 5)
    simp only [World.cell?, hn]
    rcases i with _ | _ | i
    all_goals first | rfl | omega
  have b2 : Hid (w.heap.size ≤ (w1.alloc (.cells #[.int .u8 k, .int .u8 0] 5)).heap.size) := Nat.le_trans s1 c2.size
  have HC2 : Hid (Chg 0 0 w (w1.alloc (.cells #[.int .u8 k, .int .u8 0] 5))) := ch1.trans c2
  clear o1 ch1 c2 hN
  go_wp2_with (at_builtin; refine wpList_app_seen rfl (.tmp 8) (.tmp 11) rfl w.heap.size _ mg rfl HO2.out b2.out _ _ _ [k, 0] rfl HV2.out (by simp) (by simp [mg]) ?_)
  intro v3 w3 o3 ch3
  have C3 : Chg 0 0 w w3 := HC2.out.step ch3 (Or.inr (Or.inl (Nat.le_refl _)))
  have s3 := C3.size
  obtain ⟨e3, l3, k3, rfl⟩ := row_slice o3
  have HO3 : Hid (OwnB w3 w.heap.size 5 (.slice e3 l3 k3) (mg ++ [k, 0])) := o3
  have HC3 : Hid (Chg 0 0 w w3) := C3
  have hN := specPut_calls w3 c 2 hc
  clear o3 ch3 C3 HC2 b2 HV2 HO2
  go_wp2_with fail
  refine hN.mono ?_
  rintro e w4 ⟨v4, rfl, o4, ch4⟩
  have s4 := ch4.size
  have HO4 : Hid (OwnB w4 w.heap.size 5 (.slice e3 l3 k3) (mg ++ [k, 0])) := HO3.out.chg ch4 (by intro g _; omega)
  have HV4 : Hid (View w4 w3.heap.size w4.heap.size .u8 v4 (putN c 2)) := o4.view (by rw [Hc2.out]; omega) (fun g hg => (o4.lt g hg).2)
  have HC4 : Hid (Chg 0 0 w w4) := HC3.out.trans ch4
  have b4 : w.heap.size ≤ w4.heap.size := by omega
  have p2 : Hid (0 < (putN c 2).length) := by show _ < _; rw [Hc2.out]; omega
  have m2 : Hid ((mg ++ [k, 0]).length + (putN c 2).length ≤ 1048576) := by show _ ≤ _; rw [Hc2.out]; simp [mg]
  obtain ⟨e4, l4, k4, rfl⟩ := row_slice o4
  clear o4 ch4 hN HO3 HC3
  go_wp2_with (at_builtin; refine wpList_app_seen rfl (.tmp 13) (.tmp 15) rfl w.heap.size _ (mg ++ [k, 0]) rfl HO4.out b4 _ _ _ (putN c 2) rfl HV4.out p2.out m2.out ?_)
  intro v5 w5 o5 ch5
  have C5 : Chg 0 0 w w5 := HC4.out.step ch5 (Or.inr (Or.inl (Nat.le_refl _)))
  have s5 := C5.size
  obtain ⟨e5, l5, k5, rfl⟩ := row_slice o5
  have HO5 : Hid (OwnB w5 w.heap.size 5 (.slice e5 l5 k5) (mg ++ [k, 0] ++ putN c 2)) := o5
  have HC5 : Hid (Chg 0 0 w w5) := C5
  have hN := specPut_calls w5 q 4 hq
  clear o5 ch5 C5 HC4 HV4 HO4
  go_wp2_with fail
  refine hN.mono ?_
  rintro e w6 ⟨v6, rfl, o6, ch6⟩
  have s6 := ch6.size
  have HO6 : Hid (OwnB w6 w.heap.size 5 (.slice e5 l5 k5) (mg ++ [k, 0] ++ putN c 2)) := HO5.out.chg ch6 (by intro g _; omega)
  have HV6 : Hid (View w6 w5.heap.size w6.heap.size .u8 v6 (putN q 4)) := o6.view (by rw [Hq4.out]; omega) (fun g hg => (o6.lt g hg).2)
  have HC6 : Hid (Chg 0 0 w w6) := HC5.out.trans ch6
  have b6 : w.heap.size ≤ w6.heap.size := by omega
  have p4 : Hid (0 < (putN q 4).length) := by show _ < _; rw [Hq4.out]; omega
  have m4 : Hid ((mg ++ [k, 0] ++ putN c 2).length + (putN q 4).length ≤ 1048576) := by show _ ≤ _; rw [Hq4.out, List.length_append, Hc2.out]; simp [mg]
  obtain ⟨e6, l6, k6, rfl⟩ := row_slice o6
  clear o6 ch6 hN HO5 HC5
  go_wp2_with (at_builtin; refine wpList_app_seen rfl (.tmp 17) (.tmp 19) rfl w.heap.size _ (mg ++ [k, 0] ++ putN c 2) rfl HO6.out b6 _ _ _ (putN q 4) rfl HV6.out p4.out m4.out ?_)
  intro v7 w7 o7 ch7
  have HC7 : Hid (Chg 0 0 w w7) := HC6.out.step ch7 (Or.inr (Or.inl (Nat.le_refl _)))
  have HO7 : Hid (OwnB w7 w.heap.size 5 v7 (headL k c q)) := o7
  clear o7 ch7 HC6 HV6 HO6
  go_wp2
  go_ret
  exact ⟨_, rfl, HO7.out, HC7.out⟩

end Go.Proofs.YtaciallijnhieaaDoor
