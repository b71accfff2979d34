/- Several short texts in one: SpecCommit, ImplCommit2. -/
import Derived.Test.YteligghapkleaaaGreatDoorPutByt
import Derived.Test.YteligghapkleaaaGreatDoorMg
import Derived.Deep.RegionWith
import Derived.Deep.DeepCutAuto
import Derived.Test.YteligghapkleaaaGreatDoorMagC
import Derived.Test.YteligghapkleaaaGreatDoorAs
import Derived.Test.YteligghapkleaaaGreatDoorImplEsc
namespace Go.Proofs.YteligghapkleaaaGreatDoor
open Go.RowKit

theorem putN_two {v : Int} (h0 : 0 ≤ v) (h1 : v < 65536) : (putN v 2).length = 2 := by
  unfold putN
  rw [if_neg (by omega), if_neg (by rw [show (256 : Int) ^ (2 : Int).toNat = 65536 from rfl]; omega), digs_length]
  rfl

theorem putN_four {v : Int} (h0 : 0 ≤ v) (h1 : v ≤ 4294967295) : (putN v 4).length = 4 := by
  unfold putN
  rw [if_neg (by omega), if_neg (by rw [show (256 : Int) ^ (4 : Int).toNat = 4294967296 from rfl]; omega), digs_length]
  rfl

/-- What EncodeCommit answers. -/
abbrev GoodC (q c s : Int) : Prop := (1 ≤ q ∧ q ≤ 4294967295) ∧ (1 ≤ c ∧ c < 512) ∧ 0 ≤ s ∧ s ≤ 4294967295
def commitL (q c s : Int) : List Int := if GoodC q c s then padL (headL 4 c q ++ putN s 4) else []

theorem three_ints {w : World} {s : Nat} {a b c : Value} {t : TypeId} (h : w.heap[s]? = some (.cells #[a, b, c] t (0, 0))) :
    w.cell? ⟨s, 0, none⟩ = some a ∧ w.cell? ⟨s, 1, none⟩ = some b ∧ w.cell? ⟨s, 2, none⟩ = some c := by
  simp [World.cell?, h]

set_option maxRecDepth 20000 in
set_option maxHeartbeats 2000000 in
theorem specCommit_calls (w : World) (q c s : Int) :
    Calls Tryz.prog 22 #[.agg #[.int .i64 q, .int .i64 c, .int .i64 s]] w fun e w' => ∃ v, e = .returned v ∧ OwnB w' w.heap.size 5 v (commitL q c s) ∧ Chg 0 0 w w' := by
  have C0 : Chg 0 0 w (w.alloc (.cells #[.int .i64 q, .int .i64 c, .int .i64 s] 49)) := Chg.alloc (Chg.refl 0 0 w) _
  have B0 := heap_new w (.cells #[.int .i64 q, .int .i64 c, .int .i64 s] 49)
  have s0 : (w.alloc (.cells #[.int .i64 q, .int .i64 c, .int .i64 s] 49)).heap.size = w.heap.size + 1 := by simp
  have HE : Hid (∀ w1 : World, w.heap.size ≤ w1.heap.size → OwnB (w1.alloc (.cells #[] 5)) w.heap.size 5 (.slice (some ⟨w1.heap.size, 0, none⟩) 0 0) []) := by
    intro w1 h
    have := World.ownsRow_lit (base := w.heap.size) (e := 5) (size := 1) w1 #[] 0 h (by unfold maxLen; omega) rfl
    simpa [OwnB] using this
  have hN := l3GoodSeq_calls (w.alloc (.cells #[.int .i64 q, .int .i64 c, .int .i64 s] 49)) q
  have HB : Hid _ := B0
  have HC : Hid _ := C0
  clear C0 B0
  go_enter Tryz.func22, Tryz.ntmps22
  go_wp2_with fail
  generalize w.alloc (.cells #[.int .i64 q, .int .i64 c, .int .i64 s] 49) = w1 at *
  refine hN.mono ?_
  rintro e w2 ⟨rfl, rfl⟩
  have hlt : w.heap.size < w2.heap.size := by omega
  clear hN s0
  obtain ⟨k0, k1, k2⟩ := three_ints HB.out
  have HO : Hid _ := HE.out w2 (by omega)
  have HC2 : Hid (Chg 0 0 w (w2.alloc (.cells #[] 5))) := HC.out.alloc _
  by_cases hq : 1 ≤ q ∧ q ≤ 4294967295
  case neg =>
    have hg : goodSeq q = false := by unfold goodSeq; rw [← Bool.decide_and, decide_eq_false hq]
    have hL : commitL q c s = [] := by unfold commitL; rw [if_neg (fun h => hq h.1)]
    have HL : Hid _ := hL
    rw [hg]
    clear hL
    clear hq
    go_wp2
    go_ret
    exact ⟨_, rfl, by rw [HL.out]; exact HO.out, HC2.out⟩
  have hg : goodSeq q = true := by unfold goodSeq; rw [← Bool.decide_and, decide_eq_true hq]
  rw [hg]
  by_cases hc1 : c < 1
  · have hL : commitL q c s = [] := by unfold commitL; rw [if_neg (fun h => by have := h.2.1.1; omega)]
    have HL : Hid _ := hL
    clear hL
    go_wp2
    go_ret
    exact ⟨_, rfl, by rw [HL.out]; exact HO.out, HC2.out⟩
  by_cases hc2 : 512 ≤ c
  · have hL : commitL q c s = [] := by unfold commitL; rw [if_neg (fun h => by have := h.2.1.2; omega)]
    have HL : Hid _ := hL
    clear hL
    go_wp2
    go_ret
    exact ⟨_, rfl, by rw [HL.out]; exact HO.out, HC2.out⟩
  by_cases hs1 : s < 0
  · have hL : commitL q c s = [] := by unfold commitL; rw [if_neg (fun h => by have := h.2.2.1; omega)]
    have HL : Hid _ := hL
    clear hL
    go_wp2
    go_ret
    exact ⟨_, rfl, by rw [HL.out]; exact HO.out, HC2.out⟩
  by_cases hs2 : 4294967295 < s
  · have hL : commitL q c s = [] := by unfold commitL; rw [if_neg (fun h => by have := h.2.2.2; omega)]
    have HL : Hid _ := hL
    clear hL
    go_wp2
    go_ret
    exact ⟨_, rfl, by rw [HL.out]; exact HO.out, HC2.out⟩
  have hL : commitL q c s = padL (headL 4 c q ++ putN s 4) := by unfold commitL; rw [if_pos ⟨hq, ⟨by omega, by omega⟩, by omega, by omega⟩]
  have HL : Hid _ := hL
  have Hc2 : Hid ((putN c 2).length = 2) := putN_two (by omega) (by omega)
  have Hq4 : Hid ((putN q 4).length = 4) := putN_four (by omega) (by omega)
  have Hs4 : Hid ((putN s 4).length = 4) := putN_four (by omega) (by omega)
  clear HO HC2 hL HE
  go_upto_region 4 with fail
  go_cut [2] (fun s2 wx => OwnB wx w.heap.size 5 s2 (padL (headL 4 c q ++ putN s 4)) ∧ Chg 0 0 w2 wx)
  case first =>
    have HS0 : Hid (w2.drew.cell? ⟨w.heap.size, 0, none⟩ = some (.int .i64 q) ∧ w2.drew.cell? ⟨w.heap.size, 1, none⟩ = some (.int .i64 c) ∧ w2.drew.cell? ⟨w.heap.size, 2, none⟩ = some (.int .i64 s)) := ⟨k0, k1, k2⟩
    have HC0 : Hid _ := Chg.drew (Chg.refl 0 0 w2)
    have hq2 : q ≤ 9223372036854775807 := by omega
    clear k0 k1 k2
    refine held_region (fun w' : World => w'.cell? ⟨w.heap.size, 0, none⟩ = some (.int .i64 q) ∧ w'.cell? ⟨w.heap.size, 1, none⟩ = some (.int .i64 c) ∧ w'.cell? ⟨w.heap.size, 2, none⟩ = some (.int .i64 s)) (by kernel_rfl) ?_
    refine held_take 0 (.pointer (some ⟨w.heap.size, 1, none⟩)) rfl (by kernel_rfl) (by kernel_rfl) (by kernel_rfl) (fun _ _ _ h => h) (.inl ⟨by kernel_rfl, fun w' hw' => by have h4 := hw'.1; have h5 := hw'.2.1; have h6 := hw'.2.2; go_simp⟩) HS0.out ?_
    go_simp
    refine held_take 1 (.int .i64 c) rfl (by kernel_rfl) (by kernel_rfl) (by kernel_rfl) (fun _ _ _ h => h) (.inl ⟨by kernel_rfl, fun w' hw' => by have h4 := hw'.1; have h5 := hw'.2.1; have h6 := hw'.2.2; go_simp⟩) HS0.out ?_
    go_simp
    refine held_take 2 (.pointer (some ⟨w.heap.size, 0, none⟩)) rfl (by kernel_rfl) (by kernel_rfl) (by kernel_rfl) (fun _ _ _ h => h) (.inl ⟨by kernel_rfl, fun w' hw' => by have h4 := hw'.1; have h5 := hw'.2.1; have h6 := hw'.2.2; go_simp⟩) HS0.out ?_
    go_simp
    refine held_take 3 (.int .i64 q) rfl (by kernel_rfl) (by kernel_rfl) (by kernel_rfl) (fun _ _ _ h => h) (.inl ⟨by kernel_rfl, fun w' hw' => by have h4 := hw'.1; have h5 := hw'.2.1; have h6 := hw'.2.2; go_simp⟩) HS0.out ?_
    go_simp
    refine held_take 5 (.pointer (some ⟨w.heap.size, 2, none⟩)) rfl (by kernel_rfl) (by kernel_rfl) (by kernel_rfl) (fun _ _ _ h => h) (.inl ⟨by kernel_rfl, fun w' hw' => by have h4 := hw'.1; have h5 := hw'.2.1; have h6 := hw'.2.2; go_simp⟩) HS0.out ?_
    go_simp
    refine held_take 6 (.int .i64 s) rfl (by kernel_rfl) (by kernel_rfl) (by kernel_rfl) (fun _ _ _ h => h) (.inl ⟨by kernel_rfl, fun w' hw' => by have h4 := hw'.1; have h5 := hw'.2.1; have h6 := hw'.2.2; go_simp⟩) HS0.out ?_
    go_simp
    have hds : w.heap.size < w2.drew.heap.size := by show w.heap.size < w2.heap.size; omega
    generalize w2.drew = w3 at *
    have hN := l3Head_calls w3 4 c q (by omega) (by omega) (by omega) Hc2.out Hq4.out
    refine held_one 4 rfl rfl (by kernel_rfl) ?_
    refine wp_enter 37 #[.int .i64 4, .int .i64 c, .int .i64 q] (by first | kernel_rfl | go_simp) hN ?_
    rintro e w4 ⟨v4, rfl, o4, h4⟩
    obtain ⟨e4, l4, c4, rfl⟩ := row_slice o4
    have HS4 : Hid (w4.cell? ⟨w.heap.size, 0, none⟩ = some (.int .i64 q) ∧ w4.cell? ⟨w.heap.size, 1, none⟩ = some (.int .i64 c) ∧ w4.cell? ⟨w.heap.size, 2, none⟩ = some (.int .i64 s)) := ⟨h4.cell HS0.out.1 (by omega), h4.cell HS0.out.2.1 (by omega), h4.cell HS0.out.2.2 (by omega)⟩
    have s4 := h4.size
    have HO4 : Hid (OwnB w4 w3.heap.size 5 (.slice e4 l4 c4) (headL 4 c q)) := o4
    have HC4 : Hid _ := HC0.out.trans h4
    refine ⟨_, rfl, HS4.out, ?_⟩
    clear hN o4 h4
    go_simp
    have hN := specPut_calls w4 s 4 (by omega)
    refine held_one 7 rfl rfl (by kernel_rfl) ?_
    refine wp_enter 38 #[.int .i64 s, .int .i64 4] (by first | kernel_rfl | go_simp) hN ?_
    rintro e w5 ⟨v5, rfl, o5, h5⟩
    have HS5 : Hid (_ ∧ _ ∧ _) := ⟨h5.cell HS4.out.1 (by omega), h5.cell HS4.out.2.1 (by omega), h5.cell HS4.out.2.2 (by omega)⟩
    have s5 := h5.size
    have HV4 : Hid (View w5 w3.heap.size w4.heap.size .u8 (.slice e4 l4 c4) (headL 4 c q)) := (HO4.out.view (by have h1 := Hc2.out; have h2 := Hq4.out; simp [headL, mg, h1, h2]) (fun g hg => (HO4.out.lt g hg).2)).chg h5 (by omega)
    have HV5 : Hid (View w5 w4.heap.size w5.heap.size .u8 v5 (putN s 4)) := o5.view (by rw [Hs4.out]; omega) (fun g hg => (o5.lt g hg).2)
    obtain ⟨e5, l5, c5, rfl⟩ := row_slice o5
    have HC5 : Hid _ := HC4.out.trans h5
    refine ⟨_, rfl, HS5.out, ?_⟩
    clear hN o5 h5
    go_simp
    obtain ⟨b5, f5, rfl⟩ : ∃ b f, e5 = some ⟨b, f, none⟩ := by
      obtain ⟨ao, cap, e, _, _, h⟩ := HV5.out
      rcases h with h | ⟨b, off, hb, _⟩
      · have := Hs4.out; rw [h] at this; simp at this
      · simp only [Value.slice.injEq] at e
        exact ⟨b, off, by rw [e.1, hb]⟩
    have hN := l2Join_calls (xs := headL 4 c q) (ys := putN s 4) w5 (by have h1 := Hc2.out; have h2 := Hq4.out; simp [headL, mg, h1, h2]) (by rw [Hs4.out]; omega) HV4.out HV5.out (by rw [Hs4.out]; omega)
    refine held_one 8 rfl rfl (by kernel_rfl) ?_
    refine wp_enter 21 #[.slice e4 l4 c4, .slice (some ⟨b5, f5, none⟩) l5 c5] (by first | kernel_rfl | go_simp) hN ?_
    rintro e w6 ⟨v6, rfl, o6, h6⟩
    have HS6 : Hid (_ ∧ _ ∧ _) := ⟨h6.cell HS5.out.1 (by omega), h6.cell HS5.out.2.1 (by omega), h6.cell HS5.out.2.2 (by omega)⟩
    have s6 := h6.size
    have Hl16 : Hid ((headL 4 c q ++ putN s 4).length = 16) := by
      show _ = _
      have h1 := Hc2.out; have h2 := Hq4.out; have h3 := Hs4.out
      simp [headL, mg, h1, h2, h3]
    have HV6 : Hid (View w6 w5.heap.size w6.heap.size .u8 v6 (headL 4 c q ++ putN s 4)) := o6.view (by rw [Hl16.out]; omega) (fun g hg => (o6.lt g hg).2)
    obtain ⟨e6, l6, c6, rfl⟩ := row_slice o6
    have HC6 : Hid _ := HC5.out.trans h6
    refine ⟨_, rfl, HS6.out, ?_⟩
    clear hN o6 h6
    go_simp
    have hN := l3Pad_calls w6 (by rw [Hl16.out]; omega) HV6.out
    refine held_one 9 rfl rfl (by kernel_rfl) ?_
    refine wp_enter 36 #[.slice e6 l6 c6] (by first | kernel_rfl | go_simp) hN ?_
    rintro e w7 ⟨v7, rfl, o7, h7⟩
    have HS7 : Hid (_ ∧ _ ∧ _) := ⟨h7.cell HS6.out.1 (by omega), h7.cell HS6.out.2.1 (by omega), h7.cell HS6.out.2.2 (by omega)⟩
    have HO7 : Hid (OwnB w7 w.heap.size 5 v7 (padL (headL 4 c q ++ putN s 4))) := o7.base (fun g hg => by have := (o7.lt g hg).1; omega)
    obtain ⟨e7, l7, c7, rfl⟩ := row_slice o7
    have HC7 : Hid _ := HC6.out.trans h7
    refine ⟨_, rfl, HS7.out, ?_⟩
    clear hN o7 h7
    go_simp
    refine held_one 10 rfl rfl (by kernel_rfl) ?_
    go_simp
    refine ⟨HS7.out, ?_⟩
    refine held_done (by kernel_rfl) (NoPanic.normal ?_)
    go_wp2
    go_meet
    exact ⟨HO7.out, HC7.out⟩
  case rest =>
    obtain ⟨ho, hc⟩ := hcut
    have HO : Hid _ := ho
    have HCw : Hid _ := HC.out.trans hc
    clear ho hc
    go_wp2
    go_ret
    exact ⟨_, rfl, by rw [HL.out]; exact HO.out, HCw.out⟩

end Go.Proofs.YteligghapkleaaaGreatDoor

namespace Go.Proofs.YteligghapkleaaaGreatDoor
open Go.RowKit

set_option maxRecDepth 20000 in
set_option maxHeartbeats 2000000 in
theorem commitOf_calls (w : World) (q c s : Int) (m0 : w.cell? ⟨0, 0, none⟩ = some (.int .u8 106)) (m1 : w.cell? ⟨0, 1, none⟩ = some (.int .u8 108)) (m2 : w.cell? ⟨0, 2, none⟩ = some (.int .u8 111)) (m3 : w.cell? ⟨0, 3, none⟩ = some (.int .u8 103)) :
    Calls Tryz.prog 44 #[.agg #[.int .i64 q, .int .i64 c, .int .i64 s]] w fun e w' => e = .returned (.agg #[.int .u8 106, .int .u8 108, .int .u8 111, .int .u8 103, .int .i64 4, .int .i64 c, .int .i64 q, .int .i64 s]) ∧ Chg 0 0 w w' := by
  have C0 : Chg 0 0 w ((w.alloc (.cells #[.int .i64 q, .int .i64 c, .int .i64 s] 49)).alloc (.cells #[.int .u8 0, .int .u8 0, .int .u8 0, .int .u8 0, .int .i64 0, .int .i64 0, .int .i64 0, .int .i64 0] 104)) := (Chg.alloc (Chg.refl 0 0 w) _).alloc _
  have B0 : ((w.alloc (.cells #[.int .i64 q, .int .i64 c, .int .i64 s] 49)).alloc (.cells #[.int .u8 0, .int .u8 0, .int .u8 0, .int .u8 0, .int .i64 0, .int .i64 0, .int .i64 0, .int .i64 0] 104)).heap[w.heap.size]? = some (.cells #[.int .i64 q, .int .i64 c, .int .i64 s] 49 (0, 0)) := alloc_two _ _ _
  have B1 : ((w.alloc (.cells #[.int .i64 q, .int .i64 c, .int .i64 s] 49)).alloc (.cells #[.int .u8 0, .int .u8 0, .int .u8 0, .int .u8 0, .int .i64 0, .int .i64 0, .int .i64 0, .int .i64 0] 104)).heap[w.heap.size + 1]? = some (.cells #[.int .u8 0, .int .u8 0, .int .u8 0, .int .u8 0, .int .i64 0, .int .i64 0, .int .i64 0, .int .i64 0] 104 (0, 0)) := alloc_twoN _ _ _
  have hlt : w.heap.size + 1 < ((w.alloc (.cells #[.int .i64 q, .int .i64 c, .int .i64 s] 49)).alloc (.cells #[.int .u8 0, .int .u8 0, .int .u8 0, .int .u8 0, .int .i64 0, .int .i64 0, .int .i64 0, .int .i64 0] 104)).heap.size := (Array.getElem?_eq_some_iff.1 B1).1
  have HM : Hid (w.cell? ⟨0, 0, none⟩ = some (.int .u8 106) ∧ w.cell? ⟨0, 1, none⟩ = some (.int .u8 108) ∧ w.cell? ⟨0, 2, none⟩ = some (.int .u8 111) ∧ w.cell? ⟨0, 3, none⟩ = some (.int .u8 103)) := ⟨m0, m1, m2, m3⟩
  obtain ⟨k0, k1, k2⟩ := three_ints B0
  have HC0 : Hid (Chg 0 0 w ((w.alloc (.cells #[.int .i64 q, .int .i64 c, .int .i64 s] 49)).alloc (.cells #[.int .u8 0, .int .u8 0, .int .u8 0, .int .u8 0, .int .i64 0, .int .i64 0, .int .i64 0, .int .i64 0] 104))) := C0
  have HB1 : Hid (((w.alloc (.cells #[.int .i64 q, .int .i64 c, .int .i64 s] 49)).alloc (.cells #[.int .u8 0, .int .u8 0, .int .u8 0, .int .u8 0, .int .i64 0, .int .i64 0, .int .i64 0, .int .i64 0] 104)).heap[w.heap.size + 1]? = some (.cells #[.int .u8 0, .int .u8 0, .int .u8 0, .int .u8 0, .int .i64 0, .int .i64 0, .int .i64 0, .int .i64 0] 104 (0, 0))) := B1
  have HS0 : Hid (((w.alloc (.cells #[.int .i64 q, .int .i64 c, .int .i64 s] 49)).alloc (.cells #[.int .u8 0, .int .u8 0, .int .u8 0, .int .u8 0, .int .i64 0, .int .i64 0, .int .i64 0, .int .i64 0] 104)).drew.cell? ⟨w.heap.size, 0, none⟩ = some (.int .i64 q) ∧ ((w.alloc (.cells #[.int .i64 q, .int .i64 c, .int .i64 s] 49)).alloc (.cells #[.int .u8 0, .int .u8 0, .int .u8 0, .int .u8 0, .int .i64 0, .int .i64 0, .int .i64 0, .int .i64 0] 104)).drew.cell? ⟨w.heap.size, 1, none⟩ = some (.int .i64 c) ∧ ((w.alloc (.cells #[.int .i64 q, .int .i64 c, .int .i64 s] 49)).alloc (.cells #[.int .u8 0, .int .u8 0, .int .u8 0, .int .u8 0, .int .i64 0, .int .i64 0, .int .i64 0, .int .i64 0] 104)).drew.cell? ⟨w.heap.size, 2, none⟩ = some (.int .i64 s)) := ⟨k0, k1, k2⟩
  clear C0 B0 B1 m0 m1 m2 m3 k0 k1 k2
  go_enter Tryz.func44, Tryz.ntmps44
  go_upto_region 1 with fail
  generalize ((w.alloc (.cells #[.int .i64 q, .int .i64 c, .int .i64 s] 49)).alloc (.cells #[.int .u8 0, .int .u8 0, .int .u8 0, .int .u8 0, .int .i64 0, .int .i64 0, .int .i64 0, .int .i64 0] 104)) = wa at *
  refine held_region (fun w' : World => w'.cell? ⟨w.heap.size, 0, none⟩ = some (.int .i64 q) ∧ w'.cell? ⟨w.heap.size, 1, none⟩ = some (.int .i64 c) ∧ w'.cell? ⟨w.heap.size, 2, none⟩ = some (.int .i64 s)) (by kernel_rfl) ?_
  refine held_take 0 (.pointer (some ⟨w.heap.size, 1, none⟩)) rfl (by kernel_rfl) (by kernel_rfl) (by kernel_rfl) (fun _ _ _ h => h) (.inl ⟨by kernel_rfl, fun w' hw' => by have h4 := hw'.1; have h5 := hw'.2.1; have h6 := hw'.2.2; go_simp⟩) HS0.out ?_
  go_simp
  refine held_take 1 (.int .i64 c) rfl (by kernel_rfl) (by kernel_rfl) (by kernel_rfl) (fun _ _ _ h => h) (.inl ⟨by kernel_rfl, fun w' hw' => by have h4 := hw'.1; have h5 := hw'.2.1; have h6 := hw'.2.2; go_simp⟩) HS0.out ?_
  go_simp
  refine held_take 2 (.pointer (some ⟨w.heap.size, 0, none⟩)) rfl (by kernel_rfl) (by kernel_rfl) (by kernel_rfl) (fun _ _ _ h => h) (.inl ⟨by kernel_rfl, fun w' hw' => by have h4 := hw'.1; have h5 := hw'.2.1; have h6 := hw'.2.2; go_simp⟩) HS0.out ?_
  go_simp
  refine held_take 3 (.int .i64 q) rfl (by kernel_rfl) (by kernel_rfl) (by kernel_rfl) (fun _ _ _ h => h) (.inl ⟨by kernel_rfl, fun w' hw' => by have h4 := hw'.1; have h5 := hw'.2.1; have h6 := hw'.2.2; go_simp⟩) HS0.out ?_
  go_simp
  refine held_take 5 (.pointer (some ⟨w.heap.size, 2, none⟩)) rfl (by kernel_rfl) (by kernel_rfl) (by kernel_rfl) (fun _ _ _ h => h) (.inl ⟨by kernel_rfl, fun w' hw' => by have h4 := hw'.1; have h5 := hw'.2.1; have h6 := hw'.2.2; go_simp⟩) HS0.out ?_
  go_simp
  refine held_take 6 (.int .i64 s) rfl (by kernel_rfl) (by kernel_rfl) (by kernel_rfl) (fun _ _ _ h => h) (.inl ⟨by kernel_rfl, fun w' hw' => by have h4 := hw'.1; have h5 := hw'.2.1; have h6 := hw'.2.2; go_simp⟩) HS0.out ?_
  go_simp
  have HC1 : Hid (Chg 0 0 w wa.drew) := HC0.out.drew
  have HB2 : Hid (wa.drew.heap[w.heap.size + 1]? = some (.cells #[.int .u8 0, .int .u8 0, .int .u8 0, .int .u8 0, .int .i64 0, .int .i64 0, .int .i64 0, .int .i64 0] 104 (0, 0))) := HB1.out
  have hlt2 : w.heap.size + 1 < wa.drew.heap.size := hlt
  generalize wa.drew = w1 at *
  have hN := newHeader_calls w1 4 c q (HC1.out.cell HM.out.1 (by omega)) (HC1.out.cell HM.out.2.1 (by omega)) (HC1.out.cell HM.out.2.2.1 (by omega)) (HC1.out.cell HM.out.2.2.2 (by omega))
  refine held_one 4 rfl rfl (by kernel_rfl) ?_
  refine wp_enter 63 #[.int .i64 4, .int .i64 c, .int .i64 q] (by first | kernel_rfl | go_simp) hN ?_
  rintro e w2 ⟨rfl, h2⟩
  have HS2 : Hid (_ ∧ _ ∧ _) := ⟨h2.cell HS0.out.1 (by omega), h2.cell HS0.out.2.1 (by omega), h2.cell HS0.out.2.2 (by omega)⟩
  have HC2 : Hid _ := HC1.out.trans h2
  have HB3 : Hid (w2.heap[w.heap.size + 1]? = some (.cells #[.int .u8 0, .int .u8 0, .int .u8 0, .int .u8 0, .int .i64 0, .int .i64 0, .int .i64 0, .int .i64 0] 104 (0, 0))) := (h2.block (w.heap.size + 1) hlt2 (by omega)).trans HB2.out
  refine ⟨_, rfl, HS2.out, ?_⟩
  clear hN h2
  go_simp
  refine held_take 7 (.agg #[.int .u8 106, .int .u8 108, .int .u8 111, .int .u8 103, .int .i64 4, .int .i64 c, .int .i64 q, .int .i64 s]) rfl (by kernel_rfl) (by kernel_rfl) (by kernel_rfl) (fun _ _ _ h => h) (.inl ⟨by kernel_rfl, fun w' hw' => by have h4 := hw'.1; have h5 := hw'.2.1; have h6 := hw'.2.2; go_simp⟩) HS2.out ?_
  go_simp
  refine held_one 8 rfl rfl (by kernel_rfl) ?_
  refine wp_store_row 104 (.tmp 2) (.tmp 10) rfl rfl (w.heap.size + 1) rfl [.int .u8 106, .int .u8 108, .int .u8 111, .int .u8 103, .int .i64 4, .int .i64 c, .int .i64 q, .int .i64 s] [.int .u8 0, .int .u8 0, .int .u8 0, .int .u8 0, .int .i64 0, .int .i64 0, .int .i64 0, .int .i64 0] 104 rfl HB3.out rfl (by kernel_rfl) (by simp [Value.oneCell']) ?_
  intro w3 hb3 hc3
  have HS3 : Hid (_ ∧ _ ∧ _) := ⟨hc3.cell HS2.out.1 (by omega), hc3.cell HS2.out.2.1 (by omega), hc3.cell HS2.out.2.2 (by omega)⟩
  have HC3 : Hid _ := HC2.out.step hc3 (by omega)
  have HB4 : Hid _ := hb3
  refine ⟨HS3.out, ?_⟩
  clear hb3 hc3
  refine held_done (by kernel_rfl) (NoPanic.normal ?_)
  go_wp2
  have hb := HB4.out
  exact bodyPost_ret (v := .agg #[.int .u8 106, .int .u8 108, .int .u8 111, .int .u8 103, .int .i64 4, .int .i64 c, .int .i64 q, .int .i64 s]) (by simp [results, Tryz.results44, go_sem, World.cell?, hb]) rfl ⟨rfl, HC3.out⟩

end Go.Proofs.YteligghapkleaaaGreatDoor
