/- BlockKind of the program. -/
import Derived.Test.YtihiaodadbndaaaDoorOpenBlk2
namespace Go.Proofs.YtihiaodadbndaaaDoor
open Go.RowKit

/-- What BlockKind answers. -/
def kindOf (xs : List Int) : Int := if xs.length = 64 ∧ xs.take 4 = mg ∧ (1 ≤ xs.getD 4 0 ∧ xs.getD 4 0 ≤ 4) then xs.getD 4 0 else 0

theorem heap_two (w : World) (o1 o2 : Obj) : ((w.alloc o1).alloc o2).heap[w.heap.size]? = some o1 := (alloc2 w o1 o2).2.1
theorem heap_twoN (w : World) (o1 o2 : Obj) : ((w.alloc o1).alloc o2).heap[w.heap.size + 1]? = some o2 := (alloc2 w o1 o2).2.2

set_option maxRecDepth 20000 in
set_option maxHeartbeats 4000000 in
theorem implKind_calls (w : World) {lo hi : Nat} {a : Value} {xs : List Int} {tL tM tK : TypeId} {vL vM vK : Value} (h1 : View w lo hi .u8 a xs) (hB : Byt xs) (hG : Glob w tL tM tK vL vM vK) (hE : ErrT w) :
    Calls Tryd.prog 6 #[a] w fun e w' => e = .returned (.int .i64 (kindOf xs)) ∧ Chg 0 0 w w' := by
  -- what openBlock leaves, and that it is a fault
  have hO : Calls Tryd.prog 12 #[a] w fun e w' => ∃ (L : List Value) (h0 h1 h2 h3 h4 h5 h6 : Int) (ev : Value), e = .returned (.tuple #[.agg L.toArray, .agg #[.int .u8 h0, .int .u8 h1, .int .u8 h2, .int .u8 h3, .int .i64 h4, .int .i64 h5, .int .i64 h6], ev]) ∧ L.length = 64 ∧ (∀ v ∈ L, v.oneCell' = true) ∧ Chg 0 0 w w' ∧
      ((kindOf xs = 0 ∧ ∃ b, ev = .iface 61 (.pointer (some ⟨b, 0, none⟩))) ∨ (kindOf xs = h4 ∧ ev = .nilIface)) := by
    by_cases hx : xs.length = 64
    · refine (openBlock_full w h1 hB hG hx).mono ?_
      rintro e w' ⟨ev, rfl, hc, hr⟩
      refine ⟨_, _, _, _, _, _, _, _, ev, rfl, by simpa using hx, ints_oneCell _ _, hc, ?_⟩
      rcases hr with ⟨hm, b, k, _, he, _⟩ | ⟨hm, hk, b, k, _, he, _⟩ | ⟨hm, hk, he⟩
      · exact Or.inl ⟨by unfold kindOf; rw [if_neg (fun h => hm h.2.1)], b, he⟩
      · exact Or.inl ⟨by unfold kindOf; rw [if_neg (fun h => hk h.2.2)], b, he⟩
      · exact Or.inr ⟨by unfold kindOf; rw [if_pos ⟨hx, hm, hk⟩], he⟩
    · refine (openBlock_short w h1 hG hx).mono ?_
      rintro e w' ⟨ev, rfl, ⟨b, k, _, he, _⟩, hc⟩
      exact ⟨Z64, 0, 0, 0, 0, 0, 0, 0, ev, rfl, Z64_length, Z64_one, hc, Or.inl ⟨by unfold kindOf; rw [if_neg (fun h => hx h.1)], b, he⟩⟩
  obtain ⟨ao, cap, rfl, hl, _, _⟩ := h1
  generalize kindOf xs = kd at *
  have HET : Hid (ErrT w) := hE
  clear hG hB hE
  go_enter Tryd.func6, Tryd.ntmps6
  go_wp2_with fail
  refine hO.mono ?_
  rintro e w1 ⟨L, h0, h1, h2, h3, h4, h5, h6, ev, rfl, L1, L2, hc1, hr⟩
  have HL1 : Hid (L.length = 64) := L1
  have HL2 : Hid (∀ v ∈ L, v.oneCell' = true) := L2
  have hi28 : (Tryd.prog.info? 36).map (·.size) = some L.length := by rw [L1]; kernel_rfl
  have HC1 : Hid (Chg 0 0 w w1) := hc1
  clear hO L1 L2 hc1
  go_upto_region 2 with (first
    | (refine wpList_store_row rfl 36 (.tmp 3) (.tmp 9) rfl rfl w1.heap.size rfl L Z64 36 rfl (by rw [← Z64_eq]; exact heap_two _ _ _) (by rw [Z64_length]; exact HL1.out) hi28 HL2.out ?_; intro w2 hb2 hc2)
    | (refine wpList_store_row rfl 39 (.tmp 4) (.tmp 10) rfl rfl (w1.heap.size + 1) rfl [.int .u8 h0, .int .u8 h1, .int .u8 h2, .int .u8 h3, .int .i64 h4, .int .i64 h5, .int .i64 h6] z7 39 rfl ((hc2.block (w1.heap.size + 1) (by simp) (by omega)).trans (heap_twoN _ _ _)) rfl (by kernel_rfl) (by simp [Value.oneCell']) ?_; intro w3 hb3 hc3))
  have s2 := hc2.size
  have s3 := hc3.size
  have hz : ∀ o1 o2 : Obj, ((w1.alloc o1).alloc o2).heap.size = w1.heap.size + 2 := fun o1 o2 => (alloc2 w1 o1 o2).1
  have C3 : Chg 0 0 w1 w3 := (((Chg.alloc (Chg.refl 0 0 w1) _).alloc _).step hc2 (by omega)).step hc3 (by omega)
  have HC3 : Hid (Chg 0 0 w w3) := HC1.out.trans C3
  have HE3 : Hid (ErrT w3) := HET.out.chg HC3.out (by omega)
  have hk4 : w3.cell? ⟨w1.heap.size + 1, 4, none⟩ = some (.int .i64 h4) := by simp [World.cell?, hb3]
  have Hk4 : Hid (w3.cell? ⟨w1.heap.size + 1, 4, none⟩ = some (.int .i64 h4)) := hk4
  clear hb2 hb3 hc2 hc3 C3 hz hk4
  rcases hr with ⟨rfl, b, rfl⟩ | ⟨rfl, rfl⟩
  · have hN := isFault_yes w3 ⟨b, 0, none⟩ HE3.out
    go_wp2_with fail
    refine hN.mono ?_
    rintro e w4 ⟨rfl, hc4⟩
    have HC4 : Hid (Chg 0 0 w w4) := HC3.out.trans hc4
    clear hN hc4
    go_wp2
    go_ret
    exact ⟨rfl, HC4.out⟩
  · have hN := isFault_no w3
    go_wp2_with fail
    refine hN.mono ?_
    rintro e w4 ⟨rfl, hc4⟩
    have HC4 : Hid (Chg 0 0 w w4) := HC3.out.trans hc4
    have k4 := hc4.cell Hk4.out (by omega)
    clear hN hc4
    go_wp2
    go_ret
    exact ⟨rfl, HC4.out⟩

end Go.Proofs.YtihiaodadbndaaaDoor
