/- bytesOf of the program: a block's bytes as a slice. -/
import Derived.Test.YtplfehjaakkldaaRows
import Derived.Test.YtplfehjaakkldaaCells
import Derived.Deep.RegionHeld3
namespace Go.Proofs.Ytplfehjaakkldaa
open Go.RowKit

theorem Chg.setRow (w : World) (g : Nat) (cs : Array Value) : Chg g (g + 1) w (w.setRow g cs) :=
  ⟨rfl, rfl, rfl, by simp [World.setRow], fun k _ hk => setRow_other w g k cs (by omega)⟩

theorem Try.infoU : (Try.prog.info? 5).map (fun i => (i.zero, i.size, i.bytes)) = some (some (.int .u8 0), 1, 1) := by kernel_rfl

set_option maxRecDepth 20000 in
set_option maxHeartbeats 1000000 in
theorem bytesOf_calls (w : World) (xs : List Int) (hx : xs.length = 64) :
    Calls Try.prog 69 #[.agg (xs.map (Value.int .u8)).toArray] w fun e w' => ∃ g, e = .returned (.slice (some ⟨g, 0, none⟩) 64 64) ∧ OwnB w' w.heap.size 5 (.slice (some ⟨g, 0, none⟩) 64 64) xs ∧ Chg 0 0 w w' := by
  obtain ⟨i, hi, hz0, hz1, hz2⟩ := info_parts Try.infoU
  obtain ⟨cs, hcs⟩ : ∃ cs, cs = xs.map (Value.int .u8) := ⟨_, rfl⟩
  rw [← hcs]
  have L1 : cs.length = 64 := by rw [hcs]; simpa using hx
  have L2 : ∀ v ∈ cs, v.oneCell' = true := by rw [hcs]; exact ints_oneCell _ _
  have HL1 : Hid (cs.length = 64) := L1
  have HL2 : Hid (∀ v ∈ cs, v.oneCell' = true) := L2
  have Hcs : Hid (cs = xs.map (Value.int .u8)) := hcs
  have Hx : Hid (xs.length = 64) := hx
  have B0 := heap_new w (.cells cs.toArray 98)
  have HB0 : Hid ((w.alloc (.cells cs.toArray 98)).heap[w.heap.size]? = some (.cells cs.toArray 98 (0, 0))) := B0
  clear L1 L2 hcs hx B0
  go_enter Try.func69, Try.ntmps69
  go_wp2_with (at_make; refine wpList_make_full _ rfl _ _ 22 rfl w.heap.size 5 i (.int .u8 0) 1 Try.underlying22 hi hz0 hz1 _ _ _ _ 64 rfl rfl rfl rfl (by rw [hz2]; omega) (by unfold maxLen; omega) (by simp) ?_)
  intro w1 hown hgrow
  obtain ⟨cur, hg, hcz⟩ : ∃ cur, w1.heap[w.heap.size + 1]? = some (.cells cur 5 (0, 0)) ∧ cur.size = 64 := by
    rcases hown.2 with ⟨h', _⟩ | ⟨g', cap', cur, h', hb, hg, _, _, hs, _⟩
    · cases h'
    · simp only [Value.slice.injEq, Option.some.injEq, Addr.mk.injEq, and_true, true_and] at h'
      obtain ⟨rfl, rfl⟩ := h'
      exact ⟨cur, hg, by simpa using hs⟩
  have hbx : w1.heap[w.heap.size]? = some (.cells cs.toArray 98 (0, 0)) := (hgrow.block w.heap.size (by simp) (by simp)).trans HB0.out
  have C1 : Chg 0 0 w w1 := (Chg.alloc (Chg.refl 0 0 w) _).trans (Chg.ofGrown hgrow (by simp))
  have hsrc : ∀ j v, cs[j]? = some v → w1.cell? ((⟨w.heap.size, 0, none⟩ : Addr).add j) = some v := by
    intro j v hj
    rw [Addr.add_mid, Nat.zero_add, cell_of_row w1 w.heap.size j cs.toArray 98 (0, 0) hbx]
    simpa using hj
  have Hg : Hid (w1.heap[w.heap.size + 1]? = some (.cells cur 5 (0, 0))) := hg
  have Hcz : Hid (cur.size = 64) := hcz
  have Hsrc : Hid (∀ j v, cs[j]? = some v → w1.cell? ((⟨w.heap.size, 0, none⟩ : Addr).add j) = some v) := hsrc
  have hrow : cur.toList.take 0 ++ (cs ++ cur.toList.drop (0 + cs.length)) = cs := by
    rw [List.take_zero, List.nil_append, Nat.zero_add, List.drop_of_length_le (by rw [Array.length_toList, hcz, HL1.out]; exact Nat.le_refl _), List.append_nil]
  have Hrow : Hid (cur.toList.take 0 ++ (cs ++ cur.toList.drop (0 + cs.length)) = cs) := hrow
  clear hown hgrow hg hcz hsrc hbx hrow HB0
  go_wp2_with (refine wpList_copy_own rfl (.tmp 5) (.tmp 6) 22 22 rfl 5 Try.underlying22 (by kernel_rfl) (w.heap.size + 1) 0 64 64 ⟨w.heap.size, 0, none⟩ 64 64 rfl rfl cur 5 Hg.out cs (by rw [HL1.out]; rfl) Hsrc.out (by rw [HL1.out, Hcz.out]; omega) HL2.out ?_; rw [Hrow.out])
  have HO : Hid (OwnB (w1.setRow (w.heap.size + 1) cs.toArray) w.heap.size 5 (.slice (some ⟨w.heap.size + 1, 0, none⟩) 64 64) xs) := by
    show OwnB _ _ _ _ _
    unfold OwnB
    rw [Hx.out, ← Hcs.out]
    refine ⟨by rw [HL1.out], Or.inr ⟨w.heap.size + 1, 64, cs.toArray, rfl, by omega, setRow_heap _ _ _ _ _ _ Hg.out, Nat.le_refl _, by unfold maxLen; omega, by simpa using HL1.out, ?_⟩⟩
    exact List.take_of_length_le (by simp [HL1.out])
  have HC : Hid (Chg 0 0 w (w1.setRow (w.heap.size + 1) cs.toArray)) := C1.step (Chg.setRow _ _ _) (Or.inr (Or.inl (by omega)))
  clear C1 Hg Hcz Hsrc Hrow
  go_ret
  exact ⟨_, rfl, HO.out, HC.out⟩

end Go.Proofs.Ytplfehjaakkldaa
