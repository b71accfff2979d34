/- Several short texts in one: JOf, Small. -/
import Derived.Test.YteligghapkleaaaGreatDoorMagC
import Derived.Test.YteligghapkleaaaGreatDoorAs
import Derived.Test.YteligghapkleaaaGreatDoorMg
import Derived.Test.YteligghapkleaaaGreatDoorMem
namespace Go.Proofs.YteligghapkleaaaGreatDoor
open Go.RowKit

set_option maxRecDepth 20000 in
set_option maxHeartbeats 2000000 in
theorem revokeOf_calls (w : World) (q : Int) (b off n cap : Nat) (_hn : n ≤ 1048576) (hm : Mag w) :
    Calls Tryz.prog 57 #[.agg #[.int .i64 q, .slice (some ⟨b, off, none⟩) n cap]] w fun e w' => e = .returned (.agg #[.int .u8 106, .int .u8 108, .int .u8 111, .int .u8 103, .int .i64 3, .int .i64 (n : Int), .int .i64 q, .slice (some ⟨b, off, none⟩) n cap]) ∧ Chg 0 0 w w' := by
  obtain ⟨z1, z2, z3⟩ := alloc2 w (.cells #[.int .i64 q, .slice (some ⟨b, off, none⟩) n cap] 65) (.cells #[.int .u8 0, .int .u8 0, .int .u8 0, .int .u8 0, .int .i64 0, .int .i64 0, .int .i64 0, .slice none 0 0] 120)
  have hA : Chg 0 0 w ((w.alloc (.cells #[.int .i64 q, .slice (some ⟨b, off, none⟩) n cap] 65)).alloc (.cells #[.int .u8 0, .int .u8 0, .int .u8 0, .int .u8 0, .int .i64 0, .int .i64 0, .int .i64 0, .slice none 0 0] 120)) := (Chg.alloc (Chg.refl 0 0 w) _).alloc _
  have HB : Hid _ := z2
  have HZ : Hid _ := z3
  have HC : Hid _ := hA
  have HM : Hid (Mag w) := hm
  have s0 : ((w.alloc (.cells #[.int .i64 q, .slice (some ⟨b, off, none⟩) n cap] 65)).alloc (.cells #[.int .u8 0, .int .u8 0, .int .u8 0, .int .u8 0, .int .i64 0, .int .i64 0, .int .i64 0, .slice none 0 0] 120)).heap.size = w.heap.size + 2 := z1
  clear z1 z2 z3 hA hm
  go_enter Tryz.func57, Tryz.ntmps57
  go_upto_region 1 with fail
  generalize ((w.alloc (.cells #[.int .i64 q, .slice (some ⟨b, off, none⟩) n cap] 65)).alloc (.cells #[.int .u8 0, .int .u8 0, .int .u8 0, .int .u8 0, .int .i64 0, .int .i64 0, .int .i64 0, .slice none 0 0] 120)) = wa at *
  have HS : Hid ((fun w' : World => w'.heap[w.heap.size]? = some (.cells #[.int .i64 q, .slice (some ⟨b, off, none⟩) n cap] 65 (0, 0))) wa.drew) := HB.out
  refine held_region (fun w' : World => w'.heap[w.heap.size]? = some (.cells #[.int .i64 q, .slice (some ⟨b, off, none⟩) n cap] 65 (0, 0))) (by kernel_rfl) ?_
  refine held_take 0 (.pointer (some ⟨w.heap.size, 1, none⟩)) rfl (by kernel_rfl) (by kernel_rfl) (by kernel_rfl) (fun _ _ _ h => h) (.inl ⟨by kernel_rfl, fun w' hw' => by go_simp⟩) HS.out ?_
  go_simp
  refine held_take 1 (.slice (some ⟨b, off, none⟩) n cap) rfl (by kernel_rfl) (by kernel_rfl) (by kernel_rfl) (fun _ _ _ h => h) (.inl ⟨by kernel_rfl, fun w' hw' => by obtain ⟨q0, q1, _, _⟩ := two_cells hw'; go_simp⟩) HS.out ?_
  go_simp
  refine held_take 2 (.int .i64 (n : Int)) rfl (by kernel_rfl) (by kernel_rfl) (by kernel_rfl) (fun _ _ _ h => h) (.inl ⟨by kernel_rfl, fun w' hw' => by go_simp⟩) HS.out ?_
  go_simp
  refine held_take 3 (.pointer (some ⟨w.heap.size, 0, none⟩)) rfl (by kernel_rfl) (by kernel_rfl) (by kernel_rfl) (fun _ _ _ h => h) (.inl ⟨by kernel_rfl, fun w' hw' => by go_simp⟩) HS.out ?_
  go_simp
  refine held_take 4 (.int .i64 q) rfl (by kernel_rfl) (by kernel_rfl) (by kernel_rfl) (fun _ _ _ h => h) (.inl ⟨by kernel_rfl, fun w' hw' => by obtain ⟨q0, q1, _, _⟩ := two_cells hw'; go_simp⟩) HS.out ?_
  go_simp
  refine held_take 6 (.pointer (some ⟨w.heap.size, 1, none⟩)) rfl (by kernel_rfl) (by kernel_rfl) (by kernel_rfl) (fun _ _ _ h => h) (.inl ⟨by kernel_rfl, fun w' hw' => by go_simp⟩) HS.out ?_
  go_simp
  refine held_take 7 (.slice (some ⟨b, off, none⟩) n cap) rfl (by kernel_rfl) (by kernel_rfl) (by kernel_rfl) (fun _ _ _ h => h) (.inl ⟨by kernel_rfl, fun w' hw' => by obtain ⟨q0, q1, _, _⟩ := two_cells hw'; go_simp⟩) HS.out ?_
  go_simp
  have HC1 : Hid (Chg 0 0 w wa.drew) := HC.out.drew
  have HZ1 : Hid (wa.drew.heap[w.heap.size + 1]? = some (.cells #[.int .u8 0, .int .u8 0, .int .u8 0, .int .u8 0, .int .i64 0, .int .i64 0, .int .i64 0, .slice none 0 0] 120 (0, 0))) := HZ.out
  have s1 : wa.drew.heap.size = w.heap.size + 2 := s0
  clear HC HZ HB
  generalize wa.drew = w1 at *
  have hM := HM.out.chg HC1.out (by omega)
  refine held_one 5 rfl rfl (by kernel_rfl) ?_
  refine wp_enter 63 #[.int .i64 3, .int .i64 (n : Int), .int .i64 q] (by first | kernel_rfl | go_simp) (newHeader_calls w1 3 n q hM.m0 hM.m1 hM.m2 hM.m3) ?_
  rintro e w2 ⟨rfl, h2⟩
  have HS2 : Hid ((fun w' : World => w'.heap[w.heap.size]? = some (.cells #[.int .i64 q, .slice (some ⟨b, off, none⟩) n cap] 65 (0, 0))) w2) := (h2.block _ (by omega) (by omega)).trans HS.out
  have HZ2 : Hid _ := (h2.block _ (by omega) (by omega)).trans HZ1.out
  have HC2 : Hid _ := HC1.out.trans h2
  refine ⟨_, rfl, HS2.out, ?_⟩
  clear h2 hM HS HZ1 HC1
  go_simp
  refine held_take 8 (.agg #[.int .u8 106, .int .u8 108, .int .u8 111, .int .u8 103, .int .i64 3, .int .i64 (n : Int), .int .i64 q, .slice (some ⟨b, off, none⟩) n cap]) rfl (by kernel_rfl) (by kernel_rfl) (by kernel_rfl) (fun _ _ _ h => h) (.inl ⟨by kernel_rfl, fun w' hw' => by go_simp⟩) HS2.out ?_
  go_simp
  refine held_one 9 rfl rfl (by kernel_rfl) ?_
  refine wp_store_row 120 (.tmp 2) (.tmp 11) rfl rfl (w.heap.size + 1) rfl [.int .u8 106, .int .u8 108, .int .u8 111, .int .u8 103, .int .i64 3, .int .i64 (n : Int), .int .i64 q, .slice (some ⟨b, off, none⟩) n cap] [.int .u8 0, .int .u8 0, .int .u8 0, .int .u8 0, .int .i64 0, .int .i64 0, .int .i64 0, .slice none 0 0] 120 rfl HZ2.out rfl (by kernel_rfl) (by simp [Value.oneCell']) ?_
  intro w3 hb3 hc3
  have HS3 : Hid _ := (hc3.block _ (Array.getElem?_eq_some_iff.1 HS2.out).1 (by omega)).trans HS2.out
  have HC3 : Hid _ := HC2.out.step hc3 (by omega)
  have HB3 : Hid _ := hb3
  refine ⟨HS3.out, ?_⟩
  clear hb3 hc3
  refine held_done (by kernel_rfl) (NoPanic.normal ?_)
  go_wp2
  have hb := HB3.out
  exact bodyPost_ret (v := .agg #[.int .u8 106, .int .u8 108, .int .u8 111, .int .u8 103, .int .i64 3, .int .i64 (n : Int), .int .i64 q, .slice (some ⟨b, off, none⟩) n cap]) (by simp [results, Tryz.results57, go_sem, World.cell?, hb]) rfl ⟨rfl, HC3.out⟩

set_option maxRecDepth 20000 in
set_option maxHeartbeats 2000000 in
theorem descriptorOf_calls (w : World) (q : Int) (b off n cap : Nat) (_hn : n ≤ 1048576) (hm : Mag w) :
    Calls Tryz.prog 72 #[.agg #[.int .i64 q, .slice (some ⟨b, off, none⟩) n cap]] w fun e w' => e = .returned (.agg #[.int .u8 106, .int .u8 108, .int .u8 111, .int .u8 103, .int .i64 2, .int .i64 (n : Int), .int .i64 q, .slice (some ⟨b, off, none⟩) n cap]) ∧ Chg 0 0 w w' := by
  obtain ⟨z1, z2, z3⟩ := alloc2 w (.cells #[.int .i64 q, .slice (some ⟨b, off, none⟩) n cap] 68) (.cells #[.int .u8 0, .int .u8 0, .int .u8 0, .int .u8 0, .int .i64 0, .int .i64 0, .int .i64 0, .slice none 0 0] 134)
  have hA : Chg 0 0 w ((w.alloc (.cells #[.int .i64 q, .slice (some ⟨b, off, none⟩) n cap] 68)).alloc (.cells #[.int .u8 0, .int .u8 0, .int .u8 0, .int .u8 0, .int .i64 0, .int .i64 0, .int .i64 0, .slice none 0 0] 134)) := (Chg.alloc (Chg.refl 0 0 w) _).alloc _
  have HB : Hid _ := z2
  have HZ : Hid _ := z3
  have HC : Hid _ := hA
  have HM : Hid (Mag w) := hm
  have s0 : ((w.alloc (.cells #[.int .i64 q, .slice (some ⟨b, off, none⟩) n cap] 68)).alloc (.cells #[.int .u8 0, .int .u8 0, .int .u8 0, .int .u8 0, .int .i64 0, .int .i64 0, .int .i64 0, .slice none 0 0] 134)).heap.size = w.heap.size + 2 := z1
  clear z1 z2 z3 hA hm
  go_enter Tryz.func72, Tryz.ntmps72
  go_upto_region 1 with fail
  generalize ((w.alloc (.cells #[.int .i64 q, .slice (some ⟨b, off, none⟩) n cap] 68)).alloc (.cells #[.int .u8 0, .int .u8 0, .int .u8 0, .int .u8 0, .int .i64 0, .int .i64 0, .int .i64 0, .slice none 0 0] 134)) = wa at *
  have HS : Hid ((fun w' : World => w'.heap[w.heap.size]? = some (.cells #[.int .i64 q, .slice (some ⟨b, off, none⟩) n cap] 68 (0, 0))) wa.drew) := HB.out
  refine held_region (fun w' : World => w'.heap[w.heap.size]? = some (.cells #[.int .i64 q, .slice (some ⟨b, off, none⟩) n cap] 68 (0, 0))) (by kernel_rfl) ?_
  refine held_take 0 (.pointer (some ⟨w.heap.size, 1, none⟩)) rfl (by kernel_rfl) (by kernel_rfl) (by kernel_rfl) (fun _ _ _ h => h) (.inl ⟨by kernel_rfl, fun w' hw' => by go_simp⟩) HS.out ?_
  go_simp
  refine held_take 1 (.slice (some ⟨b, off, none⟩) n cap) rfl (by kernel_rfl) (by kernel_rfl) (by kernel_rfl) (fun _ _ _ h => h) (.inl ⟨by kernel_rfl, fun w' hw' => by obtain ⟨q0, q1, _, _⟩ := two_cells hw'; go_simp⟩) HS.out ?_
  go_simp
  refine held_take 2 (.int .i64 (n : Int)) rfl (by kernel_rfl) (by kernel_rfl) (by kernel_rfl) (fun _ _ _ h => h) (.inl ⟨by kernel_rfl, fun w' hw' => by go_simp⟩) HS.out ?_
  go_simp
  refine held_take 3 (.pointer (some ⟨w.heap.size, 0, none⟩)) rfl (by kernel_rfl) (by kernel_rfl) (by kernel_rfl) (fun _ _ _ h => h) (.inl ⟨by kernel_rfl, fun w' hw' => by go_simp⟩) HS.out ?_
  go_simp
  refine held_take 4 (.int .i64 q) rfl (by kernel_rfl) (by kernel_rfl) (by kernel_rfl) (fun _ _ _ h => h) (.inl ⟨by kernel_rfl, fun w' hw' => by obtain ⟨q0, q1, _, _⟩ := two_cells hw'; go_simp⟩) HS.out ?_
  go_simp
  refine held_take 6 (.pointer (some ⟨w.heap.size, 1, none⟩)) rfl (by kernel_rfl) (by kernel_rfl) (by kernel_rfl) (fun _ _ _ h => h) (.inl ⟨by kernel_rfl, fun w' hw' => by go_simp⟩) HS.out ?_
  go_simp
  refine held_take 7 (.slice (some ⟨b, off, none⟩) n cap) rfl (by kernel_rfl) (by kernel_rfl) (by kernel_rfl) (fun _ _ _ h => h) (.inl ⟨by kernel_rfl, fun w' hw' => by obtain ⟨q0, q1, _, _⟩ := two_cells hw'; go_simp⟩) HS.out ?_
  go_simp
  have HC1 : Hid (Chg 0 0 w wa.drew) := HC.out.drew
  have HZ1 : Hid (wa.drew.heap[w.heap.size + 1]? = some (.cells #[.int .u8 0, .int .u8 0, .int .u8 0, .int .u8 0, .int .i64 0, .int .i64 0, .int .i64 0, .slice none 0 0] 134 (0, 0))) := HZ.out
  have s1 : wa.drew.heap.size = w.heap.size + 2 := s0
  clear HC HZ HB
  generalize wa.drew = w1 at *
  have hM := HM.out.chg HC1.out (by omega)
  refine held_one 5 rfl rfl (by kernel_rfl) ?_
  refine wp_enter 63 #[.int .i64 2, .int .i64 (n : Int), .int .i64 q] (by first | kernel_rfl | go_simp) (newHeader_calls w1 2 n q hM.m0 hM.m1 hM.m2 hM.m3) ?_
  rintro e w2 ⟨rfl, h2⟩
  have HS2 : Hid ((fun w' : World => w'.heap[w.heap.size]? = some (.cells #[.int .i64 q, .slice (some ⟨b, off, none⟩) n cap] 68 (0, 0))) w2) := (h2.block _ (by omega) (by omega)).trans HS.out
  have HZ2 : Hid _ := (h2.block _ (by omega) (by omega)).trans HZ1.out
  have HC2 : Hid _ := HC1.out.trans h2
  refine ⟨_, rfl, HS2.out, ?_⟩
  clear h2 hM HS HZ1 HC1
  go_simp
  refine held_take 8 (.agg #[.int .u8 106, .int .u8 108, .int .u8 111, .int .u8 103, .int .i64 2, .int .i64 (n : Int), .int .i64 q, .slice (some ⟨b, off, none⟩) n cap]) rfl (by kernel_rfl) (by kernel_rfl) (by kernel_rfl) (fun _ _ _ h => h) (.inl ⟨by kernel_rfl, fun w' hw' => by go_simp⟩) HS2.out ?_
  go_simp
  refine held_one 9 rfl rfl (by kernel_rfl) ?_
  refine wp_store_row 134 (.tmp 2) (.tmp 11) rfl rfl (w.heap.size + 1) rfl [.int .u8 106, .int .u8 108, .int .u8 111, .int .u8 103, .int .i64 2, .int .i64 (n : Int), .int .i64 q, .slice (some ⟨b, off, none⟩) n cap] [.int .u8 0, .int .u8 0, .int .u8 0, .int .u8 0, .int .i64 0, .int .i64 0, .int .i64 0, .slice none 0 0] 134 rfl HZ2.out rfl (by kernel_rfl) (by simp [Value.oneCell']) ?_
  intro w3 hb3 hc3
  have HS3 : Hid _ := (hc3.block _ (Array.getElem?_eq_some_iff.1 HS2.out).1 (by omega)).trans HS2.out
  have HC3 : Hid _ := HC2.out.step hc3 (by omega)
  have HB3 : Hid _ := hb3
  refine ⟨HS3.out, ?_⟩
  clear hb3 hc3
  refine held_done (by kernel_rfl) (NoPanic.normal ?_)
  go_wp2
  have hb := HB3.out
  exact bodyPost_ret (v := .agg #[.int .u8 106, .int .u8 108, .int .u8 111, .int .u8 103, .int .i64 2, .int .i64 (n : Int), .int .i64 q, .slice (some ⟨b, off, none⟩) n cap]) (by simp [results, Tryz.results72, go_sem, World.cell?, hb]) rfl ⟨rfl, HC3.out⟩

end Go.Proofs.YteligghapkleaaaGreatDoor

namespace Go.Proofs.YteligghapkleaaaGreatDoor
open Go.RowKit

theorem OwnB.nothing (w : World) (N : Nat) (e : TypeId) : OwnB w N e (.slice none 0 0) [] := ⟨rfl, Or.inl ⟨rfl, rfl⟩⟩
theorem alloc_two (w : World) (o1 o2 : Obj) : ((w.alloc o1).alloc o2).heap[w.heap.size]? = some o1 := (alloc2 w o1 o2).2.1
theorem alloc_twoN (w : World) (o1 o2 : Obj) : ((w.alloc o1).alloc o2).heap[w.heap.size + 1]? = some o2 := (alloc2 w o1 o2).2.2
theorem trio {w : World} {s : Nat} {a b c : Value} {t : TypeId} (h : w.heap[s]? = some (.cells #[a, b, c] t (0, 0))) :
    w.cell? ⟨s, 0, none⟩ = some a ∧ w.cell? ⟨s, 1, none⟩ = some b ∧ w.cell? ⟨s, 2, none⟩ = some c := by
  simp [World.cell?, h]

end Go.Proofs.YteligghapkleaaaGreatDoor
