/- A geometry that is drawn: three numbers. (made by tools/mkdrawg.py) -/
import Derived.Test.YtacfkgfemmgpkaaGreatDoorDecL
import Derived.Test.YtacfkgfemmgpkaaGreatDoorBytSeen
import Derived.Test.YtacfkgfemmgpkaaGreatDoorWeak
namespace Go.Proofs.YtacfkgfemmgpkaaGreatDoor
open Go.RowKit

set_option maxHeartbeats 1000000 in
theorem up2_e (w : World) (a : Nat) (ha : a ≤ 2000) : Calls Tryz.prog 20 #[.int .i64 a, .int .i64 2] w fun e w' => ∃ u : Nat, e = .returned (.int .i64 u) ∧ u ≤ 1000 ∧ w' = w := by
  go_enter Tryz.func20, Tryz.ntmps20
  go_wp2
  go_loopw [5] (fun x wr => ∃ k : Nat, 2 * k ≤ a + 1 ∧ x = .int .i64 k ∧ wr = w) (fun x _ => 2001 - (RowKit.intOf x).toNat)
  case atStart => exact ⟨0, by omega, rfl, rfl⟩
  case round =>
    obtain ⟨k, hk, rfl, hw⟩ := hrel
    obtain rfl : w = wr := hw.symm
    by_cases hlt : k * 2 < a
    · have hi : (k : Int) * 2 < (a : Int) := by omega
      go_wp2
      go_roundw
      case rel => exact ⟨k + 1, by omega, by go_num, by first | rfl | trivial⟩
      case measure => simp [RowKit.intOf]; omega
    · have hi : ¬ ((k : Int) * 2 < (a : Int)) := by omega
      go_wp2
      go_ret
      exact ⟨k, rfl, by omega, rfl⟩

/-- Three numbers in block B, the latter two of them small. -/
def Geo (S : Sc) (w0 : World) (B : Nat) (wx : World) (A : Nat) : Prop := ∃ (a : Int) (b c : Nat), b ≤ 1000 ∧ c ≤ 1000 ∧ wx.heap[B]? = some (.cells #[.int .i64 a, .int .i64 b, .int .i64 c] 24 (0, 0)) ∧ En S w0 wx A
theorem set3 {w : World} {B : Nat} {v0 v1 v2 : Value} {t : TypeId} {fz : Nat × Nat} (h : w.heap[B]? = some (.cells #[v0, v1, v2] t fz)) (u : Value) :
    (w.setCell ⟨B, 0, none⟩ u).heap[B]? = some (.cells #[u, v1, v2] t fz) ∧ (w.setCell ⟨B, 1, none⟩ u).heap[B]? = some (.cells #[v0, u, v2] t fz) ∧ (w.setCell ⟨B, 2, none⟩ u).heap[B]? = some (.cells #[v0, v1, u] t fz) := by
  refine ⟨?_, ?_, ?_⟩ <;> simp [World.setCell, Array.getElem?_modify, h]
theorem tri3 {w : World} {s : Nat} {a b c : Value} {t : TypeId} (h : w.heap[s]? = some (.cells #[a, b, c] t (0, 0))) :
    (w.cell? ⟨s, 0, none⟩ = some a ∧ w.cell? ⟨s, 1, none⟩ = some b ∧ w.cell? ⟨s, 2, none⟩ = some c) ∧ w.frozen? ⟨s, 0, none⟩ = false ∧ w.frozen? ⟨s, 1, none⟩ = false ∧ w.frozen? ⟨s, 2, none⟩ = false := by
  simp [World.cell?, World.frozen?, h]

set_option maxRecDepth 20000 in
set_option maxHeartbeats 8000000 in
theorem geometry_e {S : Sc} {w0 w : World} {A : Nat} (h : En S w0 w A) (hA : A ≤ 300000) :
    Calls Tryz.prog 21 #[.pointer (some ⟨S.p, 0, none⟩)] w fun e w' => ∃ a b c : Int, e = .returned (.agg #[.int .i64 a, .int .i64 b, .int .i64 c]) ∧ En S w0 w' (A + 30) := by
  have hz := h.size
  have hpt0 := h.top
  have hmx : Tryz.prog.follows .mixedOrders = true := by kernel_rfl
  have HJ : Hid (∀ W A', En S (w.alloc (.cells #[.int .i64 0, .int .i64 0, .int .i64 0] 24)) W A' → A' ≤ A + 30 → En S w0 W (A + 30)) := fun W A' k ha => ((h.alloc (.cells #[.int .i64 0, .int .i64 0, .int .i64 0] 24)).join k).mono ha
  have HB : Hid (∀ W A', En S (w.alloc (.cells #[.int .i64 0, .int .i64 0, .int .i64 0] 24)) W A' → W.heap[w.heap.size]? = some (.cells #[.int .i64 0, .int .i64 0, .int .i64 0] 24 (0, 0))) := fun W A' k => (k.chg.block _ (by simp) (by omega)).trans (heap_new w _)
  have hs : En S (w.alloc (.cells #[.int .i64 0, .int .i64 0, .int .i64 0] 24)) (w.alloc (.cells #[.int .i64 0, .int .i64 0, .int .i64 0] 24)) A := (h.alloc _).self
  have hW0 : w.heap.size < (w.alloc (.cells #[.int .i64 0, .int .i64 0, .int .i64 0] 24)).heap.size := by simp
  clear h
  go_enter Tryz.func21, Tryz.ntmps21
  go_wp2_with fail
  generalize w.alloc (.cells #[.int .i64 0, .int .i64 0, .int .i64 0] 24) = W0 at *
  refine (next_e hs (by omega) 30 (by omega)).mono ?_
  rintro e w1 ⟨r, rfl, r0, r1, h1⟩
  replace r1 := r1 (by omega)
  go_wp2_with fail
  refine (next_e h1 (by omega) 14 (by omega)).mono ?_
  rintro e w2 ⟨q, rfl, q0, q1, h2⟩
  replace q1 := q1 (by omega)
  obtain ⟨rn, rfl⟩ : ∃ z : Nat, r = (z : Int) := ⟨r.toNat, by omega⟩
  obtain ⟨qn, rfl⟩ : ∃ z : Nat, q = (z : Int) := ⟨q.toNat, by omega⟩
  have hG : Geo S W0 w2.heap.size (w2.alloc (.cells #[.int .i64 0, .int .i64 (16 + (rn : Int)), .int .i64 (2 + (qn : Int))] 24)) (A + 2) := ⟨0, 16 + rn, 2 + qn, by omega, by omega, by have := heap_new w2 (.cells #[.int .i64 0, .int .i64 (16 + (rn : Int)), .int .i64 (2 + (qn : Int))] 24); simpa using this, h2.alloc _⟩
  have hBs := h2.size
  clear h1 h2 hs
  go_upto_region 2 with fail
  generalize w2.alloc (.cells #[.int .i64 0, .int .i64 (16 + (rn : Int)), .int .i64 (2 + (qn : Int))] 24) = W at *
  generalize w2.heap.size = B at *
  clear r0 r1 q0 q1
  go_cut [] (fun wx => Geo S W0 B wx (A + 3))
  case first =>
    obtain ⟨a, b, c, hb, hc, hBk, hE⟩ := hG
    have hpt := hE.top
    have eb : IntKind.i64.wrap ((b : Int) + 6) = (b : Int) + 6 := by rw [IntKind.wrap_i64]; omega
    refine held_region (fun W' => ∃ x : Int, W'.heap[B]? = some (.cells #[.int .i64 x, .int .i64 b, .int .i64 c] 24 (0, 0))) hmx ?_
    have cD := Chg.drew (Chg.refl 0 0 W)
    have hEd := hE.keep cD
    have hBd := (cD.block _ (Array.getElem?_eq_some_iff.1 hBk).1 (by omega)).trans hBk
    clear hE hBk cD
    generalize W.drew = wd at *
    refine held_take 0 (.pointer (some ⟨B, 1, none⟩)) rfl (by kernel_rfl) (by kernel_rfl) (by kernel_rfl) (fun _ _ _ h => h) (.inl ⟨by kernel_rfl, fun w' hw' => by go_simp⟩) ⟨_, hBd⟩ ?_
    go_simp
    refine held_take 1 (.int .i64 b) rfl (by kernel_rfl) (by kernel_rfl) (by kernel_rfl) (fun _ _ _ h => h) (.inl ⟨by kernel_rfl, fun w' hw' => by obtain ⟨xx, hx⟩ := hw'; obtain ⟨⟨k0, k1, k2⟩, _⟩ := tri3 hx; go_simp⟩) ⟨_, hBd⟩ ?_
    go_simp
    refine held_take 2 (.int .i64 ((b : Int) + 6)) rfl (by kernel_rfl) (by kernel_rfl) (by kernel_rfl) (fun _ _ _ h => h) (.inl ⟨by kernel_rfl, fun w' hw' => by go_simp⟩) ⟨_, hBd⟩ ?_
    go_simp
    refine held_take 3 (.pointer (some ⟨B, 2, none⟩)) rfl (by kernel_rfl) (by kernel_rfl) (by kernel_rfl) (fun _ _ _ h => h) (.inl ⟨by kernel_rfl, fun w' hw' => by go_simp⟩) ⟨_, hBd⟩ ?_
    go_simp
    refine held_take 4 (.int .i64 c) rfl (by kernel_rfl) (by kernel_rfl) (by kernel_rfl) (fun _ _ _ h => h) (.inl ⟨by kernel_rfl, fun w' hw' => by obtain ⟨xx, hx⟩ := hw'; obtain ⟨⟨k0, k1, k2⟩, _⟩ := tri3 hx; go_simp⟩) ⟨_, hBd⟩ ?_
    go_simp
    refine held_take 7 (.pointer (some ⟨S.p, 0, none⟩)) rfl (by kernel_rfl) (by kernel_rfl) (by kernel_rfl) (fun _ _ _ h => h) (.inl ⟨by kernel_rfl, fun w' hw' => by go_simp⟩) ⟨_, hBd⟩ ?_
    go_simp
    refine held_one 5 rfl rfl (by kernel_rfl) ?_
    refine wp_enter 20 #[.int .i64 c, .int .i64 2] (by first | kernel_rfl | go_simp) (up2_e wd c (by omega)) ?_
    rintro e wz ⟨u, rfl, hu, hwz⟩
    obtain rfl : wd = wz := hwz.symm
    have eu : IntKind.i64.wrap ((b : Int) + 6 + u) = (b : Int) + 6 + u := by rw [IntKind.wrap_i64]; omega
    refine ⟨_, rfl, ⟨_, hBd⟩, ?_⟩
    go_simp
    refine held_take 6 (.int .i64 ((b : Int) + 6 + u)) rfl (by kernel_rfl) (by kernel_rfl) (by kernel_rfl) (fun _ _ _ h => h) (.inl ⟨by kernel_rfl, fun w' hw' => by go_simp⟩) ⟨_, hBd⟩ ?_
    go_simp
    refine held_one 8 rfl rfl (by kernel_rfl) ?_
    refine wp_enter 13 #[.pointer (some ⟨S.p, 0, none⟩), .int .i64 40] (by first | kernel_rfl | go_simp) (next_e hEd.self (by omega) 40 (by omega)) ?_
    rintro e wn ⟨r, rfl, r0, r1, hEn⟩
    replace r1 := r1 (by omega)
    have hEf := hEd.join hEn
    replace hBd := (hEn.chg.block _ (Array.getElem?_eq_some_iff.1 hBd).1 (by omega)).trans hBd
    have ew : IntKind.i64.wrap ((b : Int) + 6 + u + r) = (b : Int) + 6 + u + r := by rw [IntKind.wrap_i64]; omega
    refine ⟨_, rfl, ⟨_, hBd⟩, ?_⟩
    go_simp
    refine held_take 9 (.int .i64 ((b : Int) + 6 + u + r)) rfl (by kernel_rfl) (by kernel_rfl) (by kernel_rfl) (fun _ _ _ h => h) (.inl ⟨by kernel_rfl, fun w' hw' => by go_simp⟩) ⟨_, hBd⟩ ?_
    go_simp
    refine held_take 10 (.pointer (some ⟨B, 0, none⟩)) rfl (by kernel_rfl) (by kernel_rfl) (by kernel_rfl) (fun _ _ _ h => h) (.inl ⟨by kernel_rfl, fun w' hw' => by go_simp⟩) ⟨_, hBd⟩ ?_
    go_simp
    refine held_one 11 rfl rfl (by kernel_rfl) ?_
    obtain ⟨⟨z0, z1, z2⟩, g0, g1, g2⟩ := tri3 hBd
    have hS := (set3 hBd (.int .i64 ((b : Int) + 6 + u + r))).1
    have hEs := hEf.set (b := B) (i := 0) (by omega) (.int .i64 ((b : Int) + 6 + u + r))
    go_simp
    refine ⟨by kernel_rfl, NoPanic.normal ?_⟩
    go_wp2
    go_meet
    exact ⟨_, b, c, hb, hc, hS, hEs.mono (by omega)⟩
  case rest =>
  clear hG
  have hG : Geo S W0 B wc (A + 3) := hcut
  generalize wc = W2 at *
  clear hcut
  obtain ⟨a, b, c, hb, hc, hBk, hE⟩ := hG
  go_wp2_with fail
  refine (next_e hE.self (by omega) 40 (by omega)).mono ?_
  rintro e w3 ⟨k, rfl, k0, k1, h3⟩
  replace k1 := k1 (by omega)
  have hpt := hE.top
  replace hBk := (h3.chg.block _ (Array.getElem?_eq_some_iff.1 hBk).1 (by omega)).trans hBk
  replace hE := hE.join h3
  clear h3
  go_upto_if 26 with fail
  go_cut [] (fun wx => Geo S W0 B wx (A + 8))
  case first =>
    by_cases hk : k < 20
    · go_wp2_with fail
      refine (next_e hE.self (by omega) 30 (by omega)).mono ?_
      rintro e w4 ⟨r, rfl, r0, r1, h4⟩
      replace r1 := r1 (by omega)
      replace hBk := (h4.chg.block _ (Array.getElem?_eq_some_iff.1 hBk).1 (by omega)).trans hBk
      replace hE := hE.join h4
      obtain ⟨rn, rfl⟩ : ∃ z : Nat, r = (z : Int) := ⟨r.toNat, by omega⟩
      obtain ⟨⟨z0, z1, z2⟩, g0, g1, g2⟩ := tri3 hBk
      have hB5 := (set3 hBk (.int .i64 (36 + (rn : Int)))).2.1
      have hE5 := hE.set (b := B) (i := 1) (by omega) (.int .i64 (36 + (rn : Int)))
      go_wp2_with fail
      generalize w4.setCell ⟨B, 1, none⟩ (.int .i64 (36 + (rn : Int))) = w5 at *
      clear h4 hE hBk z0 z1 z2 g0 g1 g2
      refine (next_e hE5.self (by omega) 10 (by omega)).mono ?_
      rintro e w6 ⟨q, rfl, q0, q1, h6⟩
      replace q1 := q1 (by omega)
      replace hB5 := (h6.chg.block _ (Array.getElem?_eq_some_iff.1 hB5).1 (by omega)).trans hB5
      replace hE5 := hE5.join h6
      obtain ⟨qn, rfl⟩ : ∃ z : Nat, q = (z : Int) := ⟨q.toNat, by omega⟩
      obtain ⟨⟨z0, z1, z2⟩, g0, g1, g2⟩ := tri3 hB5
      have hG : Geo S W0 B (w6.setCell ⟨B, 2, none⟩ (.int .i64 (6 + (qn : Int)))) (A + 6) := ⟨a, 36 + rn, 6 + qn, by omega, by omega, by have := (set3 hB5 (.int .i64 (6 + (qn : Int)))).2.2; simpa using this, (hE5.set (b := B) (i := 2) (by omega) (.int .i64 (6 + (qn : Int)))).mono (by omega)⟩
      go_wp2_with fail
      generalize w6.setCell ⟨B, 2, none⟩ (.int .i64 (6 + (qn : Int))) = w7 at *
      clear h6 hE5 hB5 z0 z1 z2 g0 g1 g2 hb hc a b c r0 r1 q0 q1
      obtain ⟨a, b, c, hb, hc, hBk, hE⟩ := hG
      have hpt := hE.top
      have eb : IntKind.i64.wrap ((b : Int) + 10) = (b : Int) + 10 := by rw [IntKind.wrap_i64]; omega
      refine held_region (fun W' => ∃ x : Int, W'.heap[B]? = some (.cells #[.int .i64 x, .int .i64 b, .int .i64 c] 24 (0, 0))) hmx ?_
      have cD := Chg.drew (Chg.refl 0 0 w7)
      have hEd := hE.keep cD
      have hBd := (cD.block _ (Array.getElem?_eq_some_iff.1 hBk).1 (by omega)).trans hBk
      clear hE hBk cD
      generalize w7.drew = wd at *
      refine held_take 0 (.pointer (some ⟨B, 1, none⟩)) rfl (by kernel_rfl) (by kernel_rfl) (by kernel_rfl) (fun _ _ _ h => h) (.inl ⟨by kernel_rfl, fun w' hw' => by go_simp⟩) ⟨_, hBd⟩ ?_
      go_simp
      refine held_take 1 (.int .i64 b) rfl (by kernel_rfl) (by kernel_rfl) (by kernel_rfl) (fun _ _ _ h => h) (.inl ⟨by kernel_rfl, fun w' hw' => by obtain ⟨xx, hx⟩ := hw'; obtain ⟨⟨k0, k1, k2⟩, _⟩ := tri3 hx; go_simp⟩) ⟨_, hBd⟩ ?_
      go_simp
      refine held_take 2 (.int .i64 ((b : Int) + 10)) rfl (by kernel_rfl) (by kernel_rfl) (by kernel_rfl) (fun _ _ _ h => h) (.inl ⟨by kernel_rfl, fun w' hw' => by go_simp⟩) ⟨_, hBd⟩ ?_
      go_simp
      refine held_take 3 (.pointer (some ⟨B, 2, none⟩)) rfl (by kernel_rfl) (by kernel_rfl) (by kernel_rfl) (fun _ _ _ h => h) (.inl ⟨by kernel_rfl, fun w' hw' => by go_simp⟩) ⟨_, hBd⟩ ?_
      go_simp
      refine held_take 4 (.int .i64 c) rfl (by kernel_rfl) (by kernel_rfl) (by kernel_rfl) (fun _ _ _ h => h) (.inl ⟨by kernel_rfl, fun w' hw' => by obtain ⟨xx, hx⟩ := hw'; obtain ⟨⟨k0, k1, k2⟩, _⟩ := tri3 hx; go_simp⟩) ⟨_, hBd⟩ ?_
      go_simp
      refine held_take 7 (.pointer (some ⟨S.p, 0, none⟩)) rfl (by kernel_rfl) (by kernel_rfl) (by kernel_rfl) (fun _ _ _ h => h) (.inl ⟨by kernel_rfl, fun w' hw' => by go_simp⟩) ⟨_, hBd⟩ ?_
      go_simp
      refine held_one 5 rfl rfl (by kernel_rfl) ?_
      refine wp_enter 20 #[.int .i64 c, .int .i64 2] (by first | kernel_rfl | go_simp) (up2_e wd c (by omega)) ?_
      rintro e wz ⟨u, rfl, hu, hwz⟩
      obtain rfl : wd = wz := hwz.symm
      have eu : IntKind.i64.wrap ((b : Int) + 10 + u) = (b : Int) + 10 + u := by rw [IntKind.wrap_i64]; omega
      refine ⟨_, rfl, ⟨_, hBd⟩, ?_⟩
      go_simp
      refine held_take 6 (.int .i64 ((b : Int) + 10 + u)) rfl (by kernel_rfl) (by kernel_rfl) (by kernel_rfl) (fun _ _ _ h => h) (.inl ⟨by kernel_rfl, fun w' hw' => by go_simp⟩) ⟨_, hBd⟩ ?_
      go_simp
      refine held_one 8 rfl rfl (by kernel_rfl) ?_
      refine wp_enter 13 #[.pointer (some ⟨S.p, 0, none⟩), .int .i64 70] (by first | kernel_rfl | go_simp) (next_e hEd.self (by omega) 70 (by omega)) ?_
      rintro e wn ⟨r, rfl, r0, r1, hEn⟩
      replace r1 := r1 (by omega)
      have hEf := hEd.join hEn
      replace hBd := (hEn.chg.block _ (Array.getElem?_eq_some_iff.1 hBd).1 (by omega)).trans hBd
      have ew : IntKind.i64.wrap ((b : Int) + 10 + u + r) = (b : Int) + 10 + u + r := by rw [IntKind.wrap_i64]; omega
      refine ⟨_, rfl, ⟨_, hBd⟩, ?_⟩
      go_simp
      refine held_take 9 (.int .i64 ((b : Int) + 10 + u + r)) rfl (by kernel_rfl) (by kernel_rfl) (by kernel_rfl) (fun _ _ _ h => h) (.inl ⟨by kernel_rfl, fun w' hw' => by go_simp⟩) ⟨_, hBd⟩ ?_
      go_simp
      refine held_take 10 (.pointer (some ⟨B, 0, none⟩)) rfl (by kernel_rfl) (by kernel_rfl) (by kernel_rfl) (fun _ _ _ h => h) (.inl ⟨by kernel_rfl, fun w' hw' => by go_simp⟩) ⟨_, hBd⟩ ?_
      go_simp
      refine held_one 11 rfl rfl (by kernel_rfl) ?_
      obtain ⟨⟨z0, z1, z2⟩, g0, g1, g2⟩ := tri3 hBd
      have hS := (set3 hBd (.int .i64 ((b : Int) + 10 + u + r))).1
      have hEs := hEf.set (b := B) (i := 0) (by omega) (.int .i64 ((b : Int) + 10 + u + r))
      go_simp
      refine ⟨by kernel_rfl, NoPanic.normal ?_⟩
      go_wp2
      go_meet
      exact ⟨_, b, c, hb, hc, hS, hEs.mono (by omega)⟩
    · go_wp2
      go_meet
      exact ⟨a, b, c, hb, hc, hBk, hE.mono (by omega)⟩
  case rest =>
  clear hE hBk hb hc a b c
  have hG : Geo S W0 B wc (A + 8) := hcut
  generalize wc = W3 at *
  clear hcut
  obtain ⟨a, b, c, hb, hc, hBk, hE⟩ := hG
  by_cases e20 : k = 20
  · subst e20
    go_wp2_with fail
    refine (next_e hE.self (by omega) 2 (by omega)).mono ?_
    rintro e w4 ⟨r, rfl, r0, r1, h4⟩
    replace r1 := r1 (by omega)
    replace hBk := (h4.chg.block _ (Array.getElem?_eq_some_iff.1 hBk).1 (by omega)).trans hBk
    replace hE := hE.join h4
    clear h4
    obtain ⟨⟨z00, z01, z02⟩, g00, g01, g02⟩ := tri3 hBk
    have y0R := tri3 (HB.out _ _ hE)
    obtain ⟨⟨y00, y01, y02⟩, f00, f01, f02⟩ := y0R
    replace hBk := (set3 hBk (.int .i64 (512 + r))).2.1
    replace hE := hE.set (b := B) (i := 1) (by omega) (.int .i64 (512 + r))
    obtain ⟨⟨z10, z11, z12⟩, g10, g11, g12⟩ := tri3 hBk
    have y1R := tri3 (HB.out _ _ hE)
    obtain ⟨⟨y10, y11, y12⟩, f10, f11, f12⟩ := y1R
    replace hBk := (set3 hBk (.int .i64 (512 + r + 20))).1
    replace hE := hE.set (b := B) (i := 0) (by omega) (.int .i64 (512 + r + 20))
    obtain ⟨⟨z20, z21, z22⟩, g20, g21, g22⟩ := tri3 hBk
    obtain ⟨⟨y20, y21, y22⟩, f20, f21, f22⟩ := tri3 (HB.out _ _ hE)
    have hne : w.heap.size < B := by omega
    go_wp2
    exact bodyPost_ret (v := .agg #[.int .i64 (512 + r + 20), .int .i64 (512 + r), .int .i64 c]) (by simp [results, Tryz.results21, go_sem, *]) rfl ⟨_, _, _, rfl, En.set (En.set (En.set (HJ.out _ _ hE (by omega)) hz _) hz _) hz _⟩
  have f20 : (k == 20) = false := by simpa using e20
  by_cases e21 : k = 21
  · subst e21
    go_wp2_with fail
    refine (next_e hE.self (by omega) 2 (by omega)).mono ?_
    rintro e w4 ⟨r, rfl, r0, r1, h4⟩
    replace r1 := r1 (by omega)
    replace hBk := (h4.chg.block _ (Array.getElem?_eq_some_iff.1 hBk).1 (by omega)).trans hBk
    replace hE := hE.join h4
    clear h4
    obtain ⟨⟨z00, z01, z02⟩, g00, g01, g02⟩ := tri3 hBk
    have y0R := tri3 (HB.out _ _ hE)
    obtain ⟨⟨y00, y01, y02⟩, f00, f01, f02⟩ := y0R
    replace hBk := (set3 hBk (.int .i64 (256 + r))).2.2
    replace hE := hE.set (b := B) (i := 2) (by omega) (.int .i64 (256 + r))
    obtain ⟨⟨z10, z11, z12⟩, g10, g11, g12⟩ := tri3 hBk
    have y1R := tri3 (HB.out _ _ hE)
    obtain ⟨⟨y10, y11, y12⟩, f10, f11, f12⟩ := y1R
    replace hBk := (set3 hBk (.int .i64 260)).1
    replace hE := hE.set (b := B) (i := 0) (by omega) (.int .i64 260)
    obtain ⟨⟨z20, z21, z22⟩, g20, g21, g22⟩ := tri3 hBk
    obtain ⟨⟨y20, y21, y22⟩, f20, f21, f22⟩ := tri3 (HB.out _ _ hE)
    have hne : w.heap.size < B := by omega
    go_wp2
    exact bodyPost_ret (v := .agg #[.int .i64 260, .int .i64 b, .int .i64 (256 + r)]) (by simp [results, Tryz.results21, go_sem, *]) rfl ⟨_, _, _, rfl, En.set (En.set (En.set (HJ.out _ _ hE (by omega)) hz _) hz _) hz _⟩
  have f21 : (k == 21) = false := by simpa using e21
  by_cases e22 : k = 22
  · subst e22
    go_wp2_with fail
    have hG : Geo S W0 B W3 (A + 8) := ⟨a, b, c, hb, hc, hBk, hE⟩
    clear hb hc hBk hE a b c
    obtain ⟨a, b, c, hb, hc, hBk, hE⟩ := hG
    have hpt := hE.top
    have eb : IntKind.i64.wrap ((b : Int) + 4) = (b : Int) + 4 := by rw [IntKind.wrap_i64]; omega
    refine held_region (fun W' => ∃ x : Int, W'.heap[B]? = some (.cells #[.int .i64 x, .int .i64 b, .int .i64 c] 24 (0, 0))) hmx ?_
    have cD := Chg.drew (Chg.refl 0 0 W3)
    have hEd := hE.keep cD
    have hBd := (cD.block _ (Array.getElem?_eq_some_iff.1 hBk).1 (by omega)).trans hBk
    clear hE hBk cD
    generalize W3.drew = wd at *
    refine held_take 0 (.pointer (some ⟨B, 1, none⟩)) rfl (by kernel_rfl) (by kernel_rfl) (by kernel_rfl) (fun _ _ _ h => h) (.inl ⟨by kernel_rfl, fun w' hw' => by go_simp⟩) ⟨_, hBd⟩ ?_
    go_simp
    refine held_take 1 (.int .i64 b) rfl (by kernel_rfl) (by kernel_rfl) (by kernel_rfl) (fun _ _ _ h => h) (.inl ⟨by kernel_rfl, fun w' hw' => by obtain ⟨xx, hx⟩ := hw'; obtain ⟨⟨k0, k1, k2⟩, _⟩ := tri3 hx; go_simp⟩) ⟨_, hBd⟩ ?_
    go_simp
    refine held_take 2 (.int .i64 ((b : Int) + 4)) rfl (by kernel_rfl) (by kernel_rfl) (by kernel_rfl) (fun _ _ _ h => h) (.inl ⟨by kernel_rfl, fun w' hw' => by go_simp⟩) ⟨_, hBd⟩ ?_
    go_simp
    refine held_take 3 (.pointer (some ⟨B, 2, none⟩)) rfl (by kernel_rfl) (by kernel_rfl) (by kernel_rfl) (fun _ _ _ h => h) (.inl ⟨by kernel_rfl, fun w' hw' => by go_simp⟩) ⟨_, hBd⟩ ?_
    go_simp
    refine held_take 4 (.int .i64 c) rfl (by kernel_rfl) (by kernel_rfl) (by kernel_rfl) (fun _ _ _ h => h) (.inl ⟨by kernel_rfl, fun w' hw' => by obtain ⟨xx, hx⟩ := hw'; obtain ⟨⟨k0, k1, k2⟩, _⟩ := tri3 hx; go_simp⟩) ⟨_, hBd⟩ ?_
    go_simp
    refine held_take 7 (.pointer (some ⟨S.p, 0, none⟩)) rfl (by kernel_rfl) (by kernel_rfl) (by kernel_rfl) (fun _ _ _ h => h) (.inl ⟨by kernel_rfl, fun w' hw' => by go_simp⟩) ⟨_, hBd⟩ ?_
    go_simp
    refine held_one 5 rfl rfl (by kernel_rfl) ?_
    refine wp_enter 20 #[.int .i64 c, .int .i64 2] (by first | kernel_rfl | go_simp) (up2_e wd c (by omega)) ?_
    rintro e wz ⟨u, rfl, hu, hwz⟩
    obtain rfl : wd = wz := hwz.symm
    have eu : IntKind.i64.wrap ((b : Int) + 4 + u) = (b : Int) + 4 + u := by rw [IntKind.wrap_i64]; omega
    refine ⟨_, rfl, ⟨_, hBd⟩, ?_⟩
    go_simp
    refine held_take 6 (.int .i64 ((b : Int) + 4 + u)) rfl (by kernel_rfl) (by kernel_rfl) (by kernel_rfl) (fun _ _ _ h => h) (.inl ⟨by kernel_rfl, fun w' hw' => by go_simp⟩) ⟨_, hBd⟩ ?_
    go_simp
    refine held_one 8 rfl rfl (by kernel_rfl) ?_
    refine wp_enter 13 #[.pointer (some ⟨S.p, 0, none⟩), .int .i64 2] (by first | kernel_rfl | go_simp) (next_e hEd.self (by omega) 2 (by omega)) ?_
    rintro e wn ⟨r, rfl, r0, r1, hEn⟩
    replace r1 := r1 (by omega)
    have hEf := hEd.join hEn
    replace hBd := (hEn.chg.block _ (Array.getElem?_eq_some_iff.1 hBd).1 (by omega)).trans hBd
    have ew : IntKind.i64.wrap ((b : Int) + 4 + u + r) = (b : Int) + 4 + u + r := by rw [IntKind.wrap_i64]; omega
    refine ⟨_, rfl, ⟨_, hBd⟩, ?_⟩
    go_simp
    refine held_take 9 (.int .i64 ((b : Int) + 4 + u + r)) rfl (by kernel_rfl) (by kernel_rfl) (by kernel_rfl) (fun _ _ _ h => h) (.inl ⟨by kernel_rfl, fun w' hw' => by go_simp⟩) ⟨_, hBd⟩ ?_
    go_simp
    have ew2 : IntKind.i64.wrap ((b : Int) + 4 + u + r - 1) = (b : Int) + 4 + u + r - 1 := by rw [IntKind.wrap_i64]; omega
    refine held_take 10 (.int .i64 ((b : Int) + 4 + u + r - 1)) rfl (by kernel_rfl) (by kernel_rfl) (by kernel_rfl) (fun _ _ _ h => h) (.inl ⟨by kernel_rfl, fun w' hw' => by go_simp⟩) ⟨_, hBd⟩ ?_
    go_simp
    refine held_take 11 (.pointer (some ⟨B, 0, none⟩)) rfl (by kernel_rfl) (by kernel_rfl) (by kernel_rfl) (fun _ _ _ h => h) (.inl ⟨by kernel_rfl, fun w' hw' => by go_simp⟩) ⟨_, hBd⟩ ?_
    go_simp
    refine held_one 12 rfl rfl (by kernel_rfl) ?_
    obtain ⟨⟨z0, z1, z2⟩, g0, g1, g2⟩ := tri3 hBd
    have hS := (set3 hBd (.int .i64 ((b : Int) + 4 + u + r - 1))).1
    have hEs := hEf.set (b := B) (i := 0) (by omega) (.int .i64 ((b : Int) + 4 + u + r - 1))
    go_simp
    refine ⟨by kernel_rfl, NoPanic.normal ?_⟩
    replace hBd := hS
    generalize wn.setCell ⟨B, 0, none⟩ (.int .i64 ((b : Int) + 4 + u + r - 1)) = w9 at *
    clear z0 z1 z2 g0 g1 g2
    have hBk := hBd
    have hE := hEs
    obtain ⟨⟨z00, z01, z02⟩, g00, g01, g02⟩ := tri3 hBk
    obtain ⟨⟨y00, y01, y02⟩, f00, f01, f02⟩ := tri3 (HB.out _ _ hE)
    have hne : w.heap.size < B := by omega
    go_wp2
    exact bodyPost_ret (v := .agg #[.int .i64 ((b : Int) + 4 + u + r - 1), .int .i64 (b : Int), .int .i64 (c : Int)]) (by simp [results, Tryz.results21, go_sem, *]) rfl ⟨⟨_, _, _, rfl⟩, En.set (En.set (En.set (HJ.out _ _ hE (by omega)) hz _) hz _) hz _⟩
  have f22 : (k == 22) = false := by simpa using e22
  by_cases e23 : k = 23
  · subst e23
    go_wp2_with fail
    refine (next_e hE.self (by omega) 2 (by omega)).mono ?_
    rintro e w4 ⟨r, rfl, r0, r1, h4⟩
    replace r1 := r1 (by omega)
    replace hBk := (h4.chg.block _ (Array.getElem?_eq_some_iff.1 hBk).1 (by omega)).trans hBk
    replace hE := hE.join h4
    clear h4
    obtain ⟨⟨z00, z01, z02⟩, g00, g01, g02⟩ := tri3 hBk
    have y0R := tri3 (HB.out _ _ hE)
    obtain ⟨⟨y00, y01, y02⟩, f00, f01, f02⟩ := y0R
    replace hBk := (set3 hBk (.int .i64 (2048 + r))).1
    replace hE := hE.set (b := B) (i := 0) (by omega) (.int .i64 (2048 + r))
    obtain ⟨⟨z10, z11, z12⟩, g10, g11, g12⟩ := tri3 hBk
    obtain ⟨⟨y10, y11, y12⟩, f10, f11, f12⟩ := tri3 (HB.out _ _ hE)
    have hne : w.heap.size < B := by omega
    go_wp2
    exact bodyPost_ret (v := .agg #[.int .i64 (2048 + r), .int .i64 b, .int .i64 c]) (by simp [results, Tryz.results21, go_sem, *]) rfl ⟨_, _, _, rfl, En.set (En.set (En.set (HJ.out _ _ hE (by omega)) hz _) hz _) hz _⟩
  have f23 : (k == 23) = false := by simpa using e23
  by_cases e24 : k = 24
  · subst e24
    go_wp2_with fail
    refine (next_e hE.self (by omega) 3 (by omega)).mono ?_
    rintro e w4 ⟨r, rfl, r0, r1, h4⟩
    replace r1 := r1 (by omega)
    replace hBk := (h4.chg.block _ (Array.getElem?_eq_some_iff.1 hBk).1 (by omega)).trans hBk
    replace hE := hE.join h4
    clear h4
    obtain ⟨⟨z00, z01, z02⟩, g00, g01, g02⟩ := tri3 hBk
    have y0R := tri3 (HB.out _ _ hE)
    obtain ⟨⟨y00, y01, y02⟩, f00, f01, f02⟩ := y0R
    replace hBk := (set3 hBk (.int .i64 (511 + r))).1
    replace hE := hE.set (b := B) (i := 0) (by omega) (.int .i64 (511 + r))
    obtain ⟨⟨z10, z11, z12⟩, g10, g11, g12⟩ := tri3 hBk
    obtain ⟨⟨y10, y11, y12⟩, f10, f11, f12⟩ := tri3 (HB.out _ _ hE)
    have hne : w.heap.size < B := by omega
    go_wp2
    exact bodyPost_ret (v := .agg #[.int .i64 (511 + r), .int .i64 b, .int .i64 c]) (by simp [results, Tryz.results21, go_sem, *]) rfl ⟨_, _, _, rfl, En.set (En.set (En.set (HJ.out _ _ hE (by omega)) hz _) hz _) hz _⟩
  have f24 : (k == 24) = false := by simpa using e24
  by_cases e25 : k = 25
  · subst e25
    obtain ⟨⟨z00, z01, z02⟩, g00, g01, g02⟩ := tri3 hBk
    have y0R := tri3 (HB.out _ _ hE)
    obtain ⟨⟨y00, y01, y02⟩, f00, f01, f02⟩ := y0R
    replace hBk := (set3 hBk (.int .i64 15)).2.1
    replace hE := hE.set (b := B) (i := 1) (by omega) (.int .i64 15)
    obtain ⟨⟨z10, z11, z12⟩, g10, g11, g12⟩ := tri3 hBk
    obtain ⟨⟨y10, y11, y12⟩, f10, f11, f12⟩ := tri3 (HB.out _ _ hE)
    have hne : w.heap.size < B := by omega
    go_wp2
    exact bodyPost_ret (v := .agg #[.int .i64 a, .int .i64 15, .int .i64 c]) (by simp [results, Tryz.results21, go_sem, *]) rfl ⟨_, _, _, rfl, En.set (En.set (En.set (HJ.out _ _ hE (by omega)) hz _) hz _) hz _⟩
  have f25 : (k == 25) = false := by simpa using e25
  by_cases e26 : k = 26
  · subst e26
    obtain ⟨⟨z00, z01, z02⟩, g00, g01, g02⟩ := tri3 hBk
    have y0R := tri3 (HB.out _ _ hE)
    obtain ⟨⟨y00, y01, y02⟩, f00, f01, f02⟩ := y0R
    replace hBk := (set3 hBk (.int .i64 0)).2.2
    replace hE := hE.set (b := B) (i := 2) (by omega) (.int .i64 0)
    obtain ⟨⟨z10, z11, z12⟩, g10, g11, g12⟩ := tri3 hBk
    obtain ⟨⟨y10, y11, y12⟩, f10, f11, f12⟩ := tri3 (HB.out _ _ hE)
    have hne : w.heap.size < B := by omega
    go_wp2
    exact bodyPost_ret (v := .agg #[.int .i64 a, .int .i64 b, .int .i64 0]) (by simp [results, Tryz.results21, go_sem, *]) rfl ⟨_, _, _, rfl, En.set (En.set (En.set (HJ.out _ _ hE (by omega)) hz _) hz _) hz _⟩
  have f26 : (k == 26) = false := by simpa using e26
  obtain ⟨⟨z00, z01, z02⟩, g00, g01, g02⟩ := tri3 hBk
  obtain ⟨⟨y00, y01, y02⟩, f00, f01, f02⟩ := tri3 (HB.out _ _ hE)
  have hne : w.heap.size < B := by omega
  go_wp2
  exact bodyPost_ret (v := .agg #[.int .i64 a, .int .i64 b, .int .i64 c]) (by simp [results, Tryz.results21, go_sem, *]) rfl ⟨_, _, _, rfl, En.set (En.set (En.set (HJ.out _ _ hE (by omega)) hz _) hz _) hz _⟩

set_option maxRecDepth 20000 in
set_option maxHeartbeats 8000000 in
theorem room_e {S : Sc} {w0 w : World} {A : Nat} (h : En S w0 w A) (hA : A ≤ 200000) :
    Calls Tryz.prog 11 #[.pointer (some ⟨S.p, 0, none⟩)] w fun e w' => ∃ a b c : Int, e = .returned (.agg #[.int .i64 a, .int .i64 b, .int .i64 c]) ∧ En S w0 w' (A + 60) := by
  have hz := h.size
  have hpt0 := h.top
  have hmx : Tryz.prog.follows .mixedOrders = true := by kernel_rfl
  have HJ : Hid (∀ W A', En S (w.alloc (.cells #[.int .i64 0, .int .i64 0, .int .i64 0] 24)) W A' → A' ≤ A + 60 → En S w0 W (A + 60)) := fun W A' k ha => ((h.alloc (.cells #[.int .i64 0, .int .i64 0, .int .i64 0] 24)).join k).mono ha
  have HB : Hid (∀ W A', En S (w.alloc (.cells #[.int .i64 0, .int .i64 0, .int .i64 0] 24)) W A' → W.heap[w.heap.size]? = some (.cells #[.int .i64 0, .int .i64 0, .int .i64 0] 24 (0, 0))) := fun W A' k => (k.chg.block _ (by simp) (by omega)).trans (heap_new w _)
  have hs : En S (w.alloc (.cells #[.int .i64 0, .int .i64 0, .int .i64 0] 24)) (w.alloc (.cells #[.int .i64 0, .int .i64 0, .int .i64 0] 24)) A := (h.alloc _).self
  have hW0 : w.heap.size < (w.alloc (.cells #[.int .i64 0, .int .i64 0, .int .i64 0] 24)).heap.size := by simp
  clear h
  go_enter Tryz.func11, Tryz.ntmps11
  go_wp2_with fail
  generalize w.alloc (.cells #[.int .i64 0, .int .i64 0, .int .i64 0] 24) = W0 at *
  refine (next_e hs (by omega) 36 (by omega)).mono ?_
  rintro e w1 ⟨r, rfl, r0, r1, h1⟩
  replace r1 := r1 (by omega)
  go_wp2_with fail
  refine (next_e h1 (by omega) 12 (by omega)).mono ?_
  rintro e w2 ⟨q, rfl, q0, q1, h2⟩
  replace q1 := q1 (by omega)
  obtain ⟨rn, rfl⟩ : ∃ z : Nat, r = (z : Int) := ⟨r.toNat, by omega⟩
  obtain ⟨qn, rfl⟩ : ∃ z : Nat, q = (z : Int) := ⟨q.toNat, by omega⟩
  have hG : Geo S W0 w2.heap.size (w2.alloc (.cells #[.int .i64 0, .int .i64 (36 + (rn : Int)), .int .i64 (3 + (qn : Int))] 24)) (A + 2) := ⟨0, 36 + rn, 3 + qn, by omega, by omega, by have := heap_new w2 (.cells #[.int .i64 0, .int .i64 (36 + (rn : Int)), .int .i64 (3 + (qn : Int))] 24); simpa using this, h2.alloc _⟩
  have hBs := h2.size
  clear h1 h2 hs
  go_upto_region 2 with fail
  generalize w2.alloc (.cells #[.int .i64 0, .int .i64 (36 + (rn : Int)), .int .i64 (3 + (qn : Int))] 24) = W at *
  generalize w2.heap.size = B at *
  clear r0 r1 q0 q1
  go_cut [] (fun wx => Geo S W0 B wx (A + 3))
  case first =>
    obtain ⟨a, b, c, hb, hc, hBk, hE⟩ := hG
    have hpt := hE.top
    have eb : IntKind.i64.wrap ((b : Int) + 6) = (b : Int) + 6 := by rw [IntKind.wrap_i64]; omega
    refine held_region (fun W' => ∃ x : Int, W'.heap[B]? = some (.cells #[.int .i64 x, .int .i64 b, .int .i64 c] 24 (0, 0))) hmx ?_
    have cD := Chg.drew (Chg.refl 0 0 W)
    have hEd := hE.keep cD
    have hBd := (cD.block _ (Array.getElem?_eq_some_iff.1 hBk).1 (by omega)).trans hBk
    clear hE hBk cD
    generalize W.drew = wd at *
    refine held_take 0 (.pointer (some ⟨B, 1, none⟩)) rfl (by kernel_rfl) (by kernel_rfl) (by kernel_rfl) (fun _ _ _ h => h) (.inl ⟨by kernel_rfl, fun w' hw' => by go_simp⟩) ⟨_, hBd⟩ ?_
    go_simp
    refine held_take 1 (.int .i64 b) rfl (by kernel_rfl) (by kernel_rfl) (by kernel_rfl) (fun _ _ _ h => h) (.inl ⟨by kernel_rfl, fun w' hw' => by obtain ⟨xx, hx⟩ := hw'; obtain ⟨⟨k0, k1, k2⟩, _⟩ := tri3 hx; go_simp⟩) ⟨_, hBd⟩ ?_
    go_simp
    refine held_take 2 (.int .i64 ((b : Int) + 6)) rfl (by kernel_rfl) (by kernel_rfl) (by kernel_rfl) (fun _ _ _ h => h) (.inl ⟨by kernel_rfl, fun w' hw' => by go_simp⟩) ⟨_, hBd⟩ ?_
    go_simp
    refine held_take 3 (.pointer (some ⟨B, 2, none⟩)) rfl (by kernel_rfl) (by kernel_rfl) (by kernel_rfl) (fun _ _ _ h => h) (.inl ⟨by kernel_rfl, fun w' hw' => by go_simp⟩) ⟨_, hBd⟩ ?_
    go_simp
    refine held_take 4 (.int .i64 c) rfl (by kernel_rfl) (by kernel_rfl) (by kernel_rfl) (fun _ _ _ h => h) (.inl ⟨by kernel_rfl, fun w' hw' => by obtain ⟨xx, hx⟩ := hw'; obtain ⟨⟨k0, k1, k2⟩, _⟩ := tri3 hx; go_simp⟩) ⟨_, hBd⟩ ?_
    go_simp
    refine held_take 7 (.pointer (some ⟨S.p, 0, none⟩)) rfl (by kernel_rfl) (by kernel_rfl) (by kernel_rfl) (fun _ _ _ h => h) (.inl ⟨by kernel_rfl, fun w' hw' => by go_simp⟩) ⟨_, hBd⟩ ?_
    go_simp
    refine held_one 5 rfl rfl (by kernel_rfl) ?_
    refine wp_enter 20 #[.int .i64 c, .int .i64 2] (by first | kernel_rfl | go_simp) (up2_e wd c (by omega)) ?_
    rintro e wz ⟨u, rfl, hu, hwz⟩
    obtain rfl : wd = wz := hwz.symm
    have eu : IntKind.i64.wrap ((b : Int) + 6 + u) = (b : Int) + 6 + u := by rw [IntKind.wrap_i64]; omega
    refine ⟨_, rfl, ⟨_, hBd⟩, ?_⟩
    go_simp
    refine held_take 6 (.int .i64 ((b : Int) + 6 + u)) rfl (by kernel_rfl) (by kernel_rfl) (by kernel_rfl) (fun _ _ _ h => h) (.inl ⟨by kernel_rfl, fun w' hw' => by go_simp⟩) ⟨_, hBd⟩ ?_
    go_simp
    refine held_one 8 rfl rfl (by kernel_rfl) ?_
    refine wp_enter 13 #[.pointer (some ⟨S.p, 0, none⟩), .int .i64 60] (by first | kernel_rfl | go_simp) (next_e hEd.self (by omega) 60 (by omega)) ?_
    rintro e wn ⟨r, rfl, r0, r1, hEn⟩
    replace r1 := r1 (by omega)
    have hEf := hEd.join hEn
    replace hBd := (hEn.chg.block _ (Array.getElem?_eq_some_iff.1 hBd).1 (by omega)).trans hBd
    have ew : IntKind.i64.wrap ((b : Int) + 6 + u + r) = (b : Int) + 6 + u + r := by rw [IntKind.wrap_i64]; omega
    refine ⟨_, rfl, ⟨_, hBd⟩, ?_⟩
    go_simp
    refine held_take 9 (.int .i64 ((b : Int) + 6 + u + r)) rfl (by kernel_rfl) (by kernel_rfl) (by kernel_rfl) (fun _ _ _ h => h) (.inl ⟨by kernel_rfl, fun w' hw' => by go_simp⟩) ⟨_, hBd⟩ ?_
    go_simp
    refine held_take 10 (.pointer (some ⟨B, 0, none⟩)) rfl (by kernel_rfl) (by kernel_rfl) (by kernel_rfl) (fun _ _ _ h => h) (.inl ⟨by kernel_rfl, fun w' hw' => by go_simp⟩) ⟨_, hBd⟩ ?_
    go_simp
    refine held_one 11 rfl rfl (by kernel_rfl) ?_
    obtain ⟨⟨z0, z1, z2⟩, g0, g1, g2⟩ := tri3 hBd
    have hS := (set3 hBd (.int .i64 ((b : Int) + 6 + u + r))).1
    have hEs := hEf.set (b := B) (i := 0) (by omega) (.int .i64 ((b : Int) + 6 + u + r))
    go_simp
    refine ⟨by kernel_rfl, NoPanic.normal ?_⟩
    go_wp2
    go_meet
    exact ⟨_, b, c, hb, hc, hS, hEs.mono (by omega)⟩
  case rest =>
  clear hG
  have hG : Geo S W0 B wc (A + 3) := hcut
  generalize wc = W2 at *
  clear hcut
  obtain ⟨a, b, c, hb, hc, hBk, hE⟩ := hG
  have hpt := hE.top
  go_wp2_with fail
  refine (chance_e hE.self (by omega) 12 (by omega)).mono ?_
  rintro e w3 ⟨b1, rfl, h3⟩
  replace hBk := (h3.chg.block _ (Array.getElem?_eq_some_iff.1 hBk).1 (by omega)).trans hBk
  replace hE := hE.join h3
  clear h3
  cases b1
  case true =>
    go_wp2_with fail
    refine (geometry_e hE (by omega)).mono ?_
    rintro e w4 ⟨x, y, z, rfl, h4⟩
    obtain ⟨⟨y0, y1, y2⟩, f0, f1, f2⟩ := tri3 (HB.out _ _ h4)
    go_wp2
    exact bodyPost_ret (v := .agg #[.int .i64 x, .int .i64 y, .int .i64 z]) (by simp [results, Tryz.results11, go_sem, *]) rfl ⟨_, _, _, rfl, En.set (En.set (En.set (HJ.out _ _ h4 (by omega)) hz _) hz _) hz _⟩
  go_wp2_with fail
  refine (chance_e hE.self (by omega) 12 (by omega)).mono ?_
  rintro e w4 ⟨b2, rfl, h4⟩
  replace hBk := (h4.chg.block _ (Array.getElem?_eq_some_iff.1 hBk).1 (by omega)).trans hBk
  replace hE := hE.join h4
  clear h4
  cases b2
  case true =>
    go_wp2_with fail
    refine (next_e hE.self (by omega) 40 (by omega)).mono ?_
    rintro e w5 ⟨r, rfl, r0, r1, h5⟩
    replace r1 := r1 (by omega)
    replace hBk := (h5.chg.block _ (Array.getElem?_eq_some_iff.1 hBk).1 (by omega)).trans hBk
    replace hE := hE.join h5
    obtain ⟨rn, rfl⟩ : ∃ z : Nat, r = (z : Int) := ⟨r.toNat, by omega⟩
    obtain ⟨⟨z0, z1, z2⟩, g0, g1, g2⟩ := tri3 hBk
    have hG : Geo S W0 B (w5.setCell ⟨B, 1, none⟩ (.int .i64 (180 + (rn : Int)))) (A + 6) := ⟨a, 180 + rn, c, by omega, by omega, by have := (set3 hBk (.int .i64 (180 + (rn : Int)))).2.1; simpa using this, (hE.set (b := B) (i := 1) (by omega) (.int .i64 (180 + (rn : Int)))).mono (by omega)⟩
    go_wp2_with fail
    generalize w5.setCell ⟨B, 1, none⟩ (.int .i64 (180 + (rn : Int))) = w6 at *
    clear h5 hE hBk z0 z1 z2 g0 g1 g2 hb hc a b c r0 r1
    obtain ⟨a, b, c, hb, hc, hBk, hE⟩ := hG
    have hpt := hE.top
    have eb : IntKind.i64.wrap ((b : Int) + 60) = (b : Int) + 60 := by rw [IntKind.wrap_i64]; omega
    refine held_region (fun W' => ∃ x : Int, W'.heap[B]? = some (.cells #[.int .i64 x, .int .i64 b, .int .i64 c] 24 (0, 0))) hmx ?_
    have cD := Chg.drew (Chg.refl 0 0 w6)
    have hEd := hE.keep cD
    have hBd := (cD.block _ (Array.getElem?_eq_some_iff.1 hBk).1 (by omega)).trans hBk
    clear hE hBk cD
    generalize w6.drew = wd at *
    refine held_take 0 (.pointer (some ⟨B, 1, none⟩)) rfl (by kernel_rfl) (by kernel_rfl) (by kernel_rfl) (fun _ _ _ h => h) (.inl ⟨by kernel_rfl, fun w' hw' => by go_simp⟩) ⟨_, hBd⟩ ?_
    go_simp
    refine held_take 1 (.int .i64 b) rfl (by kernel_rfl) (by kernel_rfl) (by kernel_rfl) (fun _ _ _ h => h) (.inl ⟨by kernel_rfl, fun w' hw' => by obtain ⟨xx, hx⟩ := hw'; obtain ⟨⟨k0, k1, k2⟩, _⟩ := tri3 hx; go_simp⟩) ⟨_, hBd⟩ ?_
    go_simp
    refine held_take 2 (.int .i64 ((b : Int) + 60)) rfl (by kernel_rfl) (by kernel_rfl) (by kernel_rfl) (fun _ _ _ h => h) (.inl ⟨by kernel_rfl, fun w' hw' => by go_simp⟩) ⟨_, hBd⟩ ?_
    go_simp
    refine held_take 3 (.pointer (some ⟨S.p, 0, none⟩)) rfl (by kernel_rfl) (by kernel_rfl) (by kernel_rfl) (fun _ _ _ h => h) (.inl ⟨by kernel_rfl, fun w' hw' => by go_simp⟩) ⟨_, hBd⟩ ?_
    go_simp
    refine held_one 4 rfl rfl (by kernel_rfl) ?_
    refine wp_enter 13 #[.pointer (some ⟨S.p, 0, none⟩), .int .i64 40] (by first | kernel_rfl | go_simp) (next_e hEd.self (by omega) 40 (by omega)) ?_
    rintro e wn ⟨r, rfl, r0, r1, hEn⟩
    replace r1 := r1 (by omega)
    have hEf := hEd.join hEn
    replace hBd := (hEn.chg.block _ (Array.getElem?_eq_some_iff.1 hBd).1 (by omega)).trans hBd
    have ew : IntKind.i64.wrap ((b : Int) + 60 + r) = (b : Int) + 60 + r := by rw [IntKind.wrap_i64]; omega
    refine ⟨_, rfl, ⟨_, hBd⟩, ?_⟩
    go_simp
    refine held_take 5 (.int .i64 ((b : Int) + 60 + r)) rfl (by kernel_rfl) (by kernel_rfl) (by kernel_rfl) (fun _ _ _ h => h) (.inl ⟨by kernel_rfl, fun w' hw' => by go_simp⟩) ⟨_, hBd⟩ ?_
    go_simp
    refine held_take 6 (.pointer (some ⟨B, 0, none⟩)) rfl (by kernel_rfl) (by kernel_rfl) (by kernel_rfl) (fun _ _ _ h => h) (.inl ⟨by kernel_rfl, fun w' hw' => by go_simp⟩) ⟨_, hBd⟩ ?_
    go_simp
    refine held_one 7 rfl rfl (by kernel_rfl) ?_
    obtain ⟨⟨z0, z1, z2⟩, g0, g1, g2⟩ := tri3 hBd
    have hS := (set3 hBd (.int .i64 ((b : Int) + 60 + r))).1
    have hEs := hEf.set (b := B) (i := 0) (by omega) (.int .i64 ((b : Int) + 60 + r))
    go_simp
    refine ⟨by kernel_rfl, NoPanic.normal ?_⟩
    replace hBd := hS
    generalize wn.setCell ⟨B, 0, none⟩ (.int .i64 ((b : Int) + 60 + r)) = w9 at *
    clear z0 z1 z2 g0 g1 g2
    have hBk := hBd
    have hE := hEs
    obtain ⟨⟨z00, z01, z02⟩, g00, g01, g02⟩ := tri3 hBk
    obtain ⟨⟨y00, y01, y02⟩, f00, f01, f02⟩ := tri3 (HB.out _ _ hE)
    have hne : w.heap.size < B := by omega
    go_wp2
    exact bodyPost_ret (v := .agg #[.int .i64 ((b : Int) + 60 + r), .int .i64 (b : Int), .int .i64 (c : Int)]) (by simp [results, Tryz.results11, go_sem, *]) rfl ⟨_, _, _, rfl, En.set (En.set (En.set (HJ.out _ _ hE (by omega)) hz _) hz _) hz _⟩
  obtain ⟨⟨z00, z01, z02⟩, g00, g01, g02⟩ := tri3 hBk
  obtain ⟨⟨y00, y01, y02⟩, f00, f01, f02⟩ := tri3 (HB.out _ _ hE)
  have hne : w.heap.size < B := by omega
  go_wp2
  exact bodyPost_ret (v := .agg #[.int .i64 a, .int .i64 b, .int .i64 c]) (by simp [results, Tryz.results11, go_sem, *]) rfl ⟨_, _, _, rfl, En.set (En.set (En.set (HJ.out _ _ hE (by omega)) hz _) hz _) hz _⟩

end Go.Proofs.YtacfkgfemmgpkaaGreatDoor
