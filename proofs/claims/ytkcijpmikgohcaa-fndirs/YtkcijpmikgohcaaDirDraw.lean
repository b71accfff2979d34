/- Entries as they are drawn. (made by tools/mkdirdraw.py) -/
import Derived.Test.YtkcijpmikgohcaaPathDraw
import Derived.Test.YtkcijpmikgohcaaEntApp
import Derived.Test.YtkcijpmikgohcaaHeld
import Derived.Test.YtkcijpmikgohcaaWeak
namespace Go.Proofs.Ytkcijpmikgohcaa
open Go.RowKit

/-- The name that is never drawn. -/
def nsN : ByteArray := ⟨#[110, 111, 32, 115, 117, 99, 104, 32, 110, 97, 109, 101, 33]⟩
theorem ns_size {t : ByteArray} (h : t.size ≠ 13) : t ≠ nsN := fun e => h (by rw [e]; rfl)
theorem oddA_atN : ∀ i, i < 12 → ∃ t : ByteArray, oddA[i]? = some (.string t) ∧ t.size ≤ 16 ∧ t ≠ nsN := by
  intro i hi
  have : i = 0 ∨ i = 1 ∨ i = 2 ∨ i = 3 ∨ i = 4 ∨ i = 5 ∨ i = 6 ∨ i = 7 ∨ i = 8 ∨ i = 9 ∨ i = 10 ∨ i = 11 := by omega
  rcases this with rfl | rfl | rfl | rfl | rfl | rfl | rfl | rfl | rfl | rfl | rfl | rfl <;> exact ⟨_, rfl, by decide, ns_size (by decide)⟩

set_option maxRecDepth 20000 in
set_option maxHeartbeats 2000000 in
theorem l10DrawNameN_calls (w : World) (p at' sz : Nat) {lo hi : Nat} {cv : Value} {code : List Int} (hB : Byt code) (hcl : code.length ≤ 1048576) (hat : at' ≤ 1000000000)
    (hs : SrcAt w p cv at' sz) (hc : View w lo hi .u8 cv code) (hp : p < lo ∨ hi ≤ p) :
    Calls Try.prog 29 #[.pointer (some ⟨p, 0, none⟩)] w fun e w' => ∃ (t : ByteArray) (m : Nat), e = .returned (.string t) ∧ (t.size ≤ 16 ∧ t ≠ nsN) ∧ m ≤ at' + 2 ∧ SrcAt w' p cv m sz ∧ Chg p (p + 1) w w' := by
  have hN := l1Next_calls w p at' sz 40 (by omega) hB hcl (by omega) hs hc hp
  have hpl : p < w.heap.size := (Array.getElem?_eq_some_iff.1 hs).1
  go_enter Try.func29, Try.ntmps29
  go_wp2_with fail
  refine hN.mono ?_
  rintro e w1 ⟨rfl, s1, c1⟩
  have HC1 : Hid (Chg p (p + 1) w w1) := c1
  have HS1 : Hid (SrcAt w1 p cv (at' + 1) sz) := s1
  have hr := nxt_range code at' 40
  generalize nxt code at' 40 = k at *
  clear hN
  by_cases e0 : k = 0
  · subst e0
    go_wp2
    go_ret
    exact ⟨_, at' + 1, rfl, ⟨by decide, by decide⟩, by omega, HS1.out, HC1.out⟩
  by_cases e1 : k = 1
  · subst e1
    go_wp2
    go_ret
    exact ⟨_, at' + 1, rfl, ⟨by decide, by decide⟩, by omega, HS1.out, HC1.out⟩
  have b0 : (k == 0) = false := by simpa using e0
  have b1 : (k == 1) = false := by simpa using e1
  have hN := l1Next_calls w1 p (at' + 1) sz 5 (by omega) hB hcl (by omega) s1 (hc.chg c1 (by omega)) hp
  clear s1 c1 hr
  go_wp2_with fail
  refine hN.mono ?_
  rintro e w2 ⟨rfl, s2, c2⟩
  have hr := nxt_range code (at' + 1) 5
  generalize nxt code (at' + 1) 5 = x at *
  have hx := hr.2 (by omega)
  have hx0 := hr.1
  have C3 : Chg 0 0 w2 (w2.alloc (.cells #[.int .u8 (97 + x)] 5)) := Chg.alloc (Chg.refl 0 0 w2) _
  have HC3 : Hid (Chg p (p + 1) w (w2.alloc (.cells #[.int .u8 (97 + x)] 5))) := Chg.alloc (HC1.out.trans c2) _
  have HS3 : Hid (SrcAt (w2.alloc (.cells #[.int .u8 (97 + x)] 5)) p cv (at' + 1 + 1) sz) := s2.chg C3 (by omega)
  have X := ((byte_own w2 0 (97 + x) (by omega)).view (hi := w2.heap.size + 1) (by show 1 ≤ _; omega) (by intro g hg; simp [Value.ownBlock] at hg; omega)).str
  have q1 : IntKind.i64.wrap (97 + x) = 97 + x := by rw [IntKind.wrap_i64]; omega
  have q2 : IntKind.u8.wrap (97 + x) = 97 + x := by rw [IntKind.wrap_u8]; omega
  clear hN s2 c2 C3 hr
  go_wp2
  go_ret
  exact ⟨_, at' + 2, rfl, ⟨by rw [strOfNums_size]; show 1 ≤ 16; omega, ns_size (by rw [strOfNums_size]; show 1 ≠ 13; omega)⟩, by omega, HS3.out, HC3.out⟩

set_option maxRecDepth 20000 in
set_option maxHeartbeats 2000000 in
theorem l10DrawOddN_calls (w : World) (p at' sz : Nat) {lo hi : Nat} {cv : Value} {code : List Int} (hB : Byt code) (hcl : code.length ≤ 1048576) (hat : at' ≤ 1000000000)
    (hs : SrcAt w p cv at' sz) (hc : View w lo hi .u8 cv code) (hp : p < lo ∨ hi ≤ p) :
    Calls Try.prog 30 #[.pointer (some ⟨p, 0, none⟩)] w fun e w' => ∃ (t : ByteArray) (m : Nat), e = .returned (.string t) ∧ (t.size ≤ 16 ∧ t ≠ nsN) ∧ m ≤ at' + 1 ∧ SrcAt w' p cv m sz ∧ Chg p (p + 1) w w' := by
  have hpl : p < w.heap.size := (Array.getElem?_eq_some_iff.1 hs).1
  go_enter Try.func30, Try.ntmps30
  go_wp2_with fail
  have CA : Chg 0 0 w (w.alloc (.cells oddA 9)) := Chg.alloc (Chg.refl 0 0 w) _
  have HA : Hid (∀ i : Nat, (w.alloc (.cells oddA 9)).cell? ⟨w.heap.size, i, none⟩ = oddA[i]?) := fun i => by have := new_heap w oddA 9; simp only [World.cell?, this]; simp
  have HC0 : Hid (Chg p (p + 1) w (w.alloc (.cells oddA 9))) := Chg.alloc (Chg.refl _ _ w) _
  have hN := l1Next_calls (w.alloc (.cells oddA 9)) p at' sz 12 (by omega) hB hcl (by omega) (hs.chg CA (by omega)) (hc.chg CA (by omega)) hp
  refine hN.mono ?_
  rintro e w1 ⟨rfl, s1, c1⟩
  have HC1 : Hid (Chg p (p + 1) w w1) := HC0.out.trans c1
  have HS1 : Hid (SrcAt w1 p cv (at' + 1) sz) := s1
  have hr := nxt_range code at' 12
  generalize nxt code at' 12 = x at *
  obtain ⟨i, rfl⟩ : ∃ i : Nat, x = i := ⟨x.toNat, by omega⟩
  have hi' := hr.2 (by omega)
  obtain ⟨t, ht, hts⟩ := oddA_atN i (by omega)
  have hcell := c1.cell ((HA.out i).trans ht) (by show w.heap.size < p ∨ p + 1 ≤ w.heap.size; omega)
  clear hN s1 c1 hr ht HA HC0 CA
  go_wp2
  go_ret
  exact ⟨_, at' + 1, rfl, hts, by omega, HS1.out, HC1.out⟩

theorem ent_set1 {w : World} {b : Nat} {q : Int} {s s' : ByteArray} {T : TypeId} (h : w.heap[b]? = some (.cells #[.int .i64 q, .string s] T (0, 0))) : (w.setCell ⟨b, 1, none⟩ (.string s')).heap[b]? = some (.cells #[.int .i64 q, .string s'] T (0, 0)) := by
  simp [World.setCell, Array.getElem?_modify, h]
theorem ent_set0 {w : World} {b : Nat} {q q' : Int} {s : ByteArray} {T : TypeId} (h : w.heap[b]? = some (.cells #[.int .i64 q, .string s] T (0, 0))) : (w.setCell ⟨b, 0, none⟩ (.int .i64 q')).heap[b]? = some (.cells #[.int .i64 q', .string s] T (0, 0)) := by
  simp [World.setCell, Array.getElem?_modify, h]
theorem ent_four {w : World} {b : Nat} {q : Int} {s : ByteArray} {T : TypeId} (h : w.heap[b]? = some (.cells #[.int .i64 q, .string s] T (0, 0))) : w.cell? ⟨b, 0, none⟩ = some (.int .i64 q) ∧ w.cell? ⟨b, 1, none⟩ = some (.string s) ∧ w.frozen? ⟨b, 0, none⟩ = false ∧ w.frozen? ⟨b, 1, none⟩ = false := by
  simp [World.cell?, World.frozen?, h]

set_option maxRecDepth 20000 in
set_option maxHeartbeats 2000000 in
theorem l10DrawEntry_calls (w : World) (p at' sz : Nat) {lo hi : Nat} {cv : Value} {code : List Int} (hB : Byt code) (hcl : code.length ≤ 1048576) (hat : at' ≤ 100000000)
    (hs : SrcAt w p cv at' sz) (hc : View w lo hi .u8 cv code) (hp : p < lo ∨ hi ≤ p) :
    Calls Try.prog 21 #[.pointer (some ⟨p, 0, none⟩)] w fun e w' => ∃ (q : Int) (t : ByteArray) (m : Nat), e = .returned (.agg #[.int .i64 q, .string t]) ∧ (t.size ≤ 16 ∧ t ≠ nsN) ∧ m ≤ at' + 6 ∧ SrcAt w' p cv m sz ∧ Chg p (p + 1) w w' := by
  have hpl : p < w.heap.size := (Array.getElem?_eq_some_iff.1 hs).1
  have C0 : Chg 0 0 w (w.alloc (.cells #[.int .i64 0, .string ⟨#[]⟩] 30)) := Chg.alloc (Chg.refl 0 0 w) _
  have hz0 := heap_new w (.cells #[.int .i64 0, .string ⟨#[]⟩] 30)
  have s0 := hs.chg C0 (by omega)
  have v0 := hc.chg C0 (by omega)
  have HC0 : Chg p (p + 1) w (w.alloc (.cells #[.int .i64 0, .string ⟨#[]⟩] 30)) := Chg.alloc (Chg.refl _ _ w) _
  have hN := l1Next_calls (w.alloc (.cells #[.int .i64 0, .string ⟨#[]⟩] 30)) p at' sz 30 (by omega) hB hcl (by omega) s0 v0 hp
  go_enter Try.func21, Try.ntmps21
  go_wp2_with fail
  refine hN.mono ?_
  rintro e w1 ⟨rfl, s1, c1⟩
  have hz1 := (c1.block _ (Array.getElem?_eq_some_iff.1 hz0).1 (by omega)).trans hz0
  have HC1 := HC0.trans c1
  have v1 := v0.chg c1 (by omega)
  have hr := nxt_range code at' 30
  generalize nxt code at' 30 = x at *
  have hx := hr.2 (by omega)
  have hx0 := hr.1
  clear hN s0 v0 c1 hz0 C0 HC0 hr
  have hN := l10DrawNameN_calls w1 p (at' + 1) sz hB hcl (by omega) s1 v1 hp
  go_wp2_with fail
  refine hN.mono ?_
  rintro e w2 ⟨t, m, rfl, ht, hm, s2, c2⟩
  have hz2 := (c2.block _ (Array.getElem?_eq_some_iff.1 hz1).1 (by omega)).trans hz1
  have C3 : Chg 0 0 w2 (w2.alloc (.cells #[.int .i64 (1 + x), .string t] 30)) := Chg.alloc (Chg.refl 0 0 w2) _
  have hb3 := heap_new w2 (.cells #[.int .i64 (1 + x), .string t] 30)
  have hz3 := (C3.block _ (Array.getElem?_eq_some_iff.1 hz2).1 (by omega)).trans hz2
  have HC3 : Chg p (p + 1) w (w2.alloc (.cells #[.int .i64 (1 + x), .string t] 30)) := Chg.alloc (HC1.trans c2) _
  have s3 := s2.chg C3 (by omega)
  have v3 := (v1.chg c2 (by omega)).chg C3 (by omega)
  have hl2 := (Array.getElem?_eq_some_iff.1 hz2).1
  have hpl2 : p < w2.heap.size := (Array.getElem?_eq_some_iff.1 s2).1
  have hN3 := l1Next_calls (w2.alloc (.cells #[.int .i64 (1 + x), .string t] 30)) p m sz 30 (by omega) hB hcl (by omega) s3 v3 hp
  clear hN s1 c2 hz1 HC1 v1 s2 C3 hz2
  go_wp2_with fail
  refine hN3.mono ?_
  rintro e w4 ⟨rfl, s4, c4⟩
  have hz4 := (c4.block _ (Array.getElem?_eq_some_iff.1 hz3).1 (by omega)).trans hz3
  have hb4 := (c4.block _ (Array.getElem?_eq_some_iff.1 hb3).1 (by omega)).trans hb3
  have HC4 := HC3.trans c4
  have v4 := v3.chg c4 (by omega)
  have hr := nxt_range code m 30
  generalize nxt code m 30 = k at *
  clear hN3 s3 c4 hz3 hb3 HC3 v3
  have HSm : Hid (SrcAt w4 p cv (m + 1) sz) := s4
  have HCm : Hid (Chg p (p + 1) w w4) := HC4
  have fin : ∀ (W : World) (q : Int) (s : ByteArray) (mm : Nat), W.heap[w2.heap.size]? = some (.cells #[.int .i64 q, .string s] 30 (0, 0)) → W.heap[w.heap.size]? = some (.cells #[.int .i64 0, .string ⟨#[]⟩] 30 (0, 0)) → SrcAt W p cv mm sz → Chg p (p + 1) w W →
      SrcAt ((W.setCell ⟨w.heap.size, 0, none⟩ (.int .i64 q)).setCell ⟨w.heap.size, 1, none⟩ (.string s)) p cv mm sz ∧ Chg p (p + 1) w ((W.setCell ⟨w.heap.size, 0, none⟩ (.int .i64 q)).setCell ⟨w.heap.size, 1, none⟩ (.string s)) := by
    intro W q s mm _ _ hs hc
    have C : Chg w.heap.size (w.heap.size + 1) W ((W.setCell ⟨w.heap.size, 0, none⟩ (.int .i64 q)).setCell ⟨w.heap.size, 1, none⟩ (.string s)) := Chg.setCell (Chg.setCell (Chg.refl _ _ _) (p := ⟨w.heap.size, 0, none⟩) (Or.inl ⟨Nat.le_refl _, Nat.lt_succ_self _⟩) _) (p := ⟨w.heap.size, 1, none⟩) (Or.inl ⟨Nat.le_refl _, Nat.lt_succ_self _⟩) _
    exact ⟨hs.chg C (by omega), hc.step C (by omega)⟩
  have fin2 : ∀ (W : World) (q : Int) (s : ByteArray) (mm : Nat), W.heap[w2.heap.size]? = some (.cells #[.int .i64 q, .string s] 30 (0, 0)) → W.heap[w.heap.size]? = some (.cells #[.int .i64 0, .string ⟨#[]⟩] 30 (0, 0)) → SrcAt W p cv mm sz → Chg p (p + 1) w W →
      ∀ (y : Value), SrcAt (W.setCell ⟨w2.heap.size, 1, none⟩ y) p cv mm sz ∧ Chg p (p + 1) w (W.setCell ⟨w2.heap.size, 1, none⟩ y) ∧ SrcAt (W.setCell ⟨w2.heap.size, 0, none⟩ y) p cv mm sz ∧ Chg p (p + 1) w (W.setCell ⟨w2.heap.size, 0, none⟩ y) ∧ (W.setCell ⟨w2.heap.size, 1, none⟩ y).heap[w.heap.size]? = some (.cells #[.int .i64 0, .string ⟨#[]⟩] 30 (0, 0)) ∧ (W.setCell ⟨w2.heap.size, 0, none⟩ y).heap[w.heap.size]? = some (.cells #[.int .i64 0, .string ⟨#[]⟩] 30 (0, 0)) := by
    intro W q s mm _ hz hs hc y
    have C1 : Chg w2.heap.size (w2.heap.size + 1) W (W.setCell ⟨w2.heap.size, 1, none⟩ y) := Chg.setCell (Chg.refl _ _ _) (p := ⟨w2.heap.size, 1, none⟩) (Or.inl ⟨Nat.le_refl _, Nat.lt_succ_self _⟩) _
    have C2 : Chg w2.heap.size (w2.heap.size + 1) W (W.setCell ⟨w2.heap.size, 0, none⟩ y) := Chg.setCell (Chg.refl _ _ _) (p := ⟨w2.heap.size, 0, none⟩) (Or.inl ⟨Nat.le_refl _, Nat.lt_succ_self _⟩) _
    have hlz := (Array.getElem?_eq_some_iff.1 hz).1
    exact ⟨hs.chg C1 (by omega), hc.step C1 (by omega), hs.chg C2 (by omega), hc.step C2 (by omega), (C1.block _ hlz (by omega)).trans hz, (C2.block _ hlz (by omega)).trans hz⟩
  by_cases k0 : k = 0
  · subst k0
    have hN := l10DrawOddN_calls w4 p (m + 1) sz hB hcl (by omega) s4 v4 hp
    go_wp2_with fail
    refine hN.mono ?_
    rintro e w5 ⟨t5, m5, rfl, ht5, hm5, s5, c5⟩
    have hz5 := (c5.block _ (Array.getElem?_eq_some_iff.1 hz4).1 (by omega)).trans hz4
    have hb5 := (c5.block _ (Array.getElem?_eq_some_iff.1 hb4).1 (by omega)).trans hb4
    have HC5 := HC4.trans c5
    obtain ⟨s6, HC6, _, _, hz6, _⟩ := fin2 w5 _ _ m5 hb5 hz5 s5 HC5 (.string t5)
    have hb6 := ent_set1 (s' := t5) hb5
    obtain ⟨e0, e1, g0, g1⟩ := ent_four hb5
    obtain ⟨x0, x1, _, _⟩ := ent_four hb6
    obtain ⟨r0, r1, y0, y1⟩ := ent_four hz6
    obtain ⟨fs, fc⟩ := fin _ _ _ _ hb6 hz6 s6 HC6
    have HF : Hid (SrcAt (((w5.setCell ⟨w2.heap.size, 1, none⟩ (.string t5)).setCell ⟨w.heap.size, 0, none⟩ (.int .i64 (1 + x))).setCell ⟨w.heap.size, 1, none⟩ (.string t5)) p cv m5 sz ∧ Chg p (p + 1) w (((w5.setCell ⟨w2.heap.size, 1, none⟩ (.string t5)).setCell ⟨w.heap.size, 0, none⟩ (.int .i64 (1 + x))).setCell ⟨w.heap.size, 1, none⟩ (.string t5))) := ⟨fs, fc⟩
    clear hN fin fin2 hz5 hb5 hz4 hb4 HC4 HC5 s4 s5 s6 HC6 hz6 hb6 c5 fs fc v4 hs hc
    go_wp2
    exact bodyPost_ret (v := .agg #[.int .i64 (1 + x), .string t5]) (by simp [results, Try.results21, go_sem, *]) rfl ⟨_, t5, m5, rfl, ht5, by omega, HF.out.1, HF.out.2⟩
  have b0 : (k == 0) = false := by simpa using k0
  by_cases k1 : k = 1
  · subst k1
    have hN := l1Next_calls w4 p (m + 1) sz 2 (by omega) hB hcl (by omega) s4 v4 hp
    go_wp2_with fail
    refine hN.mono ?_
    rintro e w5 ⟨rfl, s5, c5⟩
    have hr5 := nxt_range code (m + 1) 2
    generalize nxt code (m + 1) 2 = z at *
    have hz1' := hr5.2 (by omega)
    have hz0' := hr5.1
    have hz5 := (c5.block _ (Array.getElem?_eq_some_iff.1 hz4).1 (by omega)).trans hz4
    have hb5 := (c5.block _ (Array.getElem?_eq_some_iff.1 hb4).1 (by omega)).trans hb4
    have HC5 := HC4.trans c5
    obtain ⟨_, _, s6, HC6, _, hz6⟩ := fin2 w5 _ _ (m + 1 + 1) hb5 hz5 s5 HC5 (.int .i64 (256 + z))
    have hb6 := ent_set0 (q' := 256 + z) hb5
    obtain ⟨e0, e1, g0, g1⟩ := ent_four hb5
    obtain ⟨x0, x1, _, _⟩ := ent_four hb6
    obtain ⟨r0, r1, y0, y1⟩ := ent_four hz6
    obtain ⟨fs, fc⟩ := fin _ _ _ _ hb6 hz6 s6 HC6
    have HF : Hid (SrcAt (((w5.setCell ⟨w2.heap.size, 0, none⟩ (.int .i64 (256 + z))).setCell ⟨w.heap.size, 0, none⟩ (.int .i64 (256 + z))).setCell ⟨w.heap.size, 1, none⟩ (.string t)) p cv (m + 1 + 1) sz ∧ Chg p (p + 1) w (((w5.setCell ⟨w2.heap.size, 0, none⟩ (.int .i64 (256 + z))).setCell ⟨w.heap.size, 0, none⟩ (.int .i64 (256 + z))).setCell ⟨w.heap.size, 1, none⟩ (.string t))) := ⟨fs, fc⟩
    clear hN fin fin2 hz5 hb5 hz4 hb4 HC4 HC5 s4 s5 s6 HC6 hz6 hb6 c5 fs fc v4 hs hc
    go_wp2
    exact bodyPost_ret (v := .agg #[.int .i64 (256 + z), .string t]) (by simp [results, Try.results21, go_sem, *]) rfl ⟨_, t, m + 1 + 1, rfl, ht, by omega, HF.out.1, HF.out.2⟩
  have b1 : (k == 1) = false := by simpa using k1
  by_cases k2 : k = 2
  · subst k2
    have hN := l1Next_calls w4 p (m + 1) sz 2 (by omega) hB hcl (by omega) s4 v4 hp
    go_wp2_with fail
    refine hN.mono ?_
    rintro e w5 ⟨rfl, s5, c5⟩
    have hr5 := nxt_range code (m + 1) 2
    generalize nxt code (m + 1) 2 = z at *
    have hz1' := hr5.2 (by omega)
    have hz0' := hr5.1
    have hz5 := (c5.block _ (Array.getElem?_eq_some_iff.1 hz4).1 (by omega)).trans hz4
    have hb5 := (c5.block _ (Array.getElem?_eq_some_iff.1 hb4).1 (by omega)).trans hb4
    have HC5 := HC4.trans c5
    obtain ⟨_, _, s6, HC6, _, hz6⟩ := fin2 w5 _ _ (m + 1 + 1) hb5 hz5 s5 HC5 (.int .i64 (z - 1))
    have hb6 := ent_set0 (q' := z - 1) hb5
    obtain ⟨e0, e1, g0, g1⟩ := ent_four hb5
    obtain ⟨x0, x1, _, _⟩ := ent_four hb6
    obtain ⟨r0, r1, y0, y1⟩ := ent_four hz6
    obtain ⟨fs, fc⟩ := fin _ _ _ _ hb6 hz6 s6 HC6
    have HF : Hid (SrcAt (((w5.setCell ⟨w2.heap.size, 0, none⟩ (.int .i64 (z - 1))).setCell ⟨w.heap.size, 0, none⟩ (.int .i64 (z - 1))).setCell ⟨w.heap.size, 1, none⟩ (.string t)) p cv (m + 1 + 1) sz ∧ Chg p (p + 1) w (((w5.setCell ⟨w2.heap.size, 0, none⟩ (.int .i64 (z - 1))).setCell ⟨w.heap.size, 0, none⟩ (.int .i64 (z - 1))).setCell ⟨w.heap.size, 1, none⟩ (.string t))) := ⟨fs, fc⟩
    clear hN fin fin2 hz5 hb5 hz4 hb4 HC4 HC5 s4 s5 s6 HC6 hz6 hb6 c5 fs fc v4 hs hc
    go_wp2
    exact bodyPost_ret (v := .agg #[.int .i64 (z - 1), .string t]) (by simp [results, Try.results21, go_sem, *]) rfl ⟨_, t, m + 1 + 1, rfl, ht, by omega, HF.out.1, HF.out.2⟩
  have b2 : (k == 2) = false := by simpa using k2
  obtain ⟨x0, x1, _, _⟩ := ent_four hb4
  obtain ⟨r0, r1, y0, y1⟩ := ent_four hz4
  obtain ⟨fs, fc⟩ := fin _ _ _ _ hb4 hz4 s4 HC4
  have HF : Hid (SrcAt ((w4.setCell ⟨w.heap.size, 0, none⟩ (.int .i64 (1 + x))).setCell ⟨w.heap.size, 1, none⟩ (.string t)) p cv (m + 1) sz ∧ Chg p (p + 1) w ((w4.setCell ⟨w.heap.size, 0, none⟩ (.int .i64 (1 + x))).setCell ⟨w.heap.size, 1, none⟩ (.string t))) := ⟨fs, fc⟩
  clear fin fin2 hz4 hb4 HC4 s4 fs fc v4 hs hc
  go_wp2
  exact bodyPost_ret (v := .agg #[.int .i64 (1 + x), .string t]) (by simp [results, Try.results21, go_sem, *]) rfl ⟨_, t, m + 1, rfl, ht, by omega, HF.out.1, HF.out.2⟩

end Go.Proofs.Ytkcijpmikgohcaa
