/- Unquote of the model. (made ahead of stage 12) -/
import Derived.Test.YthgbpceejkcdkaaDoorQuoteSpec
namespace Go.Proofs.YthgbpceejkcdkaaDoor
open Go.RowKit Go.Lib

/-- A digit's value, or -1. -/
def digC (c : Nat) : Int := if 48 ≤ c ∧ c ≤ 57 then (c : Int) - 48 else if 97 ≤ c ∧ c ≤ 102 then (c : Int) - 87 else -1
theorem digC_hex {v : Nat} (h : v < 16) : digC (hexC v) = (v : Int) := by unfold digC hexC; split <;> (split <;> (try split) <;> omega)
theorem digC_none {c : Nat} (h : ∀ v, v < 16 → hexC v ≠ c) : digC c = -1 := by
  unfold digC
  by_cases h1 : 48 ≤ c ∧ c ≤ 57
  · exact absurd (show hexC (c - 48) = c by unfold hexC; rw [if_pos (by omega)]; omega) (h (c - 48) (by omega))
  · rw [if_neg h1]
    by_cases h2 : 97 ≤ c ∧ c ≤ 102
    · exact absurd (show hexC (c - 87) = c by unfold hexC; rw [if_neg (by omega)]; omega) (h (c - 87) (by omega))
    · rw [if_neg h2]
theorem digC_range (c : Nat) : -1 ≤ digC c ∧ digC c ≤ 15 := by unfold digC; split <;> (try split) <;> omega

set_option maxRecDepth 20000 in
set_option maxHeartbeats 1000000 in
theorem l14Digit_calls (w : World) (c : Nat) (h : c < 256) :
    Calls Tryd.prog 8 #[.int .u8 (c : Int)] w fun e w' => e = .returned (.int .i64 (digC c)) ∧ w' = w := by
  obtain ⟨r, Hr⟩ : ∃ r, Hid (r = digC c) := ⟨_, rfl⟩
  rw [← Hr.out]
  go_enter Tryd.func8, Tryd.ntmps8
  go_wp2
  go_loopw [3] (fun x wr => wr = w ∧ ∃ v : Nat, v ≤ 16 ∧ x = .int .u8 (v : Int) ∧ ∀ u, u < v → hexC u ≠ c) (fun x _ => 16 - (RowKit.intOf x).toNat)
  case atStart => exact ⟨rfl, 0, by omega, rfl, fun u hu => by omega⟩
  case round =>
    obtain ⟨rfl, v, hv, rfl, hR⟩ := hrel
    have HR : Hid (∀ u, u < v → hexC u ≠ c) := hR
    clear hR
    by_cases hlt : v < 16
    · have hi : (v : Int) < 16 := by omega
      have hN := fun W => l14Hex_calls W v hlt
      have hx := hexC_lt v hlt
      have HD : Hid (digC (hexC v) = (v : Int)) := digC_hex hlt
      have hu : (UInt8.ofNat (hexC v)).toNat = hexC v := by rw [UInt8.toNat_ofNat']; omega
      obtain ⟨z, hz⟩ : ∃ z, z = hexC v := ⟨_, rfl⟩
      have HZ : Hid (z = hexC v) := hz
      rw [← hz] at hN hx HD hu
      clear hz
      have hw : IntKind.u8.wrap ((v : Int) + 1) = (v : Int) + 1 := by rw [IntKind.wrap_u8]; omega
      have hw2 : IntKind.i64.wrap (v : Int) = (v : Int) := by rw [IntKind.wrap_i64]; omega
      go_wp2_with fail
      refine (hN _).mono ?_
      rintro e wp ⟨rfl, rfl⟩
      clear hN
      have hu2 : ∀ hh : 0 < (ByteArray.mk #[UInt8.ofNat z]).size, ((ByteArray.mk #[UInt8.ofNat z])[0]'hh).toNat = z := fun _ => hu
      by_cases he : z = c
      · have Hn : Hid (r = (v : Int)) := by show _ = _; rw [Hr.out, ← he]; exact HD.out
        subst he
        go_wp2
        go_ret
        exact ⟨by rw [Hn.out]; rfl, rfl⟩
      · have he1 : ((z : Int) == (c : Int)) = false := by rw [beq_eq_false_iff_ne]; omega
        have he2 : ¬ (z : Int) = (c : Int) := by omega
        go_wp2
        go_roundw
        case rel => exact ⟨trivial, v + 1, by omega, by go_num, fun u hu' => by
          rcases Nat.lt_or_ge u v with h1 | h1
          · exact HR.out u h1
          · obtain rfl : u = v := by omega
            rw [← HZ.out]; exact he⟩
        case measure => simp [RowKit.intOf]; omega
    · obtain rfl : v = 16 := by omega
      have Hn : Hid (r = -1) := by show _ = _; rw [Hr.out]; exact digC_none HR.out
      clear HR
      go_wp2
      go_ret
      exact ⟨by rw [Hn.out]; rfl, rfl⟩

/-- What is unquoted from k on. -/
def unqF (s : ByteArray) : Nat → Nat → List Int → Option (List Int)
  | 0, _, _ => none
  | f + 1, k, acc =>
    if s.size ≤ k then some acc
    else if plainC (chr s k) = true then unqF s f (k + 1) (acc ++ [(chr s k : Int)])
    else if chr s k ≠ 37 ∨ s.size ≤ k + 2 then none
    else if digC (chr s (k + 1)) < 0 ∨ digC (chr s (k + 2)) < 0 ∨ plainC (digC (chr s (k + 1)) * 16 + digC (chr s (k + 2))).toNat = true then none
    else unqF s f (k + 3) (acc ++ [digC (chr s (k + 1)) * 16 + digC (chr s (k + 2))])
def unqR (s : ByteArray) : Option (List Int) := if s.toList = [37] then some [] else
  match unqF s (s.size + 1) 0 [] with
  | none => none
  | some acc => if acc.length = 0 ∨ 65536 < acc.length then none else some acc
abbrev unqO (g : Bool) (d : ByteArray) : Value := .agg #[.bool g, .string d]
def unqV (s : ByteArray) : Value := match unqR s with
  | none => unqO false ⟨#[]⟩
  | some acc => unqO true (strOfNums acc)

set_option maxRecDepth 20000 in
set_option maxHeartbeats 4000000 in
theorem specUnquote_calls (w : World) (s : ByteArray) (hl : s.size ≤ 1048576) :
    Calls Tryd.prog 4 #[.string s] w fun e w' => e = .returned (unqV s) ∧ Chg 0 0 w w' := by
  obtain ⟨r, Hr⟩ : ∃ r, Hid (r = unqV s) := ⟨_, rfl⟩
  rw [← Hr.out]
  have hB := heap_new w (.cells #[.bool false, .string ⟨#[]⟩] 23)
  have cA : Chg 0 0 w (w.alloc (.cells #[.bool false, .string ⟨#[]⟩] 23)) := Chg.alloc (Chg.refl 0 0 w) _
  have sA : (w.alloc (.cells #[.bool false, .string ⟨#[]⟩] 23)).heap.size = w.heap.size + 1 := by simp
  by_cases hs : s.toList = [37]
  · have Hn : Hid (r = unqO true ⟨#[]⟩) := by show _ = _; rw [Hr.out]; unfold unqV unqR; rw [if_pos hs]; rfl
    have hsb : (s.toList == [37]) = true := by rw [hs]; rfl
    have HC : Hid (Chg 0 0 w (w.alloc (.cells #[.bool true, .string ⟨#[]⟩] 23))) := Chg.alloc (Chg.refl 0 0 w) _
    clear hs cA hB sA
    go_enter Tryd.func4, Tryd.ntmps4
    go_wp2
    rw [Hn.out]
    exact bodyPost_ret (v := unqO true ⟨#[]⟩) (by simp [results, Tryd.results4, go_sem, *]) rfl ⟨rfl, HC.out⟩
  have hsb : (s.toList == [37]) = false := by rw [beq_eq_false_iff_ne]; exact hs
  have HV : Hid (∀ x, unqF s (s.size + 1) 0 [] = x → r = match x with | none => unqO false ⟨#[]⟩ | some acc => if acc.length = 0 ∨ 65536 < acc.length then unqO false ⟨#[]⟩ else unqO true (strOfNums acc)) := by
    intro x hx
    rw [Hr.out]
    unfold unqV unqR
    rw [if_neg hs, hx]
    cases x with
    | none => rfl
    | some acc =>
      by_cases h : acc.length = 0 ∨ 65536 < acc.length
      · simp only [if_pos h]
      · simp only [if_neg h]
  clear hs Hr
  have HO0 : Hid (OwnB ((w.alloc (.cells #[.bool false, .string ⟨#[]⟩] 23)).alloc (.cells #[] 5)) (w.heap.size + 1) 5 (.slice (some ⟨w.heap.size + 1, 0, none⟩) 0 0) []) := by
    have h := OwnB.bnil (w.alloc (.cells #[.bool false, .string ⟨#[]⟩] 23)) (w.heap.size + 1) (by omega)
    rw [sA] at h
    exact h
  have C0 : Chg 0 0 (w.alloc (.cells #[.bool false, .string ⟨#[]⟩] 23)) ((w.alloc (.cells #[.bool false, .string ⟨#[]⟩] 23)).alloc (.cells #[] 5)) := Chg.alloc (Chg.refl 0 0 _) _
  have HC0 : Hid (Chg 0 0 w ((w.alloc (.cells #[.bool false, .string ⟨#[]⟩] 23)).alloc (.cells #[] 5))) := cA.trans C0
  have HB0 : Hid (((w.alloc (.cells #[.bool false, .string ⟨#[]⟩] 23)).alloc (.cells #[] 5)).heap[w.heap.size]? = some (.cells #[.bool false, .string ⟨#[]⟩] 23 (0, 0))) := (C0.block _ (by omega) (by omega)).trans hB
  clear cA C0 hB sA
  go_enter Tryd.func4, Tryd.ntmps4
  go_wp2
  go_loopw [3, 4] (fun o x wr => ∃ (f k g cp : Nat) (acc : List Int), k ≤ s.size ∧ s.size + 1 ≤ f + k ∧ acc.length ≤ k ∧ x = .int .i64 k ∧ o = .slice (some ⟨g, 0, none⟩) acc.length cp ∧ OwnB wr (w.heap.size + 1) 5 (.slice (some ⟨g, 0, none⟩) acc.length cp) acc ∧ Chg 0 0 w wr ∧ wr.heap[w.heap.size]? = some (.cells #[.bool false, .string ⟨#[]⟩] 23 (0, 0)) ∧ unqF s (s.size + 1) 0 [] = unqF s f k acc) (fun _ x _ => s.size + 3 - (RowKit.intOf x).toNat)
  case atStart => exact ⟨s.size + 1, 0, _, _, [], by omega, by omega, Nat.le_refl _, rfl, rfl, HO0.out, HC0.out, HB0.out, rfl⟩
  case round =>
    obtain ⟨f, k, g, cp, acc, hk, hf, ha, rfl, rfl, ho, hch, hb, hU⟩ := hrel
    have HO : Hid (OwnB wr (w.heap.size + 1) 5 (.slice (some ⟨g, 0, none⟩) acc.length cp) acc) := ho
    have HC : Hid (Chg 0 0 w wr) := hch
    have HB : Hid (wr.heap[w.heap.size]? = some (.cells #[.bool false, .string ⟨#[]⟩] 23 (0, 0))) := hb
    have hsw : w.heap.size < wr.heap.size := (Array.getElem?_eq_some_iff.1 hb).1
    have HU : Hid (unqF s (s.size + 1) 0 [] = unqF s f k acc) := hU
    obtain ⟨n, hn⟩ : ∃ n, n = acc.length := ⟨_, rfl⟩
    rw [← hn] at HO ha ⊢
    have Hacc : Hid (n = acc.length) := hn
    clear ho hch hb hU hn HO0 HC0 HB0 hsb
    by_cases hlt : k < s.size
    case neg =>
      have hge : ¬ (k : Int) < (s.size : Int) := by omega
      have hx : unqF s (s.size + 1) 0 [] = some acc := by
        rw [HU.out]
        obtain ⟨f', rfl⟩ : ∃ f', f = f' + 1 := ⟨f - 1, by omega⟩
        unfold unqF
        rw [if_pos (by omega)]
      have hr := HV.out _ hx
      by_cases h0 : n = 0
      · have Hn : Hid (r = unqO false ⟨#[]⟩) := by show _ = _; rw [hr]; simp [← Hacc.out, h0]
        clear hr hx
        subst h0
        obtain ⟨y0, y1, yf0, yf1⟩ := two_cells HB.out
        go_wp2
        rw [Hn.out]
        exact bodyPost_ret (v := unqO false ⟨#[]⟩) (by simp [results, Tryd.results4, go_sem, *]) rfl ⟨rfl, by refine Chg.setCell (Chg.setCell HC.out ?_ _) ?_ _ <;> exact Or.inr (Nat.le_refl _)⟩
      by_cases h1 : 65536 < n
      · have Hn : Hid (r = unqO false ⟨#[]⟩) := by show _ = _; rw [hr]; simp [← Hacc.out, h1]
        have h00 : ((n : Int) == 0) = false := by rw [beq_eq_false_iff_ne]; omega
        clear hr hx
        obtain ⟨y0, y1, yf0, yf1⟩ := two_cells HB.out
        go_wp2
        rw [Hn.out]
        exact bodyPost_ret (v := unqO false ⟨#[]⟩) (by simp [results, Tryd.results4, go_sem, *]) rfl ⟨rfl, by refine Chg.setCell (Chg.setCell HC.out ?_ _) ?_ _ <;> exact Or.inr (Nat.le_refl _)⟩
      have Hn : Hid (r = unqO true (strOfNums acc)) := by show _ = _; rw [hr]; simp [← Hacc.out, h0, h1]
      have h00 : ((n : Int) == 0) = false := by rw [beq_eq_false_iff_ne]; omega
      have hst := (HO.out.seen (by rw [← Hacc.out]; omega)).str
      clear hr hx
      obtain ⟨y0, y1, yf0, yf1⟩ := two_cells HB.out
      go_wp2
      rw [Hn.out]
      exact bodyPost_ret (v := unqO true (strOfNums acc)) (by simp [results, Tryd.results4, go_sem, *]) rfl ⟨rfl, by refine Chg.setCell (Chg.setCell HC.out ?_ _) ?_ _ <;> exact Or.inr (Nat.le_refl _)⟩
    obtain ⟨f', rfl⟩ : ∃ f', f = f' + 1 := ⟨f - 1, by omega⟩
    have hi : (k : Int) < (s.size : Int) := by omega
    have hcs : s[k].toNat = chr s k := (chr_lt hlt).symm
    have hc2 := chr_256 s k
    have Hc1 : Hid (plainC (chr s k) = true → unqF s (s.size + 1) 0 [] = unqF s f' (k + 1) (acc ++ [(chr s k : Int)])) := fun h => by rw [HU.out, unqF, if_neg (by omega), if_pos h]
    have Hc2 : Hid (plainC (chr s k) = false → (chr s k ≠ 37 ∨ s.size ≤ k + 2) → unqF s (s.size + 1) 0 [] = none) := fun h h' => by rw [HU.out, unqF, if_neg (by omega), if_neg (by rw [h]; simp), if_pos h']
    have Hc3 : Hid (plainC (chr s k) = false → ¬ (chr s k ≠ 37 ∨ s.size ≤ k + 2) → (digC (chr s (k + 1)) < 0 ∨ digC (chr s (k + 2)) < 0 ∨ plainC (digC (chr s (k + 1)) * 16 + digC (chr s (k + 2))).toNat = true) → unqF s (s.size + 1) 0 [] = none) := fun h h' h'' => by rw [HU.out, unqF, if_neg (by omega), if_neg (by rw [h]; simp), if_neg h', if_pos h'']
    have Hc4 : Hid (plainC (chr s k) = false → ¬ (chr s k ≠ 37 ∨ s.size ≤ k + 2) → ¬ (digC (chr s (k + 1)) < 0 ∨ digC (chr s (k + 2)) < 0 ∨ plainC (digC (chr s (k + 1)) * 16 + digC (chr s (k + 2))).toNat = true) → unqF s (s.size + 1) 0 [] = unqF s f' (k + 3) (acc ++ [digC (chr s (k + 1)) * 16 + digC (chr s (k + 2))])) := fun h h' h'' => by rw [HU.out, unqF, if_neg (by omega), if_neg (by rw [h]; simp), if_neg h', if_neg h'']
    clear HU
    generalize chr s k = c at *
    have hN := fun W => l14Plain_calls W c hc2
    go_wp2_with fail
    refine (hN _).mono ?_
    rintro e wp ⟨rfl, rfl⟩
    clear hN
    by_cases hpl : plainC c = true
    · have Hstep := Hc1
      have Hstep : Hid (unqF s (s.size + 1) 0 [] = unqF s f' (k + 1) (acc ++ [(c : Int)])) := Hc1.out hpl
      clear Hc1 Hc2 Hc3 Hc4
      rw [hpl]
      clear hpl
      have cA : Chg 0 0 wp (wp.alloc (.cells #[.int .u8 (c : Int)] 5)) := Chg.alloc (Chg.refl 0 0 wp) _
      have VX : Hid (View (wp.alloc (.cells #[.int .u8 (c : Int)] 5)) wp.heap.size (wp.heap.size + 1) .u8 (.slice (some ⟨wp.heap.size, 0, none⟩) 1 1) [(c : Int)]) := row_view (w := (wp.alloc (.cells #[.int .u8 (c : Int)] 5))) (b := wp.heap.size) (xs := [(c : Int)]) (t := 5) (heap_new wp _) 0 1 1 (by simp) (by simp) (Nat.le_refl _)
      have HOA : Hid (OwnB (wp.alloc (.cells #[.int .u8 (c : Int)] 5)) (w.heap.size + 1) 5 (.slice (some ⟨g, 0, none⟩) n cp) acc) := HO.out.chg cA (fun g' _ => by omega)
      have HCA : Hid (Chg 0 0 w (wp.alloc (.cells #[.int .u8 (c : Int)] 5))) := HC.out.trans cA
      have HBA : Hid ((wp.alloc (.cells #[.int .u8 (c : Int)] 5)).heap[w.heap.size]? = some (.cells #[.bool false, .string ⟨#[]⟩] 23 (0, 0))) := (cA.block _ (by omega) (by omega)).trans HB.out
      have sX : wp.heap.size + 1 ≤ (wp.alloc (.cells #[.int .u8 (c : Int)] 5)).heap.size := by simp
      clear cA
      go_wp2_with (refine wpList_app_seen rfl (.tmp 21) (.tmp 25) rfl (w.heap.size + 1) (.slice (some ⟨g, 0, none⟩) n cp) acc rfl HOA.out (by omega) wp.heap.size (wp.heap.size + 1) (.slice (some ⟨wp.heap.size, 0, none⟩) 1 1) [(c : Int)] rfl VX.out (by simp) (by rw [← Hacc.out]; simp only [List.length_cons, List.length_nil]; omega) ?_; intro v8 w8 o8 c8)
      obtain ⟨g8, cp8, rfl⟩ := o8.some_of (by rw [List.length_append]; simp)
      have HO8 := o8
      have HC8 : Hid (Chg 0 0 w w8) := HCA.out.step c8 (by omega)
      have HB8 : Hid (w8.heap[w.heap.size]? = some (.cells #[.bool false, .string ⟨#[]⟩] 23 (0, 0))) := (c8.block _ (by omega) (by omega)).trans HBA.out
      clear o8 c8
      go_wp2
      go_roundw
      case rel => exact ⟨_, k + 1, g8, cp8, _, by omega, by omega, by rw [List.length_append, ← Hacc.out]; simp only [List.length_cons, List.length_nil]; omega, by go_num, rfl, HO8, HC8.out, HB8.out, Hstep.out⟩
      case measure => simp [RowKit.intOf]; omega
    rw [Bool.not_eq_true] at hpl
    by_cases hc37 : c = 37
    case neg =>
      have Hn : Hid (r = unqO false ⟨#[]⟩) := HV.out _ (Hc2.out hpl (Or.inl hc37))
      have hcb : ((c : Int) != 37) = true := by simp; omega
      rw [hpl]
      clear hpl Hc1 Hc2 Hc3 Hc4
      obtain ⟨y0, y1, yf0, yf1⟩ := two_cells HB.out
      go_wp2
      rw [Hn.out]
      exact bodyPost_ret (v := unqO false ⟨#[]⟩) (by simp [results, Tryd.results4, go_sem, *]) rfl ⟨rfl, by refine Chg.setCell (Chg.setCell HC.out ?_ _) ?_ _ <;> exact Or.inr (Nat.le_refl _)⟩
    subst hc37
    by_cases hk2 : s.size ≤ k + 2
    · have Hn : Hid (r = unqO false ⟨#[]⟩) := HV.out _ (Hc2.out hpl (Or.inr hk2))
      have hw2 : IntKind.i64.wrap ((k : Int) + 2) = (k : Int) + 2 := by rw [IntKind.wrap_i64]; omega
      have hge : (s.size : Int) ≤ (k : Int) + 2 := by omega
      rw [hpl]
      clear hpl Hc1 Hc2 Hc3 Hc4
      obtain ⟨y0, y1, yf0, yf1⟩ := two_cells HB.out
      go_wp2
      rw [Hn.out]
      exact bodyPost_ret (v := unqO false ⟨#[]⟩) (by simp [results, Tryd.results4, go_sem, *]) rfl ⟨rfl, by refine Chg.setCell (Chg.setCell HC.out ?_ _) ?_ _ <;> exact Or.inr (Nat.le_refl _)⟩
    have Hc3 := fun h => Hc3.out hpl (by omega) h
    have Hc4 := fun h => Hc4.out hpl (by omega) h
    rw [hpl]
    clear hpl Hc1 Hc2
    have hw1 : IntKind.i64.wrap ((k : Int) + 1) = (k : Int) + 1 := by rw [IntKind.wrap_i64]; omega
    have hw2 : IntKind.i64.wrap ((k : Int) + 2) = (k : Int) + 2 := by rw [IntKind.wrap_i64]; omega
    have hw3 : IntKind.i64.wrap ((k : Int) + 2 + 1) = (k : Int) + 2 + 1 := by rw [IntKind.wrap_i64]; omega
    have hl1 : k + 1 < s.size := by omega
    have hl2 : k + 2 < s.size := by omega
    have hi1 : (k : Int) + 1 < (s.size : Int) := by omega
    have hi2 : (k : Int) + 2 < (s.size : Int) := by omega
    have hi3 : ¬ (s.size : Int) ≤ (k : Int) + 2 := by omega
    have hx1 : s[k + 1].toNat = chr s (k + 1) := (chr_lt hl1).symm
    have hx2 : s[k + 2].toNat = chr s (k + 2) := (chr_lt hl2).symm
    have hy1 := chr_256 s (k + 1)
    have hy2 := chr_256 s (k + 2)
    generalize chr s (k + 1) = c1 at *
    generalize chr s (k + 2) = c2 at *
    have hn1 := fun W => l14Digit_calls W c1 hy1
    have hn2 := fun W => l14Digit_calls W c2 hy2
    have hd1 := digC_range c1
    have hd2 := digC_range c2
    generalize digC c1 = d1 at *
    generalize digC c2 = d2 at *
    go_wp2_with fail
    refine (hn1 _).mono ?_
    rintro e wq ⟨rfl, rfl⟩
    go_wp2_with fail
    refine (hn2 _).mono ?_
    rintro e wq2 ⟨rfl, rfl⟩
    clear hn1 hn2 hx1 hx2 hcs
    by_cases hd1n : d1 < 0
    · have Hn : Hid (r = unqO false ⟨#[]⟩) := HV.out _ (Hc3 (Or.inl hd1n))
      clear Hc3 Hc4
      obtain ⟨y0, y1, yf0, yf1⟩ := two_cells HB.out
      go_wp2
      rw [Hn.out]
      exact bodyPost_ret (v := unqO false ⟨#[]⟩) (by simp [results, Tryd.results4, go_sem, *]) rfl ⟨rfl, by refine Chg.setCell (Chg.setCell HC.out ?_ _) ?_ _ <;> exact Or.inr (Nat.le_refl _)⟩
    by_cases hd2n : d2 < 0
    · have Hn : Hid (r = unqO false ⟨#[]⟩) := HV.out _ (Hc3 (Or.inr (Or.inl hd2n)))
      clear Hc3 Hc4
      obtain ⟨y0, y1, yf0, yf1⟩ := two_cells HB.out
      go_wp2
      rw [Hn.out]
      exact bodyPost_ret (v := unqO false ⟨#[]⟩) (by simp [results, Tryd.results4, go_sem, *]) rfl ⟨rfl, by refine Chg.setCell (Chg.setCell HC.out ?_ _) ?_ _ <;> exact Or.inr (Nat.le_refl _)⟩
    obtain ⟨vn, hvn⟩ : ∃ vn : Nat, d1 * 16 + d2 = (vn : Int) := ⟨(d1 * 16 + d2).toNat, by omega⟩
    have hv256 : vn < 256 := by omega
    rw [hvn, Int.toNat_natCast] at Hc3 Hc4
    have e1 : IntKind.i64.wrap (d1 * 16) = d1 * 16 := by rw [IntKind.wrap_i64]; omega
    have e2 : IntKind.i64.wrap (vn : Int) = (vn : Int) := by rw [IntKind.wrap_i64]; omega
    have e3 : IntKind.u8.wrap (vn : Int) = (vn : Int) := by rw [IntKind.wrap_u8]; omega
    have hn3 := fun W => l14Plain_calls W vn hv256
    go_wp2_with fail
    refine (hn3 _).mono ?_
    rintro e wq3 ⟨rfl, rfl⟩
    clear hn3
    by_cases hp2 : plainC vn = true
    · have Hn : Hid (r = unqO false ⟨#[]⟩) := HV.out _ (Hc3 (Or.inr (Or.inr hp2)))
      clear Hc3 Hc4
      rw [hp2]
      clear hp2
      obtain ⟨y0, y1, yf0, yf1⟩ := two_cells HB.out
      go_wp2
      rw [Hn.out]
      exact bodyPost_ret (v := unqO false ⟨#[]⟩) (by simp [results, Tryd.results4, go_sem, *]) rfl ⟨rfl, by refine Chg.setCell (Chg.setCell HC.out ?_ _) ?_ _ <;> exact Or.inr (Nat.le_refl _)⟩
    have Hstep : Hid (unqF s (s.size + 1) 0 [] = unqF s f' (k + 3) (acc ++ [(vn : Int)])) := Hc4 (by
      rintro (h | h | h)
      · omega
      · omega
      · exact hp2 h)
    clear Hc3 Hc4
    rw [Bool.not_eq_true] at hp2
    rw [hp2]
    clear hp2
    have cA : Chg 0 0 wq3 (wq3.alloc (.cells #[.int .u8 (vn : Int)] 5)) := Chg.alloc (Chg.refl 0 0 wq3) _
    have VX : Hid (View (wq3.alloc (.cells #[.int .u8 (vn : Int)] 5)) wq3.heap.size (wq3.heap.size + 1) .u8 (.slice (some ⟨wq3.heap.size, 0, none⟩) 1 1) [(vn : Int)]) := row_view (w := (wq3.alloc (.cells #[.int .u8 (vn : Int)] 5))) (b := wq3.heap.size) (xs := [(vn : Int)]) (t := 5) (heap_new wq3 _) 0 1 1 (by simp) (by simp) (Nat.le_refl _)
    have HOA : Hid (OwnB (wq3.alloc (.cells #[.int .u8 (vn : Int)] 5)) (w.heap.size + 1) 5 (.slice (some ⟨g, 0, none⟩) n cp) acc) := HO.out.chg cA (fun g' _ => by omega)
    have HCA : Hid (Chg 0 0 w (wq3.alloc (.cells #[.int .u8 (vn : Int)] 5))) := HC.out.trans cA
    have HBA : Hid ((wq3.alloc (.cells #[.int .u8 (vn : Int)] 5)).heap[w.heap.size]? = some (.cells #[.bool false, .string ⟨#[]⟩] 23 (0, 0))) := (cA.block _ (by omega) (by omega)).trans HB.out
    have sX : wq3.heap.size + 1 ≤ (wq3.alloc (.cells #[.int .u8 (vn : Int)] 5)).heap.size := by simp
    clear cA
    go_wp2_with (refine wpList_app_seen rfl (.tmp 64) (.tmp 70) rfl (w.heap.size + 1) (.slice (some ⟨g, 0, none⟩) n cp) acc rfl HOA.out (by omega) wq3.heap.size (wq3.heap.size + 1) (.slice (some ⟨wq3.heap.size, 0, none⟩) 1 1) [(vn : Int)] rfl VX.out (by simp) (by rw [← Hacc.out]; simp only [List.length_cons, List.length_nil]; omega) ?_; intro v8 w8 o8 c8)
    obtain ⟨g8, cp8, rfl⟩ := o8.some_of (by rw [List.length_append]; simp)
    have HO8 := o8
    have HC8 : Hid (Chg 0 0 w w8) := HCA.out.step c8 (by omega)
    have HB8 : Hid (w8.heap[w.heap.size]? = some (.cells #[.bool false, .string ⟨#[]⟩] 23 (0, 0))) := (c8.block _ (by omega) (by omega)).trans HBA.out
    clear o8 c8
    go_wp2
    go_roundw
    case rel => exact ⟨_, k + 3, g8, cp8, _, by omega, by omega, by rw [List.length_append, ← Hacc.out]; simp only [List.length_cons, List.length_nil]; omega, by go_num, rfl, HO8, HC8.out, HB8.out, Hstep.out⟩
    case measure => simp [RowKit.intOf]; omega

end Go.Proofs.YthgbpceejkcdkaaDoor
