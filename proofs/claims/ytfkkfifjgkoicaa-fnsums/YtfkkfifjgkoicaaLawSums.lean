/- The law on sums. -/
import Derived.Test.YtfkkfifjgkoicaaImplCrc
import Derived.Test.YtfkkfifjgkoicaaDrawCrc
import Derived.Test.YtfkkfifjgkoicaaDrawPut
import Derived.Test.YtfkkfifjgkoicaaLwTurn
import Derived.Test.YtfkkfifjgkoicaaNumBack
import Derived.Test.YtfkkfifjgkoicaaOpenB
import Derived.Test.YtfkkfifjgkoicaaInv
import Derived.Test.YtfkkfifjgkoicaaAppNew
import Derived.Deep.DeepCutAuto
namespace Go.Proofs.Ytfkkfifjgkoicaa
open Go.ChangeShapes Go.WideShapes Go.ChangeAt Go.RowKit

/-- What each operation of the law's first test leaves: c the sum, bv the data, k the place of the cut, pv and sv the two pieces. -/
def sumsG (base : Nat) (c : Int) (bv : Value) (k : Nat) (pv sv : Value) (xs : List Int) : Nat → Value → World → Prop
  | 0, v, _ | 3, v, _ | 18, v, _ | 19, v, _ | 24, v, _ | 25, v, _ => v = .int .i64 c
  | 7, v, _ | 13, v, _ => ∃ g, v = .slice (some ⟨g, 0, none⟩) 0 0
  | 8, v, _ | 14, v, _ | 23, v, _ => v = bv
  | 9, v, _ | 15, v, _ => v = .int .i64 k
  | 10, v, _ => v = pv
  | 16, v, _ => v = sv
  | 11, v, w => View w base w.heap.size .u8 v (xs.take k)
  | 17, v, w => View w base w.heap.size .u8 v (xs.drop k)
  | 12, v, _ => v = .int .i64 (crcV (xs.take k))
  | _, v, _ => v = .bool false

theorem sumsG_mono (base : Nat) (c : Int) (bv : Value) (k : Nat) (pv sv : Value) (xs : List Int) : ∀ i v w w', Chg 0 0 w w' → sumsG base c bv k pv sv xs i v w → sumsG base c bv k pv sv xs i v w' := by
  intro i v w w' hc h
  have hs := hc.size
  unfold sumsG at *
  split at h
  all_goals first | exact h | exact (h.chg hc (by omega)).mono (Nat.le_refl _) hs

/-- The sum in two pieces. -/
theorem crc_two (xs : List Int) (k : Nat) : crcOnV (crcV (xs.take k)) (xs.drop k) = crcV xs := by
  have h1 := reg_lt (nb (xs.take k)) 4294967295 (by omega)
  have e : nb xs = nb (xs.take k) ++ nb (xs.drop k) := by unfold nb; rw [← List.map_append, List.take_append_drop]
  have hc : crcV (xs.take k) = ((4294967295 - reg 4294967295 (nb (xs.take k)) : Nat) : Int) := by unfold crcV; omega
  unfold crcOnV
  rw [if_neg (by rw [hc]; omega), hc]
  have e2 : 4294967295 - ((4294967295 - reg 4294967295 (nb (xs.take k)) : Nat) : Int).toNat = reg 4294967295 (nb (xs.take k)) := by omega
  rw [e2, ← reg_append, ← e]
  rfl

theorem putN_len' (v n : Int) : (putN v n).length ≤ 8 := by
  unfold putN
  split
  · simp
  · split
    · simp
    · rw [digs_length]; omega

theorem OwnB.slice {w : World} {base : Nat} {e : TypeId} {v : Value} {xs : List Int} (h : OwnB w base e v xs) : ∃ ao cap, v = .slice ao xs.length cap := by
  rcases h.2 with ⟨rfl, h0⟩ | ⟨g, cap, cur, rfl, _⟩
  · exact ⟨none, 0, by rw [h0]⟩
  · exact ⟨_, _, rfl⟩


set_option maxRecDepth 20000 in
set_option maxHeartbeats 4000000 in
theorem lawSums_walk (w : World) {hi : Nat} {cv mv : Value} {code more : List Int} (hB : Byt code) (hM : Byt more) (h1 : View w 0 hi .u8 cv code) (h2 : View w 0 hi .u8 mv more) (hhi : hi ≤ w.heap.size) :
    Calls Try.prog 3 #[cv, mv] w fun e w' => e = .returned (.bool true) ∧ Below w.heap.size w w' := by
  have c0 := h1
  have m0 := h2
  obtain ⟨co, ccap, rfl, hcl0, _, _⟩ := h1
  obtain ⟨mo, mcap, rfl, hml0, _, _⟩ := h2
  by_cases hcl : code.length ≤ 1048576
  case neg =>
    clear c0 m0
    go_enter Try.func3, Try.ntmps3
    go_wp2
    go_ret
    exact ⟨rfl, (Chg.refl 0 0 w).below (by omega)⟩
  by_cases hml : more.length ≤ 1048576
  case neg =>
    clear c0 m0
    go_enter Try.func3, Try.ntmps3
    go_wp2
    go_ret
    exact ⟨rfl, (Chg.refl 0 0 w).below (by omega)⟩
  have hxl := drawCrc_len code
  have hxb := drawCrc_byt code
  go_enter Try.func3, Try.ntmps3
  go_wp2_with fail
  refine (drawCrc_calls _ hB hcl c0 hhi).mono ?_
  rintro e w1 ⟨bv, rfl, ⟨bg, bcap, hbv⟩, vb, C1⟩
  have z1 := C1.size
  have cw := c0.chg C1 (by omega)
  obtain ⟨xs, hxs⟩ : ∃ xs, drawCrc code = xs := ⟨_, rfl⟩
  rw [hxs] at vb hxl hxb hbv
  subst hbv
  have vb0 := vb
  clear vb
  go_wp2_with fail
  refine (drawCrc_calls _ hB hcl cw (by omega)).mono ?_
  rintro e w2 ⟨bv2, rfl, ⟨bg2, bcap2, hbv2⟩, vb2, C2⟩
  rw [hxs] at vb2 hbv2
  subst hbv2
  have z2 := C2.size
  have vb1 := vb0.chg C2 (by omega)
  have D2 := C1.trans C2
  have vb2' := vb2
  clear vb2
  clear cw vb0 C1 C2
  go_wp2_with fail
  refine (implCrc_calls _ hxb vb2' (Nat.le_refl _)).mono ?_
  rintro e w3 ⟨rfl, C3⟩
  have vb3 := vb1.chg C3 (by omega)
  have D3 := D2.trans C3
  have z3 := C3.size
  have mw3 := m0.chg D3 (by omega)
  clear vb1 vb2' C3 D2
  have hcr : 0 ≤ crcV xs ∧ crcV xs ≤ 4294967295 := by
    unfold crcV
    have := reg_lt (nb xs) 4294967295 (by omega)
    omega
  have e1 : Hid (((xs.length : Int) + 1) = ((xs.length + 1 : Nat) : Int)) := by show _ = _; omega
  go_wp2_with fail
  rw [e1.out]
  refine (lwAt_calls _ 0 (xs.length + 1) (by omega) (by omega) hM mw3 hml).mono ?_
  rintro e w4 ⟨⟨k, rfl, hk1, hk2⟩, S4⟩
  have hk : k ≤ xs.length := by
    by_cases h : 1 < xs.length + 1
    · have := hk1 h; omega
    · have := hk2 (by omega); omega
  have z34 : w3.heap.size ≤ w4.heap.size := (S4.chg 0 0).size
  have vb4 := vb3.same S4
  have D4 := D3.trans (S4.chg 0 0)
  have z4 : w.heap.size ≤ w4.heap.size := D4.size
  have hbc : xs.length ≤ bcap := by obtain ⟨_, _, e, _, ⟨h, _⟩, _⟩ := vb4; cases e; exact h
  have hcell : ∀ i, i < xs.length → w4.cell? ⟨bg, i, none⟩ = some (.int .u8 (xs.getD i 0)) := by
    obtain ⟨_, _, e, _, _, h⟩ := vb4
    cases e
    rcases h with h | ⟨_, _, e, _, _, h⟩
    · intro i hi; rw [h] at hi; simp at hi
    · cases e; intro i hi; rw [← h i hi, Nat.zero_add]
  obtain ⟨so, hso⟩ : ∃ so, so = if bcap = k then 0 else k := ⟨_, rfl⟩
  have hbt := hxb.take k
  have hbd := hxb.drop k
  have z41 : w1.heap.size ≤ w4.heap.size := by omega
  clear vb3 mw3 D3 S4 hk1 hk2 e1
  go_upto_region 6 with fail
  go_cut [57] (fun s57 wx => s57 = .bool false ∧ Chg 0 0 w4 wx)
  case first =>
    refine region_amid' 105 30 28 (sumsG w.heap.size (crcV xs) (.slice (some ⟨bg, 0, none⟩) xs.length bcap) k (.slice (some ⟨bg, 0, none⟩) k bcap) (.slice (some ⟨bg, so, none⟩) (xs.length - k) (bcap - k)) xs) (by kernel_rfl) rfl (by kernel_rfl) rfl (by omega) ?step ?fin
    case step =>
      intro listed a w5 h i hi
      obtain ⟨_, o, ho, hall⟩ := mem_ready.1 hi
      have mono := sumsG_mono w.heap.size (crcV xs) (.slice (some ⟨bg, 0, none⟩) xs.length bcap) k (.slice (some ⟨bg, 0, none⟩) k bcap) (.slice (some ⟨bg, so, none⟩) (xs.length - k) (bcap - k)) xs
      have hi28 : i < 28 := (Array.getElem?_eq_some_iff.1 ho).1
      have e5 : a.tmps.getD 5 undef = .slice (some ⟨bg, 0, none⟩) xs.length bcap := h.init 5 (by omega)
      have e6 : a.tmps.getD 6 undef = .int .i64 (crcV xs) := h.init 6 (by omega)
      have e7 : a.tmps.getD 7 undef = .int .i64 k := h.init 7 (by omega)
      have CR : Chg 0 0 w5 w5 := Chg.refl 0 0 w5
      have hz5 : w.heap.size ≤ w5.heap.size := by have := h.chg.size; omega
      have hb5 : w1.heap.size ≤ w5.heap.size := by have := h.chg.size; omega
      rcases i with _ | _ | _ | _ | _ | _ | _ | _ | _ | _ | _ | _ | _ | _ | _ | _ | _ | _ | _ | _ | _ | _ | _ | _ | _ | _ | _ | _ | i
      · obtain rfl := Option.some.inj (ho.symm.trans rfl)
        exact h.op mono (by omega) (by omega) rfl rfl rfl (wp_value (v := a.tmps.getD 6 undef) rfl ⟨_, rfl, CR, e6⟩)
      · obtain rfl := Option.some.inj (ho.symm.trans rfl)
        have g0 : a.tmps.getD 30 undef = .int .i64 (crcV xs) := h.got 0 (by omega) (dep_of hall 0 rfl)
        have hlt : ¬ crcV xs < 0 := by omega
        refine h.op mono (by omega) (by omega) rfl rfl rfl (wp_value (v := .bool false) (w' := w5) ?_ ⟨_, rfl, CR, rfl⟩)
        simp only [execOp, Act.eval]
        go_simp
      · obtain rfl := Option.some.inj (ho.symm.trans rfl)
        have g1 : a.tmps.getD 31 undef = .bool false := h.got 1 (by omega) (dep_of hall 1 rfl)
        exact h.op mono (by omega) (by omega) rfl rfl rfl (wp_value (v := a.tmps.getD 31 undef) rfl ⟨_, rfl, CR, g1⟩)
      · obtain rfl := Option.some.inj (ho.symm.trans rfl)
        have g2 : a.tmps.getD 32 undef = .bool false := h.got 2 (by omega) (dep_of hall 2 rfl)
        have hw := h.at (s := 32) (by omega)
        rw [g2] at hw
        exact h.op mono (by omega) (by omega) rfl rfl (wanted_of (j := 2) (d := 32) rfl rfl hw) (wp_value (v := a.tmps.getD 6 undef) rfl ⟨_, rfl, CR, e6⟩)
      · obtain rfl := Option.some.inj (ho.symm.trans rfl)
        have g3 : a.tmps.getD 33 undef = .int .i64 (crcV xs) := h.got 3 (by omega) (dep_of hall 3 rfl)
        have g2 : a.tmps.getD 32 undef = .bool false := h.got 2 (by omega) (dep_of hall 2 rfl)
        have hw := h.at (s := 32) (by omega)
        rw [g2] at hw
        have hgt : ¬ crcV xs > 4294967295 := by omega
        refine h.op mono (by omega) (by omega) rfl rfl (wanted_of (j := 2) (d := 32) rfl rfl hw) (wp_value (v := .bool false) (w' := w5) ?_ ⟨_, rfl, CR, rfl⟩)
        simp only [execOp, Act.eval]
        go_simp
      · obtain rfl := Option.some.inj (ho.symm.trans rfl)
        have g2 : a.tmps.getD 32 undef = .bool false := h.got 2 (by omega) (dep_of hall 2 rfl)
        have g4 : a.tmps.getD 34 undef = .bool false := h.got 4 (by omega) (dep_of hall 4 rfl)
        refine h.op mono (by omega) (by omega) rfl rfl rfl (wp_value (v := .bool false) (w' := w5) ?_ ⟨_, rfl, CR, rfl⟩)
        simp only [execOp, Act.eval]
        go_simp
      · obtain rfl := Option.some.inj (ho.symm.trans rfl)
        have g5 : a.tmps.getD 35 undef = .bool false := h.got 5 (by omega) (dep_of hall 5 rfl)
        exact h.op mono (by omega) (by omega) rfl rfl rfl (wp_value (v := a.tmps.getD 35 undef) rfl ⟨_, rfl, CR, g5⟩)
      · obtain rfl := Option.some.inj (ho.symm.trans rfl)
        have g6 : a.tmps.getD 36 undef = .bool false := h.got 6 (by omega) (dep_of hall 6 rfl)
        have hw := h.at (s := 36) (by omega)
        rw [g6] at hw
        refine h.op mono (by omega) (by omega) rfl rfl (wanted_of (j := 6) (d := 36) rfl rfl hw) (wp_value (v := .slice (some ⟨w5.heap.size, 0, none⟩) 0 0) (w' := w5.alloc (.cells #[] 5)) ?_ ⟨_, rfl, Chg.alloc CR _, _, rfl⟩)
        simp only [execOp, Act.eval]
        go_simp
      · obtain rfl := Option.some.inj (ho.symm.trans rfl)
        have g6 : a.tmps.getD 36 undef = .bool false := h.got 6 (by omega) (dep_of hall 6 rfl)
        have hw := h.at (s := 36) (by omega)
        rw [g6] at hw
        exact h.op mono (by omega) (by omega) rfl rfl (wanted_of (j := 6) (d := 36) rfl rfl hw) (wp_value (v := a.tmps.getD 5 undef) rfl ⟨_, rfl, CR, e5⟩)
      · obtain rfl := Option.some.inj (ho.symm.trans rfl)
        have g6 : a.tmps.getD 36 undef = .bool false := h.got 6 (by omega) (dep_of hall 6 rfl)
        have hw := h.at (s := 36) (by omega)
        rw [g6] at hw
        exact h.op mono (by omega) (by omega) rfl rfl (wanted_of (j := 6) (d := 36) rfl rfl hw) (wp_value (v := a.tmps.getD 7 undef) rfl ⟨_, rfl, CR, e7⟩)
      · obtain rfl := Option.some.inj (ho.symm.trans rfl)
        have g8 : a.tmps.getD 38 undef = .slice (some ⟨bg, 0, none⟩) xs.length bcap := h.got 8 (by omega) (dep_of hall 8 rfl)
        have g9 : a.tmps.getD 39 undef = .int .i64 k := h.got 9 (by omega) (dep_of hall 9 rfl)
        have g6 : a.tmps.getD 36 undef = .bool false := h.got 6 (by omega) (dep_of hall 6 rfl)
        have hw := h.at (s := 36) (by omega)
        rw [g6] at hw
        refine h.op mono (by omega) (by omega) rfl rfl (wanted_of (j := 6) (d := 36) rfl rfl hw) (wp_value (v := .slice (some ⟨bg, 0, none⟩) k bcap) (w' := w5) ?_ ⟨_, rfl, CR, rfl⟩)
        have hk1 : ¬ bcap < k := by omega
        simp only [execOp, Act.eval]
        go_simp
      · obtain rfl := Option.some.inj (ho.symm.trans rfl)
        obtain ⟨g7, hg7⟩ := h.got 7 (by omega) (dep_of hall 7 rfl)
        have g10 : a.tmps.getD 40 undef = .slice (some ⟨bg, 0, none⟩) k bcap := h.got 10 (by omega) (dep_of hall 10 rfl)
        have g6 : a.tmps.getD 36 undef = .bool false := h.got 6 (by omega) (dep_of hall 6 rfl)
        have hw := h.at (s := 36) (by omega)
        rw [g6] at hw
        refine h.op mono (by omega) (by omega) rfl rfl (wanted_of (j := 6) (d := 36) rfl rfl hw) (wp_app_new (.tmp 37) (.tmp 40) rfl g7 hg7 bg 0 bcap (xs.take k) (by rw [List.length_take, Nat.min_eq_left hk]; exact g10) (by rw [List.length_take]; omega) ?_ (fun v' w6 hv c6 => ⟨v', rfl, c6, hv.mono hz5 (Nat.le_refl _)⟩))
        intro j hj
        rw [List.length_take] at hj
        rw [Nat.zero_add, h.chg.cell (hcell j (by omega)) (by omega)]
        simp only [List.getD_eq_getElem?_getD, List.getElem?_take]
        rw [if_pos (by omega)]
      · obtain rfl := Option.some.inj (ho.symm.trans rfl)
        have g11 : View w5 w.heap.size w5.heap.size .u8 (a.tmps.getD 41 undef) (xs.take k) := h.got 11 (by omega) (dep_of hall 11 rfl)
        have g6 : a.tmps.getD 36 undef = .bool false := h.got 6 (by omega) (dep_of hall 6 rfl)
        have hw := h.at (s := 36) (by omega)
        rw [g6] at hw
        refine h.op mono (by omega) (by omega) rfl rfl (wanted_of (j := 6) (d := 36) rfl rfl hw) (wp_call 5 #[a.tmps.getD 41 undef] (by simp only [execOp, Act.eval]; go_simp) (implCrc_calls w5 hbt g11 (Nat.le_refl _)) ?_)
        rintro e w6 ⟨rfl, c6⟩
        exact ⟨_, rfl, _, rfl, c6, rfl⟩
      · obtain rfl := Option.some.inj (ho.symm.trans rfl)
        have g6 : a.tmps.getD 36 undef = .bool false := h.got 6 (by omega) (dep_of hall 6 rfl)
        have hw := h.at (s := 36) (by omega)
        rw [g6] at hw
        refine h.op mono (by omega) (by omega) rfl rfl (wanted_of (j := 6) (d := 36) rfl rfl hw) (wp_value (v := .slice (some ⟨w5.heap.size, 0, none⟩) 0 0) (w' := w5.alloc (.cells #[] 5)) ?_ ⟨_, rfl, Chg.alloc CR _, _, rfl⟩)
        simp only [execOp, Act.eval]
        go_simp
      · obtain rfl := Option.some.inj (ho.symm.trans rfl)
        have g6 : a.tmps.getD 36 undef = .bool false := h.got 6 (by omega) (dep_of hall 6 rfl)
        have hw := h.at (s := 36) (by omega)
        rw [g6] at hw
        exact h.op mono (by omega) (by omega) rfl rfl (wanted_of (j := 6) (d := 36) rfl rfl hw) (wp_value (v := a.tmps.getD 5 undef) rfl ⟨_, rfl, CR, e5⟩)
      · obtain rfl := Option.some.inj (ho.symm.trans rfl)
        have g6 : a.tmps.getD 36 undef = .bool false := h.got 6 (by omega) (dep_of hall 6 rfl)
        have hw := h.at (s := 36) (by omega)
        rw [g6] at hw
        exact h.op mono (by omega) (by omega) rfl rfl (wanted_of (j := 6) (d := 36) rfl rfl hw) (wp_value (v := a.tmps.getD 7 undef) rfl ⟨_, rfl, CR, e7⟩)
      · obtain rfl := Option.some.inj (ho.symm.trans rfl)
        have g14 : a.tmps.getD 44 undef = .slice (some ⟨bg, 0, none⟩) xs.length bcap := h.got 14 (by omega) (dep_of hall 14 rfl)
        have g15 : a.tmps.getD 45 undef = .int .i64 k := h.got 15 (by omega) (dep_of hall 15 rfl)
        have g6 : a.tmps.getD 36 undef = .bool false := h.got 6 (by omega) (dep_of hall 6 rfl)
        have hw := h.at (s := 36) (by omega)
        rw [g6] at hw
        refine h.op mono (by omega) (by omega) rfl rfl (wanted_of (j := 6) (d := 36) rfl rfl hw) (wp_value (v := .slice (some ⟨bg, so, none⟩) (xs.length - k) (bcap - k)) (w' := w5) ?_ ⟨_, rfl, CR, rfl⟩)
        have hk1 : ¬ xs.length < k := by omega
        rw [hso]
        by_cases hbk : bcap = k
        · rw [if_pos hbk]
          simp only [execOp, Act.eval]
          go_simp
        · rw [if_neg hbk]
          simp only [execOp, Act.eval]
          go_simp
      · obtain rfl := Option.some.inj (ho.symm.trans rfl)
        obtain ⟨g13, hg13⟩ := h.got 13 (by omega) (dep_of hall 13 rfl)
        have g16 : a.tmps.getD 46 undef = .slice (some ⟨bg, so, none⟩) (xs.length - k) (bcap - k) := h.got 16 (by omega) (dep_of hall 16 rfl)
        have g6 : a.tmps.getD 36 undef = .bool false := h.got 6 (by omega) (dep_of hall 6 rfl)
        have hw := h.at (s := 36) (by omega)
        rw [g6] at hw
        refine h.op mono (by omega) (by omega) rfl rfl (wanted_of (j := 6) (d := 36) rfl rfl hw) (wp_app_new (.tmp 43) (.tmp 46) rfl g13 hg13 bg so (bcap - k) (xs.drop k) (by rw [List.length_drop]; exact g16) (by rw [List.length_drop]; omega) ?_ (fun v' w6 hv c6 => ⟨v', rfl, c6, hv.mono hz5 (Nat.le_refl _)⟩))
        intro j hj
        rw [List.length_drop] at hj
        have hsk : so = k := by rw [hso, if_neg (by omega)]
        rw [hsk, h.chg.cell (hcell (k + j) (by omega)) (by omega)]
        simp only [List.getD_eq_getElem?_getD, List.getElem?_drop]
      · obtain rfl := Option.some.inj (ho.symm.trans rfl)
        have g12 : a.tmps.getD 42 undef = .int .i64 (crcV (xs.take k)) := h.got 12 (by omega) (dep_of hall 12 rfl)
        have g17 : View w5 w.heap.size w5.heap.size .u8 (a.tmps.getD 47 undef) (xs.drop k) := h.got 17 (by omega) (dep_of hall 17 rfl)
        have g6 : a.tmps.getD 36 undef = .bool false := h.got 6 (by omega) (dep_of hall 6 rfl)
        have hw := h.at (s := 36) (by omega)
        rw [g6] at hw
        refine h.op mono (by omega) (by omega) rfl rfl (wanted_of (j := 6) (d := 36) rfl rfl hw) (wp_call 7 #[.int .i64 (crcV (xs.take k)), a.tmps.getD 47 undef] (by simp only [execOp, Act.eval]; go_simp) (implCrcOn_calls w5 (crcV (xs.take k)) hbd g17 (Nat.le_refl _)) ?_)
        rintro e w6 ⟨rfl, c6⟩
        exact ⟨_, rfl, _, rfl, c6, by rw [crc_two]; rfl⟩
      · obtain rfl := Option.some.inj (ho.symm.trans rfl)
        have g6 : a.tmps.getD 36 undef = .bool false := h.got 6 (by omega) (dep_of hall 6 rfl)
        have hw := h.at (s := 36) (by omega)
        rw [g6] at hw
        exact h.op mono (by omega) (by omega) rfl rfl (wanted_of (j := 6) (d := 36) rfl rfl hw) (wp_value (v := a.tmps.getD 6 undef) rfl ⟨_, rfl, CR, e6⟩)
      · obtain rfl := Option.some.inj (ho.symm.trans rfl)
        have g18 : a.tmps.getD 48 undef = .int .i64 (crcV xs) := h.got 18 (by omega) (dep_of hall 18 rfl)
        have g19 : a.tmps.getD 49 undef = .int .i64 (crcV xs) := h.got 19 (by omega) (dep_of hall 19 rfl)
        have g6 : a.tmps.getD 36 undef = .bool false := h.got 6 (by omega) (dep_of hall 6 rfl)
        have hw := h.at (s := 36) (by omega)
        rw [g6] at hw
        have hne : (crcV xs != crcV xs) = false := by simp
        refine h.op mono (by omega) (by omega) rfl rfl (wanted_of (j := 6) (d := 36) rfl rfl hw) (wp_value (v := .bool false) (w' := w5) ?_ ⟨_, rfl, CR, rfl⟩)
        simp only [execOp, Act.eval]
        go_simp
      · obtain rfl := Option.some.inj (ho.symm.trans rfl)
        have g6 : a.tmps.getD 36 undef = .bool false := h.got 6 (by omega) (dep_of hall 6 rfl)
        have g20 : a.tmps.getD 50 undef = .bool false := h.got 20 (by omega) (dep_of hall 20 rfl)
        refine h.op mono (by omega) (by omega) rfl rfl rfl (wp_value (v := .bool false) (w' := w5) ?_ ⟨_, rfl, CR, rfl⟩)
        simp only [execOp, Act.eval]
        go_simp
      · obtain rfl := Option.some.inj (ho.symm.trans rfl)
        have g21 : a.tmps.getD 51 undef = .bool false := h.got 21 (by omega) (dep_of hall 21 rfl)
        exact h.op mono (by omega) (by omega) rfl rfl rfl (wp_value (v := a.tmps.getD 51 undef) rfl ⟨_, rfl, CR, g21⟩)
      · obtain rfl := Option.some.inj (ho.symm.trans rfl)
        have g22 : a.tmps.getD 52 undef = .bool false := h.got 22 (by omega) (dep_of hall 22 rfl)
        have hw := h.at (s := 52) (by omega)
        rw [g22] at hw
        exact h.op mono (by omega) (by omega) rfl rfl (wanted_of (j := 22) (d := 52) rfl rfl hw) (wp_value (v := a.tmps.getD 5 undef) rfl ⟨_, rfl, CR, e5⟩)
      · obtain rfl := Option.some.inj (ho.symm.trans rfl)
        have g23 : a.tmps.getD 53 undef = .slice (some ⟨bg, 0, none⟩) xs.length bcap := h.got 23 (by omega) (dep_of hall 23 rfl)
        have g22 : a.tmps.getD 52 undef = .bool false := h.got 22 (by omega) (dep_of hall 22 rfl)
        have hw := h.at (s := 52) (by omega)
        rw [g22] at hw
        refine h.op mono (by omega) (by omega) rfl rfl (wanted_of (j := 22) (d := 52) rfl rfl hw) (wp_call 7 #[.int .i64 0, .slice (some ⟨bg, 0, none⟩) xs.length bcap] (by simp only [execOp, Act.eval]; go_simp) (implCrcOn_calls w5 0 hxb (vb4.chg h.chg (by omega)) hb5) ?_)
        rintro e w6 ⟨rfl, c6⟩
        exact ⟨_, rfl, _, rfl, c6, by rw [crcOnV_zero]; rfl⟩
      · obtain rfl := Option.some.inj (ho.symm.trans rfl)
        have g22 : a.tmps.getD 52 undef = .bool false := h.got 22 (by omega) (dep_of hall 22 rfl)
        have hw := h.at (s := 52) (by omega)
        rw [g22] at hw
        exact h.op mono (by omega) (by omega) rfl rfl (wanted_of (j := 22) (d := 52) rfl rfl hw) (wp_value (v := a.tmps.getD 6 undef) rfl ⟨_, rfl, CR, e6⟩)
      · obtain rfl := Option.some.inj (ho.symm.trans rfl)
        have g24 : a.tmps.getD 54 undef = .int .i64 (crcV xs) := h.got 24 (by omega) (dep_of hall 24 rfl)
        have g25 : a.tmps.getD 55 undef = .int .i64 (crcV xs) := h.got 25 (by omega) (dep_of hall 25 rfl)
        have g22 : a.tmps.getD 52 undef = .bool false := h.got 22 (by omega) (dep_of hall 22 rfl)
        have hw := h.at (s := 52) (by omega)
        rw [g22] at hw
        have hne : (crcV xs != crcV xs) = false := by simp
        refine h.op mono (by omega) (by omega) rfl rfl (wanted_of (j := 22) (d := 52) rfl rfl hw) (wp_value (v := .bool false) (w' := w5) ?_ ⟨_, rfl, CR, rfl⟩)
        simp only [execOp, Act.eval]
        go_simp
      · obtain rfl := Option.some.inj (ho.symm.trans rfl)
        have g22 : a.tmps.getD 52 undef = .bool false := h.got 22 (by omega) (dep_of hall 22 rfl)
        have g26 : a.tmps.getD 56 undef = .bool false := h.got 26 (by omega) (dep_of hall 26 rfl)
        refine h.op mono (by omega) (by omega) rfl rfl rfl (wp_value (v := .bool false) (w' := w5) ?_ ⟨_, rfl, CR, rfl⟩)
        simp only [execOp, Act.eval]
        go_simp
      · omega
    case fin =>
      intro vals w5 hlen hc5 hG
      obtain ⟨x0, x1, x2, x3, x4, x5, x6, x7, x8, x9, x10, x11, x12, x13, x14, x15, x16, x17, x18, x19, x20, x21, x22, x23, x24, x25, x26, x27, rfl⟩ := len28 vals hlen
      have g57 : x27 = .bool false := hG 27 (by omega)
      subst g57
      clear hG hlen
      simp only [List.take_succ_cons, List.take_zero, List.drop_succ_cons, List.drop_zero, List.cons_append, List.nil_append]
      go_wp2_with fail
      go_meet
      exact ⟨rfl, hc5⟩
  case rest =>
    obtain ⟨rfl, C5⟩ := hcut
    have D5 := D4.trans C5
    have vb5 := vb4.chg C5 (by omega)
    have mw5 := m0.chg D5 (by omega)
    have z5 := C5.size
    have HS : Hid (drawCrc code = xs) := hxs
    clear hcell hso vb4 C5 D4 hbt hbd hxs
    go_upto_region 8 with fail
    go_cut [73] (fun s73 wx => s73 = .bool false ∧ Chg 0 0 w wx)
    case first =>
      by_cases hx0 : xs.length = 0
      · have hx0' : ¬ (xs.length : Int) > 0 := by omega
        clear vb5 mw5 hx0
        go_wp2
        go_meet
        exact ⟨rfl, D5⟩
      · have hx0' : (xs.length : Int) > 0 := by omega
        have e8 : Hid (8 * (xs.length : Int) = ((8 * xs.length : Nat) : Int)) := by show _ = _; omega
        go_wp2_with fail
        rw [e8.out]
        refine (lwAt_calls _ 1 (8 * xs.length) (by omega) (by omega) hM mw5 hml).mono ?_
        rintro e w6 ⟨⟨p, rfl, hp, _⟩, S6⟩
        have hp := hp (by omega)
        have vb6 := vb5.same S6
        have mw6 := mw5.same S6
        have D6 := D5.trans (S6.chg 0 0)
        have z6 : wc.heap.size ≤ w6.heap.size := (S6.chg 0 0).size
        clear vb5 mw5 D5 S6 e8
        go_wp2_with fail
        refine (lwTurn_calls _ p hxb hM vb6 mw6 (by omega) hml hp).mono ?_
        rintro e w7 ⟨tv, rfl, ys, o7, ht, C7⟩
        obtain ⟨t1, t2, t3, rfl⟩ := row_slice o7
        have vy := o7.view (hi := w7.heap.size) (by rw [ht.len]; omega) (fun g hg => (o7.lt g hg).2)
        have D7 := D6.trans C7
        clear o7 C7 D6 vb6 mw6
        have hdiff : crcV ys ≠ crcV xs := by
          unfold crcV
          intro e
          have e2 : reg 4294967295 (nb ys) = reg 4294967295 (nb xs) := by omega
          rw [reg_regF, reg_regF] at e2
          have el : (nb ys).length = (nb xs).length := by simp [nb, ht.len]
          rw [el] at e2
          exact burst 4294967295 (by omega) (bitAt (nb ys)) (bitAt (nb xs)) _ p (by simpa [nb] using hp) (bitAt_lt _) (bitAt_lt _) (ht.first (by omega)) (fun i hi => ht.out i (by omega)) (fun i hi _ => ht.out i (by omega)) e2
        go_wp2_with fail
        refine (implCrc_calls _ ht.byt vy (Nat.le_refl _)).mono ?_
        rintro e w8 ⟨rfl, C8⟩
        have D8 := D7.trans C8
        have heq : (crcV ys == crcV xs) = false := by simp only [beq_eq_false_iff_ne, ne_eq]; exact hdiff
        clear vy D7 C8 hdiff ht
        generalize crcV ys = cy at *
        go_wp2
        go_meet
        exact ⟨rfl, D8⟩
    case rest =>
      obtain ⟨rfl, D8⟩ := hcut
      have cw8 := c0.chg D8 (by omega)
      have z8 := D8.size
      clear vb5 mw5 D5
      go_wp2_with fail
      refine (drawPut_calls _ hB hcl cw8 (by omega)).mono ?_
      rintro e w9 ⟨⟨v, n, rfl, hv⟩, C9⟩
      have D9 := D8.trans C9
      have hv2 : v ≤ 9223372036854775807 := hv.2
      clear C9 D8 cw8 hv
      go_wp2_with fail
      refine (implPut_calls _ v n hv2).mono ?_
      rintro e w10 ⟨pv, rfl, op, C10⟩
      have D10 := D9.trans C10
      have hpl := putN_len' v n
      obtain ⟨po, pc, rfl⟩ := op.slice
      have vp := op.view (hi := w10.heap.size) (by omega) (fun g hg => (op.lt g hg).2)
      clear C10 D9 op
      go_wp2_with fail
      refine (specPut_calls _ v n hv2).mono ?_
      rintro e w11 ⟨qv, rfl, oq, C11⟩
      have D11 := D10.trans C11
      obtain ⟨qo, qc, rfl⟩ := oq.slice
      have vp := vp.chg C11 (by omega)
      clear C11 D10 oq
      have hne : (((putN v n).length : Int) != ((putN v n).length : Int)) = false := by simp
      have hcv := fun (w : World) (C : Array Value) (n c : Nat) => Lib.run_convert_bytes_const (P := Try.prog) w 22 5 C n c Try.underlying22 Try.underlying5
      have HN : Hid (View (w11.alloc (.cells NC 5 (NC.size, NC.size + 1))) w11.heap.size (w11.heap.size + 1) .u8 (.slice (some ⟨w11.heap.size, 0, none⟩) 9 9) nine) := nine_view w11 w11.heap.size (Nat.le_refl _)
      have HNC : Hid (Chg 0 0 w11 (w11.alloc (.cells NC 5 (NC.size, NC.size + 1)))) := Chg.alloc (Chg.refl 0 0 w11) _
      have HNS : Hid ((w11.alloc (.cells NC 5 (NC.size, NC.size + 1))).heap.size = w11.heap.size + 1) := by show _ = _; simp
      have hnb : Byt nine := by intro x hx; simp [nine] at hx; omega
      go_wp2_with fail
      have vn := HN.out
      have C12 := HNC.out
      have z12 := HNS.out
      simp only [NC] at vn C12 z12
      refine (implCrc_calls _ hnb vn (by simp at z12 ⊢)).mono ?_
      rintro e w12 ⟨rfl, C13⟩
      have C13' := C12.trans (by simpa using C13)
      have vp := vp.chg C13' (by omega)
      have D13 := D11.trans C13'
      have hnine : crcV nine = 3808858755 := by decide +kernel
      rw [hnine]
      clear C13 C13' C12 vn HN HNC HNS D11 hne hcv z12
      by_cases hp0 : (putN v n).length = 0
      · have hp0' : (((putN v n).length : Int) == 0) = true := by rw [hp0]; rfl
        clear hp0 vp
        go_wp2
        go_ret
        exact ⟨rfl, D13.below (by omega)⟩
      · have hp0' : (((putN v n).length : Int) == 0) = false := by simp only [beq_eq_false_iff_ne, ne_eq]; omega
        have hback := getN_putN v n hv2 (fun e => hp0 (by rw [e]; rfl))
        go_wp2_with fail
        refine (implGet_calls _ (putN_byt v n) vp).mono ?_
        rintro e w14 ⟨rfl, S14⟩
        rw [hback]
        have D14 := D13.trans (S14.chg 0 0)
        have hvv : (v == v) = true := by simp
        clear hp0 vp S14 D13 hback
        go_wp2
        go_ret
        exact ⟨rfl, D14.below (by omega)⟩

set_option maxRecDepth 100000 in
theorem lawSums_lifted (os : Os) (started : os.Started) (H : Type) (enc : TypeId × Value → H) :
    ReturnsInHanded {} Try.checked os 3 .any (Rows.fnSumsSpec.pre6 enc Try.prog Try.f3 Rows.fnSumsRow.domain false) (Rows.fnSumsSpec.post enc Try.prog Try.f3 false true false false) := by
  refine returnsInHanded_of_change (C := Try.checked) own started (by kernel_rfl) Try.func3
    (ChangeSpec.witness6 (enc := enc) (C := Try.checked) false ⟨#[], #[.slice none 0 0, .slice none 0 0], []⟩ 8 (by kernel_rfl) (by kernel_rfl) (by kernel_rfl) (by kernel_rfl)) ?_
  intro W base args ds gs before hval0 hW hcnd _
  have hval : ∀ (j : Nat) t v, Try.f3.params[j]? = some t → args[j]? = some v → Value.okWide Try.prog W .any base t v := hval0
  have hW' := hW
  obtain ⟨p, q, hA0, hV, rfl, hfz, hnd⟩ := hW
  have hA : DataW.TrodAll enc Try.prog W 0 (fun _ => true) true Try.f3.params.toList args.toList ds p := hA0
  rw [Try.params3] at hA hval
  obtain ⟨v0, vs0, d0, ds0, p0, q0, hargs, rfl, rfl, h0, r0⟩ := trodAll_cons hA
  obtain ⟨v1, vs1, d1, ds1, p1, q1, rfl, rfl, rfl, h1, r1⟩ := trodAll_cons r0
  obtain ⟨rfl, rfl, rfl⟩ := trodAll_nil r1
  obtain rfl : args = #[v0, v1] := by cases args; simp_all
  obtain ⟨rfl, rfl⟩ := trodVars_none hV
  have k0 := h0
  have lt0 : ∀ x ∈ p0, x.block < W.heap.size := by obtain ⟨m, hm⟩ := k0; exact DataW.trod_lt m _ _ _ hm
  obtain ⟨ka, kl, kcp, rfl⟩ := okWide_slice Try.underlying22 (hval 0 22 v0 rfl rfl)
  obtain ⟨xs, wk, hwf⟩ : ∃ xs, View W 0 W.heap.size .u8 (.slice ka kl kcp) xs ∧ ∀ x ∈ xs, (Lit.int .u8 x).wf = true := by
    obtain ⟨fuel, hf⟩ := h0
    exact view_wf_of_trod Try.underlying22 Try.underlying5 (by kernel_rfl) hf
  have k1 := h1
  have lt1 : ∀ x ∈ p1, x.block < W.heap.size := by obtain ⟨m, hm⟩ := k1; exact DataW.trod_lt m _ _ _ hm
  obtain ⟨la, ll, lcp, rfl⟩ := okWide_slice Try.underlying22 (hval 1 22 v1 rfl rfl)
  obtain ⟨ms, wm, hwm⟩ : ∃ xs, View W 0 W.heap.size .u8 (.slice la ll lcp) xs ∧ ∀ x ∈ xs, (Lit.int .u8 x).wf = true := by
    obtain ⟨fuel, hf⟩ := h1
    exact view_wf_of_trod Try.underlying22 Try.underlying5 (by kernel_rfl) hf
  clear hA0 hval0
  refine (lawSums_walk W (byt_of_wf hwf) (byt_of_wf hwm) wk wm (Nat.le_refl _)).mono fun e W' ⟨he, bel⟩ => ?_
  subst he
  exact ⟨_, rfl, _, _, _, [], _, [], hW', trodAll_mk1 (shut_bool Try.underlying4 _), (trodAll_cons_mk (Below.trod laidOut (by kernel_rfl) (of_decide_eq_true (by kernel_rfl)) k0 bel lt0) (trodAll_cons_mk (Below.trod laidOut (by kernel_rfl) (of_decide_eq_true (by kernel_rfl)) k1 bel lt1) trodAll_mk0)), rfl, bel.frame _, fun h => by cases h⟩

theorem fnSums_holds : Rows.FnSumsSaid :=
  OpenClaim.holds_of_wide 3 Try.f3 rfl rfl rfl rfl rfl rfl rfl ⟨rfl, rfl, rfl, rfl, rfl⟩ rfl rfl rfl rfl rfl (by kernel_rfl) Try.func3 (by kernel_rfl)
    (of_decide_eq_true (by kernel_rfl)) (by unfold Func.isWrapper; first | (rw [if_pos (by decide +kernel)]; kernel_rfl) | (rw [if_neg (by decide +kernel)]; exact ⟨rfl, rfl⟩))
    (fun os started H enc _ => lawSums_lifted os started H enc)
#print axioms fnSums_holds
end Go.Proofs.Ytfkkfifjgkoicaa
