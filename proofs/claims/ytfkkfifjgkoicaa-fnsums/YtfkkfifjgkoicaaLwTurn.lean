/- lwTurn of the laws: some bits turned, all within 32 in a row. -/
import Derived.Test.YtfkkfifjgkoicaaLwAt
import Derived.Test.YtfkkfifjgkoicaaSteps
import Derived.Laws.AppendOwnNone
import Derived.Deep.MidRow
namespace Go.Proofs.Ytfkkfifjgkoicaa
open Go.RowKit

theorem Try.infoU3 : (Try.prog.info? 5).map (fun i => (i.zero, i.size, i.bytes)) = some (some (.int .u8 0), 1, 1) := by kernel_rfl

/-- ys is xs with some bits turned, of those from at' on k in a row, the first of them among them. -/
structure Turned (xs ys : List Int) (at' k : Nat) : Prop where
  byt : Byt ys
  len : ys.length = xs.length
  out : ∀ n, n < at' ∨ at' + k ≤ n → bitAt (nb ys) n = bitAt (nb xs) n
  first : 0 < k → bitAt (nb ys) at' ≠ bitAt (nb xs) at'

theorem Turned.zero {xs : List Int} (h : Byt xs) (at' : Nat) : Turned xs xs at' 0 := ⟨h, rfl, fun _ _ => rfl, fun h => by omega⟩

theorem Turned.skip {xs ys : List Int} {at' k : Nat} (h : Turned xs ys at' k) (hk : 0 < k) : Turned xs ys at' (k + 1) :=
  ⟨h.byt, h.len, fun n hn => h.out n (by omega), fun _ => h.first hk⟩

theorem Turned.full {xs ys : List Int} {at' k : Nat} (h : Turned xs ys at' k) (hk : k ≤ 32) (h0 : 0 < k) : Turned xs ys at' 32 := by
  refine ⟨h.byt, h.len, fun n hn => ?_, fun _ => h.first h0⟩
  exact h.out n (by omega)

theorem nb_getD (ys : List Int) (q : Nat) : (nb ys)[q]?.getD 0 = (ys.getD q 0).toNat := by
  unfold nb
  rw [List.getElem?_map, List.getD_eq_getElem?_getD]
  cases ys[q]? <;> rfl

theorem Turned.flip {xs ys : List Int} {at' k : Nat} (h : Turned xs ys at' k) (hk : (at' + k) / 8 < xs.length) :
    Turned xs (ys.set ((at' + k) / 8) (((ys.getD ((at' + k) / 8) 0).toNat ^^^ 2 ^ ((at' + k) % 8) : Nat) : Int)) at' (k + 1) := by
  have hr : (at' + k) % 8 < 8 := Nat.mod_lt _ (by omega)
  have hb := h.byt.getD ((at' + k) / 8)
  have hn : nb (ys.set ((at' + k) / 8) (((ys.getD ((at' + k) / 8) 0).toNat ^^^ 2 ^ ((at' + k) % 8) : Nat) : Int)) = (nb ys).set ((at' + k) / 8) ((nb ys)[(at' + k) / 8]?.getD 0 ^^^ 2 ^ ((at' + k) % 8)) := by
    rw [nb_getD]; unfold nb; rw [List.map_set]; rfl
  have hfl := bitAt_flip (nb ys) ((at' + k) / 8) ((at' + k) % 8) (by rw [nb, List.length_map, h.len]; exact hk) hr
  have e : 8 * ((at' + k) / 8) + (at' + k) % 8 = at' + k := by omega
  refine ⟨?_, by rw [List.length_set]; exact h.len, fun n hn' => ?_, fun _ => ?_⟩
  · intro x hx
    rcases List.mem_or_eq_of_mem_set hx with hx | rfl
    · exact h.byt x hx
    · have : (ys.getD ((at' + k) / 8) 0).toNat ^^^ 2 ^ ((at' + k) % 8) < 2 ^ 8 := Nat.xor_lt_two_pow (by omega) (Nat.pow_lt_pow_right (by omega) hr)
      omega
  · rw [hn, hfl n, if_neg (by omega)]; exact h.out n (by omega)
  · rw [hn, hfl at']
    by_cases hk0 : k = 0
    · subst hk0
      rw [if_pos (by omega)]
      have := bitAt_lt (nb ys) at'
      have h2 := h.out at' (by omega)
      have := bitAt_lt (nb xs) at'
      omega
    · rw [if_neg (by omega)]; exact h.first (by omega)

theorem xor8 (x : Int) (u : Nat) (h0 : 0 ≤ x) (h1 : x < 256) (hu : u < 256) : bits .xor .u8 x (u : Int) = ((x.toNat ^^^ u : Nat) : Int) := by
  have := u8_xor x u h0 h1 (by omega) (by omega)
  simpa using this

set_option maxRecDepth 20000 in
set_option maxHeartbeats 4000000 in
theorem lwTurn_calls (w : World) (at' : Nat) {lo hi lo2 hi2 : Nat} {a m : Value} {xs ms : List Int} (hB : Byt xs) (hM : Byt ms) (h1 : View w lo hi .u8 a xs) (h2 : View w lo2 hi2 .u8 m ms) (hl : xs.length ≤ 1048576) (hml : ms.length ≤ 1048576) (hat : at' < 8 * xs.length) :
    Calls Try.prog 8 #[a, .int .i64 at', m] w fun e w' => ∃ v, e = .returned v ∧ ∃ ys, OwnB w' w.heap.size 5 v ys ∧ Turned xs ys at' 32 ∧ Chg 0 0 w w' := by
  obtain ⟨i, hi, hz0, hz1, hz2⟩ := info_parts Try.infoU3
  obtain ⟨ao, cap, rfl, _, _, h1⟩ := h1
  obtain ⟨b, off, rfl, hc⟩ : ∃ b off, ao = some ⟨b, off, none⟩ ∧ ∀ i, i < xs.length → w.cell? ⟨b, off + i, none⟩ = some (.int .u8 (xs.getD i 0)) := by
    rcases h1 with h | ⟨b, off, e, _, _, h3⟩
    · rw [h] at hat; simp at hat
    · exact ⟨b, off, e, h3⟩
  have mv := h2
  obtain ⟨mo, mcap, rfl, _, _, _⟩ := h2
  have C0 : Chg 0 0 w (w.alloc (.cells #[] 5)) := Chg.alloc (Chg.refl 0 0 w) _
  have HO0 : Hid ((w.alloc (.cells #[] 5)).ownsRow w.heap.size 5 1 (.slice (some ⟨w.heap.size, 0, none⟩) 0 0) 0 []) := by
    show World.ownsRow _ _ _ _ _ _ _
    have := World.ownsRow_lit (base := w.heap.size) (e := 5) (size := 1) w #[] 0 (Nat.le_refl _) (by unfold maxLen; omega) rfl
    simpa using this
  have Hsrc : Hid (∀ j u, (xs.map (Value.int .u8))[j]? = some u → (w.alloc (.cells #[] 5)).cell? ((⟨b, off, none⟩ : Addr).add j) = some u) := by
    intro j u hj
    have hjl : j < xs.length := by have := (List.getElem?_eq_some_iff.1 hj).1; simpa using this
    rw [Addr.add_mid, C0.cell (hc j hjl) (by omega), ← hj]
    simp [List.getD_eq_getElem?_getD, hjl]
  have bs : Hid (w.heap.size ≤ (w.alloc (.cells #[] 5)).heap.size) := by show _ ≤ _; simp
  have HC0 : Hid (Chg 0 0 w (w.alloc (.cells #[] 5))) := C0
  have HB : Hid (Byt xs) := hB
  clear h1 C0 hc hB
  go_enter Try.func8, Try.ntmps8
  go_wp2_with (at_builtin; refine wpList_append_own _ rfl (.tmp 12) (.tmp 13) 22 rfl w.heap.size 5 i (.int .u8 0) 1 1 Try.underlying22 hi hz0 hz1 hz2 rfl (by decide) _ 0 [] rfl HO0.out ⟨b, off, none⟩ xs.length cap (xs.map (Value.int .u8)) rfl (by simp) Hsrc.out (ints_oneCell _ _) (by unfold maxLen; omega) (by omega) bs.out ?_)
  intro v' w1 hown hgrow hnn
  obtain ⟨g, gc, hg⟩ : ∃ g gc, v' = .slice (some ⟨g, 0, none⟩) xs.length gc := by
    rcases hown.2 with ⟨e, h0⟩ | ⟨g', cap', cur, e, _⟩
    · omega
    · exact ⟨g', cap', e⟩
  subst hg
  have HO : Hid (OwnB w1 w.heap.size 5 (.slice (some ⟨g, 0, none⟩) xs.length gc) xs) := by
    show OwnB _ _ _ _ _
    unfold OwnB
    simpa using hown
  have hgb : w.heap.size ≤ g := (World.ownsRow.lt hown g rfl).1
  have HC : Hid (Chg 0 0 w w1) := HC0.out.step (Chg.ofGrown (lo := w.heap.size) (hi := w.heap.size + 1) hgrow (fun k hk _ => by simp only [Value.ownBlock, Option.some.injEq] at hk; omega)) (Or.inr (Or.inl (Nat.le_refl _)))
  clear hown hgrow HO0 HC0 Hsrc bs hnn
  go_wp2
  go_loopw [9] (fun j wr => ∃ (k : Nat) (ys : List Int), k ≤ 32 ∧ at' + k ≤ 8 * xs.length ∧ j = .int .i64 k ∧ OwnB wr w.heap.size 5 (.slice (some ⟨g, 0, none⟩) xs.length gc) ys ∧ Turned xs ys at' k ∧ Chg 0 0 w wr) (fun j _ => 32 - (intOf j).toNat)
  case atStart => exact ⟨0, xs, by omega, by omega, rfl, HO.out, Turned.zero HB.out at', HC.out⟩
  case round =>
    obtain ⟨k, ys, hk, hkl, rfl, ho, ht, hch⟩ := hrel
    clear HO HC
    have hlen := ht.len
    have ho' : wr.ownsRow w.heap.size 5 1 (.slice (some ⟨g, 0, none⟩) xs.length gc) xs.length (ys.map (Value.int .u8)) := by
      have := ho; unfold OwnB at this; rw [hlen] at this; exact this
    by_cases hk32 : k < 32 ∧ at' + k < 8 * xs.length
    · obtain ⟨hk1, hk2⟩ := hk32
      have hk1' : (k : Int) < 32 := by omega
      have hk2' : (at' : Int) + k < 8 * (xs.length : Int) := by omega
      obtain ⟨q, hq⟩ : ∃ q, q = (at' + k) / 8 := ⟨_, rfl⟩
      obtain ⟨r, hr⟩ : ∃ r, r = (at' + k) % 8 := ⟨_, rfl⟩
      have hql : q < xs.length := by omega
      have eq : ((at' : Int) + k) / 8 = (q : Int) := by omega
      have er : ((at' : Int) + k) % 8 = (r : Int) := by omega
      have hr8 : r < 8 := by omega
      have hy := ht.byt.getD q
      have c1 : wr.cell? ⟨g, q, none⟩ = some (.int .u8 (ys.getD q 0)) := by
        rw [World.ownsRow.cellAt ho' q (by omega)]
        simp [List.getD_eq_getElem?_getD, hlen, hql]
      have f1 : wr.frozen? ⟨g, q, none⟩ = false := World.ownsRow.frozenAt ho' q
      have mvr := mv.chg hch (by omega)
      have HF : Hid (Turned xs (ys.set q (((ys.getD q 0).toNat ^^^ 2 ^ r : Nat) : Int)) at' (k + 1)) := by
        show Turned _ _ _ _
        rw [hq, hr]; exact ht.flip (by omega)
      have hu8 : 2 ^ r < 2 ^ 8 := Nat.pow_lt_pow_right (by omega) hr8
      have hx8 := xor8 (ys.getD q 0) (2 ^ r) hy.1 hy.2 (by omega)
      have HR : Hid (OwnB (wr.setCell ⟨g, q, none⟩ (.int .u8 (((ys.getD q 0).toNat ^^^ 2 ^ r : Nat) : Int))) w.heap.size 5 (.slice (some ⟨g, 0, none⟩) xs.length gc) (ys.set q (((ys.getD q 0).toNat ^^^ 2 ^ r : Nat) : Int))) := by
        show OwnB _ _ _ _ _
        unfold OwnB
        rw [List.length_set, hlen, List.map_set]
        exact (World.ownsRow.stored ho' q _).1
      have HCR : Hid (Chg 0 0 w (wr.setCell ⟨g, q, none⟩ (.int .u8 (((ys.getD q 0).toNat ^^^ 2 ^ r : Nat) : Int)))) := hch.setCell (Or.inr hgb) _
      have HT : Hid (Turned xs ys at' k) := ht
      have HOy : Hid (OwnB wr w.heap.size 5 (.slice (some ⟨g, 0, none⟩) xs.length gc) ys) := ho
      have HCy : Hid (Chg 0 0 w wr) := hch
      have HQ : Hid (q = (at' + k) / 8 ∧ r = (at' + k) % 8) := ⟨hq, hr⟩
      have hq' : (q : Int) < (xs.length : Int) := by omega
      generalize hyq : ys.getD q 0 = y at *
      generalize hz : (((y.toNat ^^^ 2 ^ r : Nat) : Int)) = z at *
      have HX : Hid (bits .xor .u8 y ((2 ^ r : Nat) : Int) = z) := hx8
      clear ht ho ho' hlen hch hq hr hx8 hyq hz
      by_cases hk0 : k = 0
      · have hb : ((k : Int) == 0) = true := by rw [hk0]; rfl
        clear mvr hk0
        go_wp2
        go_loop [10, 11] (fun u j => ∃ s : Nat, s ≤ r ∧ j = .int .i64 s ∧ u = .int .u8 ((2 ^ s : Nat) : Int)) (fun _ j => r - (intOf j).toNat)
        case atStart => exact ⟨0, by omega, rfl, rfl⟩
        case round =>
          obtain ⟨s, hs, rfl, rfl⟩ := hrel
          by_cases hsr : s < r
          · have hp : 2 ^ s < 2 ^ 7 := Nat.pow_lt_pow_right (by omega) (by omega)
            have HP : Hid (2 ^ (s + 1) = 2 ^ s * 2) := Nat.pow_succ ..
            have hsr' : (s : Int) < (r : Int) := by omega
            generalize 2 ^ s = u at *
            go_wp2
            go_round
            case rel => exact ⟨s + 1, by omega, by go_num, by rw [HP.out]; go_num⟩
            case measure => simp [intOf]; omega
          · obtain rfl : s = r := by omega
            have hx := HX.out
            generalize ((2 ^ s : Nat) : Int) = u at *
            go_wp2
            go_roundw
            case rel => exact ⟨k + 1, _, by omega, by omega, by go_num, HR.out, HF.out, HCR.out⟩
            case measure => simp [intOf]; omega
      · have hb : ((k : Int) == 0) = false := by simp only [beq_eq_false_iff_ne, ne_eq]; omega
        have e3 : Hid ((3 : Int) + k = ((3 + k : Nat) : Int)) := by show _ = _; omega
        go_wp2_with fail
        rw [e3.out]
        refine (lwAt_calls _ (3 + k) 2 (by omega) (by omega) hM mvr hml).mono ?_
        rintro e w2 ⟨⟨d, rfl, hd, _⟩, hsm⟩
        have hd := hd (by omega)
        clear e3 mvr
        by_cases hd1 : d = 1
        · have hdb : ((d : Int) == 1) = true := by rw [hd1]; rfl
          have hs2 : Same (wr.setCell ⟨g, q, none⟩ (.int .u8 z)) (w2.setCell ⟨g, q, none⟩ (.int .u8 z)) := ⟨by simp [World.setCell, hsm.heap], hsm.os, hsm.tape, hsm.output⟩
          have HR2 : Hid (OwnB (w2.setCell ⟨g, q, none⟩ (.int .u8 z)) w.heap.size 5 (.slice (some ⟨g, 0, none⟩) xs.length gc) (ys.set q z)) := HR.out.chg (hs2.chg 0 0) (by intro g _; omega)
          have HCR2 : Hid (Chg 0 0 w (w2.setCell ⟨g, q, none⟩ (.int .u8 z))) := HCR.out.trans (hs2.chg 0 0)
          have c1 := (hsm.cell _).trans c1
          have f1 := (hsm.frozen _).trans f1
          clear hsm hs2 HR HCR HOy HCy HT hd1
          go_wp2
          go_loop [10, 11] (fun u j => ∃ s : Nat, s ≤ r ∧ j = .int .i64 s ∧ u = .int .u8 ((2 ^ s : Nat) : Int)) (fun _ j => r - (intOf j).toNat)
          case atStart => exact ⟨0, by omega, rfl, rfl⟩
          case round =>
            obtain ⟨s, hs, rfl, rfl⟩ := hrel
            by_cases hsr : s < r
            · have hp : 2 ^ s < 2 ^ 7 := Nat.pow_lt_pow_right (by omega) (by omega)
              have HP : Hid (2 ^ (s + 1) = 2 ^ s * 2) := Nat.pow_succ ..
              have hsr' : (s : Int) < (r : Int) := by omega
              generalize 2 ^ s = u at *
              go_wp2
              go_round
              case rel => exact ⟨s + 1, by omega, by go_num, by rw [HP.out]; go_num⟩
              case measure => simp [intOf]; omega
            · obtain rfl : s = r := by omega
              have hx := HX.out
              generalize ((2 ^ s : Nat) : Int) = u at *
              go_wp2
              go_roundw
              case rel => exact ⟨k + 1, _, by omega, by omega, by go_num, HR2.out, HF.out, HCR2.out⟩
              case measure => simp [intOf]; omega
        · have hdb : ((d : Int) == 1) = false := by simp only [beq_eq_false_iff_ne, ne_eq]; omega
          have HO2 : Hid (OwnB w2 w.heap.size 5 (.slice (some ⟨g, 0, none⟩) xs.length gc) ys) := HOy.out.chg (hsm.chg 0 0) (by intro g _; omega)
          have HC2 : Hid (Chg 0 0 w w2) := HCy.out.trans (hsm.chg 0 0)
          have HT2 : Hid (Turned xs ys at' (k + 1)) := HT.out.skip (by omega)
          clear hsm HR HCR HOy HCy HT hd1 c1 f1 HF HX
          go_wp2
          go_roundw
          case rel => exact ⟨k + 1, ys, by omega, by omega, by go_num, HO2.out, HT2.out, HC2.out⟩
          case measure => simp [intOf]; omega
    · have HT2 : Hid (Turned xs ys at' 32) := ht.full hk (by omega)
      have HOy : Hid (OwnB wr w.heap.size 5 (.slice (some ⟨g, 0, none⟩) xs.length gc) ys) := ho
      have HCy : Hid (Chg 0 0 w wr) := hch
      clear ht ho ho' hlen hch
      by_cases hk1 : k < 32
      · have hk1' : (k : Int) < 32 := by omega
        have hk2' : ¬ (at' : Int) + k < 8 * (xs.length : Int) := by omega
        go_wp2
        go_ret
        exact ⟨_, rfl, ys, HOy.out, HT2.out, HCy.out⟩
      · have hk1' : ¬ (k : Int) < 32 := by omega
        go_wp2
        go_ret
        exact ⟨_, rfl, ys, HOy.out, HT2.out, HCy.out⟩

end Go.Proofs.Ytfkkfifjgkoicaa
