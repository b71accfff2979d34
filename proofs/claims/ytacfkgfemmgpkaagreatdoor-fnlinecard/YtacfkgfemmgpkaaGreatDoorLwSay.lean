/- Numbers as text, said behind a word, and fields, in the laws: lwDec, lwSay, lwField. (made by tools/mklwsay.py) -/
import Derived.Test.YtacfkgfemmgpkaaGreatDoorDrawCs
import Derived.Test.YtacfkgfemmgpkaaGreatDoorDecL
import Derived.Test.YtacfkgfemmgpkaaGreatDoorBytSeen
import Derived.Test.YtacfkgfemmgpkaaGreatDoorWeak
namespace Go.Proofs.YtacfkgfemmgpkaaGreatDoor
open Go.RowKit

theorem dec_digit {v : Nat} (h : v < 10) : dec (v : Int) = strOfNums [48 + (v : Int)] := by
  rw [dec_small h]
  have : (48 + (v : Int)).toNat = 48 + v := by omega
  simp [strOfNums, this]

set_option maxRecDepth 20000 in
set_option maxHeartbeats 4000000 in
theorem lwDecP_calls (v : Nat) (h1 : v ≤ 9223372036854775807) : ∀ w : World, Calls Tryz.prog 19 #[.int .i64 (v : Int)] w fun e w' => e = .returned (.string (dec (v : Int))) ∧ Chg 0 0 w w' := by
  induction v using Nat.strongRecOn with
  | ind v ih =>
    intro w
    have hn : ¬ (v : Int) < 0 := by omega
    have lr1 := letter_run
    have hmx : Tryz.prog.follows .mixedOrders = true := by kernel_rfl
    by_cases hs : v < 10
    · have hs' : (v : Int) < 10 := by omega
      obtain ⟨r, Hr⟩ : ∃ r, Hid (r = dec (v : Int)) := ⟨_, rfl⟩
      rw [← Hr.out]
      have e1 : IntKind.i64.wrap (48 + (v : Int)) = 48 + (v : Int) := by rw [IntKind.wrap_i64]; omega
      have e2 : IntKind.u8.wrap (48 + (v : Int)) = 48 + (v : Int) := by rw [IntKind.wrap_u8]; omega
      have HC : Hid (Chg 0 0 w (w.alloc (.cells #[.int .u8 (48 + (v : Int))] 5))) := Chg.alloc (Chg.refl 0 0 w) _
      have HR : Hid (strOfNums [48 + (v : Int)] = r) := by show _ = _; rw [Hr.out, dec_digit hs]
      clear ih Hr
      go_enter Tryz.func19, Tryz.ntmps19
      go_wp2
      go_ret
      exact ⟨by rw [← HR.out]; rfl, HC.out⟩
    · have hs' : ¬ (v : Int) < 10 := by omega
      obtain ⟨a, ha⟩ : ∃ a, a = v / 10 := ⟨_, rfl⟩
      obtain ⟨b, hb⟩ : ∃ b, b = v % 10 := ⟨_, rfl⟩
      have i1 := ih a (by omega) (by omega)
      have Hd : Hid (dec (v : Int) = dec (a : Int) ++ strOfNums [48 + (b : Int)]) := by show _ = _; rw [ha, hb, ← dec_digit (by omega)]; exact dec_big (by omega)
      have hsz1 := dec_size (a : Int) (by omega) (by omega)
      have e1 : (v : Int).tdiv 10 = (a : Int) := by rw [Int.tdiv_eq_ediv_of_nonneg (by omega)]; omega
      have e2 : (v : Int).tmod 10 = (b : Int) := by rw [Int.tmod_eq_emod_of_nonneg (by omega)]; omega
      have e3 : IntKind.i64.wrap (a : Int) = (a : Int) := by rw [IntKind.wrap_i64]; omega
      have e4 : IntKind.i64.wrap (b : Int) = (b : Int) := by rw [IntKind.wrap_i64]; omega
      have e5 : IntKind.i64.wrap (48 + (b : Int)) = 48 + (b : Int) := by rw [IntKind.wrap_i64]; omega
      have e6 : IntKind.u8.wrap (48 + (b : Int)) = 48 + (b : Int) := by rw [IntKind.wrap_u8]; omega
      have hb10 : b < 10 := by omega
      rw [Hd.out]
      clear ha hb ih Hd
      generalize dec (a : Int) = da at *
      have hsz2 : da.size + (strOfNums [48 + (b : Int)]).size ≤ 9223372036854775807 := by rw [letter_size]; omega
      go_enter Tryz.func19, Tryz.ntmps19
      go_wp2_with fail
      refine held_region (fun _ => True) hmx ?_
      have cD : Chg 0 0 w w.drew := Chg.drew (Chg.refl 0 0 w)
      generalize w.drew = wd at *
      refine held_take 0 (.int .i64 v) rfl (by kernel_rfl) (by kernel_rfl) (by kernel_rfl) (fun _ _ _ h => h) (.inl ⟨by kernel_rfl, fun w' hw' => by go_simp⟩) trivial ?_
      go_simp
      refine held_take 1 (.int .i64 a) rfl (by kernel_rfl) (by kernel_rfl) (by kernel_rfl) (fun _ _ _ h => h) (.inl ⟨by kernel_rfl, fun w' hw' => by go_simp⟩) trivial ?_
      go_simp
      refine held_take 3 (.int .i64 v) rfl (by kernel_rfl) (by kernel_rfl) (by kernel_rfl) (fun _ _ _ h => h) (.inl ⟨by kernel_rfl, fun w' hw' => by go_simp⟩) trivial ?_
      go_simp
      refine held_take 4 (.int .i64 b) rfl (by kernel_rfl) (by kernel_rfl) (by kernel_rfl) (fun _ _ _ h => h) (.inl ⟨by kernel_rfl, fun w' hw' => by go_simp⟩) trivial ?_
      go_simp
      refine held_take 5 (.int .i64 (48 + (b : Int))) rfl (by kernel_rfl) (by kernel_rfl) (by kernel_rfl) (fun _ _ _ h => h) (.inl ⟨by kernel_rfl, fun w' hw' => by go_simp⟩) trivial ?_
      go_simp
      refine held_take 6 (.int .u8 (48 + (b : Int))) rfl (by kernel_rfl) (by kernel_rfl) (by kernel_rfl) (fun _ _ _ h => h) (.inl ⟨by kernel_rfl, fun w' hw' => by go_simp⟩) trivial ?_
      go_simp
      refine held_two 2 7 rfl rfl rfl rfl (by kernel_rfl) ?_ ?_
      · skip
        refine wp_enter 19 #[.int .i64 a] (by first | kernel_rfl | go_simp) (i1 wd) ?_
        rintro e w1 ⟨rfl, cc⟩
        have H1 : Hid (Chg 0 0 w (w1.alloc (.cells #[.int .u8 (48 + (b : Int))] 5))) := (cD.trans cc).alloc _
        refine ⟨_, rfl, trivial, ?_⟩
        go_simp
        refine held_one 7 rfl rfl (by kernel_rfl) ?_
        go_simp
        refine held_one 8 rfl rfl (by kernel_rfl) ?_
        go_simp
        refine held_take 9 (.string (da ++ strOfNums [48 + (b : Int)])) rfl (by kernel_rfl) (by kernel_rfl) (by kernel_rfl) (fun _ _ _ h => h) (.inl ⟨by kernel_rfl, fun w' hw' => by go_simp⟩) trivial ?_
        go_simp
        refine held_one 10 rfl rfl (by kernel_rfl) ?_
        go_simp
        refine ⟨by kernel_rfl, NoPanic.normal ?_⟩
        go_wp2
        go_ret
        exact ⟨rfl, H1.out⟩
      · have VB : View (wd.alloc (.cells #[.int .u8 (48 + (b : Int))] 5)) wd.heap.size (wd.heap.size + 1) .u8 (.slice (some ⟨wd.heap.size, 0, none⟩) 1 1) [48 + (b : Int)] := row_view (w := wd.alloc (.cells #[.int .u8 (48 + (b : Int))] 5)) (b := wd.heap.size) (xs := [48 + (b : Int)]) (t := 5) (heap_new wd _) 0 1 1 (by simp) (by simp) (Nat.le_refl _)
        go_simp
        refine held_two 2 8 rfl rfl rfl rfl (by kernel_rfl) ?_ ?_
        · skip
          refine wp_enter 19 #[.int .i64 a] (by first | kernel_rfl | go_simp) (i1 (wd.alloc (.cells #[.int .u8 (48 + (b : Int))] 5))) ?_
          rintro e w1 ⟨rfl, cc⟩
          have H1 : Hid (Chg 0 0 w w1) := (cD.alloc _).trans cc
          have X := (VB.chg cc (by omega)).str
          refine ⟨_, rfl, trivial, ?_⟩
          go_simp
          refine held_one 8 rfl rfl (by kernel_rfl) ?_
          go_simp
          refine held_take 9 (.string (da ++ strOfNums [48 + (b : Int)])) rfl (by kernel_rfl) (by kernel_rfl) (by kernel_rfl) (fun _ _ _ h => h) (.inl ⟨by kernel_rfl, fun w' hw' => by go_simp⟩) trivial ?_
          go_simp
          refine held_one 10 rfl rfl (by kernel_rfl) ?_
          go_simp
          refine ⟨by kernel_rfl, NoPanic.normal ?_⟩
          go_wp2
          go_ret
          exact ⟨rfl, H1.out⟩
        · go_simp
          refine held_one 2 rfl rfl (by kernel_rfl) ?_
          refine wp_enter 19 #[.int .i64 a] (by first | kernel_rfl | go_simp) (i1 (wd.alloc (.cells #[.int .u8 (48 + (b : Int))] 5))) ?_
          rintro e w1 ⟨rfl, cc⟩
          have H1 : Hid (Chg 0 0 w w1) := (cD.alloc _).trans cc
          refine ⟨_, rfl, trivial, ?_⟩
          go_simp
          refine held_take 9 (.string (da ++ strOfNums [48 + (b : Int)])) rfl (by kernel_rfl) (by kernel_rfl) (by kernel_rfl) (fun _ _ _ h => h) (.inl ⟨by kernel_rfl, fun w' hw' => by go_simp⟩) trivial ?_
          go_simp
          refine held_one 10 rfl rfl (by kernel_rfl) ?_
          go_simp
          refine ⟨by kernel_rfl, NoPanic.normal ?_⟩
          go_wp2
          go_ret
          exact ⟨rfl, H1.out⟩

set_option maxHeartbeats 2000000 in
theorem lwDec_calls (w : World) (v : Int) (h0 : -9223372036854775807 ≤ v) (h1 : v ≤ 9223372036854775807) : Calls Tryz.prog 19 #[.int .i64 v] w fun e w' => e = .returned (.string (dec v)) ∧ Chg 0 0 w w' := by
  by_cases h : v < 0
  · have i1 := lwDecP_calls v.natAbs (by omega)
    have Hd : Hid (dec v = ⟨#[45]⟩ ++ dec (v.natAbs : Int)) := by
      show _ = _
      have := dec_neg (v := v.natAbs) (by omega)
      rw [show -(v.natAbs : Int) = v by omega] at this
      exact this
    have hsz1 := dec_size (v.natAbs : Int) (by omega) (by omega)
    have e3 : IntKind.i64.wrap (-v) = (v.natAbs : Int) := by rw [IntKind.wrap_i64]; omega
    rw [Hd.out]
    clear Hd
    generalize dec (v.natAbs : Int) = da at *
    generalize v.natAbs = n at *
    go_enter Tryz.func19, Tryz.ntmps19
    go_wp2_with fail
    refine (i1 _).mono ?_
    rintro e w1 ⟨rfl, c1⟩
    have H1 : Hid (Chg 0 0 w w1) := c1
    clear c1 i1
    go_wp2
    go_ret
    exact ⟨rfl, H1.out⟩
  · have := lwDecP_calls v.natAbs (by omega) w
    rw [show (v.natAbs : Int) = v by omega] at this
    exact this

set_option maxRecDepth 20000 in
set_option maxHeartbeats 2000000 in
theorem lwSay_calls (w : World) (word : ByteArray) (ns : List Int) {lo hi : Nat} {ao : Option Addr} {cap : Nat} (hl : ns.length ≤ 5) (hs : word.size ≤ 4000) (hI : In64 ns) (hI2 : ∀ n ∈ ns, -9223372036854775807 ≤ n) (hv : View w lo hi .i64 (.slice ao ns.length cap) ns) :
    Calls Tryz.prog 9 #[.string word, .slice ao ns.length cap] w fun e w' => e = .returned (.string (say word ns)) ∧ Chg 0 0 w w' := by
  have HV : Hid (View w lo hi .i64 (.slice ao ns.length cap) ns) := hv
  clear hv
  go_enter Tryz.func9, Tryz.ntmps9
  go_wp2
  go_loopw [0, 5] (fun x i wr => ∃ (k : Nat), k ≤ ns.length ∧ i = .int .i64 k ∧ x = .string (say word (ns.take k)) ∧ Chg 0 0 w wr) (fun _ i _ => ns.length - (RowKit.intOf i).toNat)
  case atStart => exact ⟨0, Nat.zero_le _, rfl, by simp [say], Chg.refl _ _ _⟩
  case round =>
    obtain ⟨k, hk, rfl, rfl, hch⟩ := hrel
    have HC : Hid (Chg 0 0 w wr) := hch
    clear hch
    by_cases hlt : k < ns.length
    · have hi1 : (k : Int) < (ns.length : Int) := by omega
      have hm : ns.getD k 0 ∈ ns := by
        rw [List.getD_eq_getElem?_getD, List.getElem?_eq_getElem hlt]
        exact List.getElem_mem _
      obtain ⟨b, off, rfl, hc⟩ : ∃ b off, ao = some ⟨b, off, none⟩ ∧ wr.cell? ⟨b, off + k, none⟩ = some (.int .i64 (ns.getD k 0)) := by
        obtain ⟨ao', cap', e, _, _, h3⟩ := HV.out.chg HC.out (by omega)
        simp only [Value.slice.injEq] at e
        rcases h3 with h3 | ⟨b, off, e2, _, _, h4⟩
        · rw [h3] at hlt; simp at hlt
        · exact ⟨b, off, by rw [e.1, e2], h4 k hlt⟩
      have hF := lwDec_calls wr (ns.getD k 0) (hI2 _ hm) (hI _ hm).2
      have hz1 := say_size word ns hI k (by omega)
      have hz2 := dec_size (ns.getD k 0) (hI _ hm).1 (hI _ hm).2
      have HS : Hid (say word (ns.take (k + 1)) = (say word (ns.take k) ++ ⟨#[32]⟩) ++ dec (ns.getD k 0)) := by
        show _ = _
        rw [say_succ word ns k hlt]
        apply ByteArray.ext
        simp only [ByteArray.data_append, Array.append_assoc]
      have hz3 : (say word (ns.take k) ++ ⟨#[32]⟩ : ByteArray).size ≤ 5000 := by
        rw [ByteArray.size_append]
        have e : (⟨#[32]⟩ : ByteArray).size = 1 := rfl
        omega
      generalize say word (ns.take k) = s1 at *
      generalize ns.getD k 0 = x at *
      generalize dec x = d at *
      go_wp2_with fail
      refine hF.mono ?_
      rintro e w2 ⟨rfl, c2⟩
      have HC2 : Hid (Chg 0 0 w w2) := HC.out.trans c2
      clear c2 hF
      go_wp2
      go_roundw
      case rel => exact ⟨k + 1, by omega, by go_num, by rw [HS.out], HC2.out⟩
      case measure => simp [RowKit.intOf]; omega
    · obtain rfl : k = ns.length := by omega
      have hi1 : ¬ ((ns.length : Nat) : Int) < (ns.length : Int) := by omega
      rw [List.take_length]
      go_wp2
      go_ret
      exact ⟨rfl, HC.out⟩

/-- A field of a line: not empty, no blank in it. -/
def Fld (t : ByteArray) : Prop := 0 < t.size ∧ ∀ i, i < t.size → chr t i ≠ 32

def FldPost (w : World) (t : ByteArray) (e : Ending) (w' : World) : Prop := ∃ b : Bool, e = .returned (.bool b) ∧ (b = true → Fld t) ∧ w' = w

set_option maxRecDepth 20000 in
set_option maxHeartbeats 2000000 in
theorem lwField_calls (w : World) (t : ByteArray) (ht : t.size ≤ 1048576) : Calls Tryz.prog 15 #[.string t] w (FldPost w t) := by
  go_enter Tryz.func15, Tryz.ntmps15
  go_wp2
  go_loopw [3] (fun x wr => ∃ k : Nat, k ≤ t.size ∧ x = .int .i64 k ∧ wr = w ∧ ∀ i, i < k → chr t i ≠ 32) (fun x _ => t.size - (RowKit.intOf x).toNat)
  case atStart => exact ⟨0, Nat.zero_le _, rfl, rfl, by omega⟩
  case round =>
    obtain ⟨k, hk, rfl, hw, hR⟩ := hrel
    obtain rfl : w = wr := hw.symm
    by_cases hlt : k < t.size
    · have hi : (k : Int) < (t.size : Int) := by omega
      have hc : t[k].toNat = chr t k := (chr_lt hlt).symm
      by_cases h32 : chr t k = 32
      · have hc2 : t[k].toNat = 32 := by rw [hc, h32]
        go_wp2
        go_ret
        exact ⟨false, rfl, by simp, rfl⟩
      · have hb1 : (((chr t k : Nat) : Int) == 32) = false := by rw [beq_eq_false_iff_ne]; omega
        have HS : Hid (∀ i, i < k + 1 → chr t i ≠ 32) := fun i hi => by
          by_cases e : i = k
          · rw [e]; exact h32
          · exact hR i (by omega)
        by_cases h10 : chr t k = 10
        · have hb2 : (((chr t k : Nat) : Int) == 10) = true := by rw [h10]; rfl
          generalize chr t k = cc at *
          go_wp2
          go_ret
          exact ⟨false, rfl, by simp, rfl⟩
        · have hb2 : (((chr t k : Nat) : Int) == 10) = false := by rw [beq_eq_false_iff_ne]; omega
          generalize chr t k = cc at *
          clear hR
          go_wp2
          go_roundw
          case rel => exact ⟨k + 1, by omega, by go_num, by first | rfl | trivial, HS.out⟩
          case measure => simp [RowKit.intOf]; omega
    · have hi : ¬ ((k : Int) < (t.size : Int)) := by omega
      obtain rfl : k = t.size := by omega
      by_cases h0 : 0 < t.size
      · have h0i : (0 : Int) < (t.size : Int) := by omega
        have HF : Hid (Fld t) := ⟨h0, hR⟩
        clear hR
        go_wp2
        go_ret
        exact ⟨true, rfl, fun _ => HF.out, rfl⟩
      · have h0i : ¬ ((0 : Int) < (t.size : Int)) := by omega
        clear hR
        go_wp2
        go_ret
        exact ⟨false, rfl, by simp, rfl⟩

end Go.Proofs.YtacfkgfemmgpkaaGreatDoor
