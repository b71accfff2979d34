/- Numbers as texts: l14Dec of the model, strconv.FormatInt at base 10; a word and numbers behind it: l14Say, told. -/
import Derived.Test.YtoagahpoblcioaaDoorShelfFmt
import Derived.Test.YtoagahpoblcioaaDoorMem
import Derived.Test.YtoagahpoblcioaaDoorRowZ
import Derived.Test.YtoagahpoblcioaaDoorViewStr
import Derived.Lib.LaidTab
import Derived.Lib.ItoaLen
import Derived.Great.BuildSlice
namespace Go.Proofs.YtoagahpoblcioaaDoor
open Go.RowKit Go.Lib

/-- A number as a text; a word and numbers behind it. -/
def dec (v : Int) : ByteArray := ⟨(Lib.itoa v).toArray⟩

theorem dec_small {v : Nat} (h : v < 10) : dec (v : Int) = ⟨#[UInt8.ofNat (48 + v)]⟩ := by
  unfold dec
  rw [itoa_nonneg, decDigits_one h]

theorem arr_app (a b : List UInt8) : (⟨(a ++ b).toArray⟩ : ByteArray) = (⟨a.toArray⟩ : ByteArray) ++ ⟨b.toArray⟩ := by
  apply ByteArray.ext
  rw [ByteArray.data_append]
  simp

theorem dec_big {v : Nat} (h : 10 ≤ v) : dec (v : Int) = dec ((v / 10 : Nat) : Int) ++ dec ((v % 10 : Nat) : Int) := by
  unfold dec
  rw [itoa_nonneg, itoa_nonneg, itoa_nonneg, decDigits_one (show v % 10 < 10 by omega), ← arr_app]
  conv => lhs; rw [decDigits, dif_neg (by omega)]

theorem dec_neg {v : Nat} (h : 1 ≤ v) : dec (-(v : Int)) = ⟨#[45]⟩ ++ dec (v : Int) := by
  unfold dec
  rw [itoa_neg v h, itoa_nonneg]
  have := arr_app [45] (decDigits v)
  exact this

theorem dec_negbig {v : Nat} (h : 10 ≤ v) : dec (-(v : Int)) = dec (-((v / 10 : Nat) : Int)) ++ dec ((v % 10 : Nat) : Int) := by
  rw [dec_neg (by omega), dec_neg (by omega), dec_big h]
  apply ByteArray.ext
  simp only [ByteArray.data_append, Array.append_assoc]

theorem dec_size (v : Int) (h0 : -9223372036854775808 ≤ v) (h1 : v ≤ 9223372036854775807) : (dec v).size ≤ 21 := by
  have := itoa_length_le v h0 h1
  unfold dec
  simpa [ByteArray.size] using this

set_option maxHeartbeats 2000000 in
theorem l14DecP_calls (v : Nat) (h1 : v ≤ 9223372036854775807) : ∀ w : World, Calls Tryd.prog 23 #[.int .i64 (v : Int)] w fun e w' => e = .returned (.string (dec (v : Int))) ∧ Chg 0 0 w w' := by
  induction v using Nat.strongRecOn with
  | ind v ih =>
    intro w
    have hn : ¬ (v : Int) < 0 := by omega
    by_cases hs : v < 10
    · have hs' : (v : Int) < 10 := by omega
      obtain ⟨r, Hr⟩ : ∃ r, Hid (r = dec (v : Int)) := ⟨_, rfl⟩
      have Hd := dec_small hs
      rw [← Hr.out]
      have e1 : IntKind.i64.wrap (48 + (v : Int)) = 48 + (v : Int) := by rw [IntKind.wrap_i64]; omega
      have e2 : IntKind.u8.wrap (48 + (v : Int)) = 48 + (v : Int) := by rw [IntKind.wrap_u8]; omega
      have hst : (convert 47 9 (.slice (some ⟨w.heap.size, 0, none⟩) 1 1)).run Tryd.prog (w.alloc (.cells #[.int .u8 (48 + (v : Int))] 5)) = .ok (.string (strOfNums [48 + (v : Int)])) (w.alloc (.cells #[.int .u8 (48 + (v : Int))] 5)) :=
        (row_view (w := w.alloc (.cells #[.int .u8 (48 + (v : Int))] 5)) (b := w.heap.size) (xs := [48 + (v : Int)]) (t := 5) (heap_new w _) 0 1 1 (by simp) (by simp) (Nat.le_refl _)).str
      have HC : Hid (Chg 0 0 w (w.alloc (.cells #[.int .u8 (48 + (v : Int))] 5))) := Chg.alloc (Chg.refl 0 0 w) _
      have HR : Hid (strOfNums [48 + (v : Int)] = r) := by
        show _ = _
        rw [Hr.out, Hd]
        have : (48 + (v : Int)).toNat = 48 + v := by omega
        simp [strOfNums, this]
      clear ih Hd Hr
      go_enter Tryd.func23, Tryd.ntmps23
      go_wp2
      go_ret
      exact ⟨by rw [← HR.out]; rfl, HC.out⟩
    · have hs' : ¬ (v : Int) < 10 := by omega
      obtain ⟨a, ha⟩ : ∃ a, a = v / 10 := ⟨_, rfl⟩
      obtain ⟨b, hb⟩ : ∃ b, b = v % 10 := ⟨_, rfl⟩
      have i1 := ih a (by omega) (by omega)
      have i2 := ih b (by omega) (by omega)
      have Hd : Hid (dec (v : Int) = dec (a : Int) ++ dec (b : Int)) := by show _ = _; rw [ha, hb]; exact dec_big (by omega)
      have hsz1 := dec_size (a : Int) (by omega) (by omega)
      have hsz2 := dec_size (b : Int) (by omega) (by omega)
      have e1 : (v : Int).tdiv 10 = (a : Int) := by rw [Int.tdiv_eq_ediv_of_nonneg (by omega)]; omega
      have e2 : (v : Int).tmod 10 = (b : Int) := by rw [Int.tmod_eq_emod_of_nonneg (by omega)]; omega
      have e3 : IntKind.i64.wrap (a : Int) = (a : Int) := by rw [IntKind.wrap_i64]; omega
      have e4 : IntKind.i64.wrap (b : Int) = (b : Int) := by rw [IntKind.wrap_i64]; omega
      rw [Hd.out]
      clear ha hb ih
      generalize dec (a : Int) = da at *
      generalize dec (b : Int) = db at *
      go_enter Tryd.func23, Tryd.ntmps23
      go_wp2_with fail
      refine (i1 _).mono ?_
      rintro e w1 ⟨rfl, c1⟩
      have H1 : Hid (Chg 0 0 w w1) := c1
      clear c1 i1
      go_wp2_with fail
      refine (i2 _).mono ?_
      rintro e w2 ⟨rfl, c2⟩
      have H2 : Hid (Chg 0 0 w w2) := H1.out.trans c2
      clear c2 i2
      go_wp2
      go_ret
      exact ⟨rfl, H2.out⟩

set_option maxHeartbeats 2000000 in
theorem l14DecN_calls (v : Nat) (h0 : 1 ≤ v) (h1 : v ≤ 9223372036854775808) : ∀ w : World, Calls Tryd.prog 23 #[.int .i64 (-(v : Int))] w fun e w' => e = .returned (.string (dec (-(v : Int)))) ∧ Chg 0 0 w w' := by
  induction v using Nat.strongRecOn with
  | ind v ih =>
    intro w
    have hn : -(v : Int) < 0 := by omega
    obtain ⟨nv, hnv⟩ : ∃ nv, nv = -(v : Int) := ⟨_, rfl⟩
    by_cases hs : v < 10
    · have hs' : ¬ nv < -9 := by omega
      have i1 := l14DecP_calls v (by omega)
      have Hd : Hid (dec (-(v : Int)) = ⟨#[45]⟩ ++ dec (v : Int)) := dec_neg h0
      have hsz1 := dec_size (v : Int) (by omega) (by omega)
      have e3 : IntKind.i64.wrap (-nv) = (v : Int) := by rw [IntKind.wrap_i64]; omega
      rw [Hd.out, ← hnv]
      rw [← hnv] at hn
      clear ih hnv
      generalize dec (v : Int) = da at *
      go_enter Tryd.func23, Tryd.ntmps23
      go_wp2_with fail
      refine (i1 _).mono ?_
      rintro e w1 ⟨rfl, c1⟩
      have H1 : Hid (Chg 0 0 w w1) := c1
      clear c1 i1
      go_wp2
      go_ret
      exact ⟨rfl, H1.out⟩
    · have hs' : nv < -9 := by omega
      obtain ⟨a, ha⟩ : ∃ a, a = v / 10 := ⟨_, rfl⟩
      obtain ⟨b, hb⟩ : ∃ b, b = v % 10 := ⟨_, rfl⟩
      have i1 := ih a (by omega) (by omega) (by omega)
      have i2 := l14DecP_calls b (by omega)
      have Hd : Hid (dec (-(v : Int)) = dec (-(a : Int)) ++ dec (b : Int)) := by show _ = _; rw [ha, hb]; exact dec_negbig (by omega)
      have hsz1 := dec_size (-(a : Int)) (by omega) (by omega)
      have hsz2 := dec_size (b : Int) (by omega) (by omega)
      have e1 : nv.tdiv 10 = -(a : Int) := by rw [hnv, Int.neg_tdiv, Int.tdiv_eq_ediv_of_nonneg (by omega)]; omega
      have e2 : nv.tmod 10 = -(b : Int) := by rw [hnv, Int.neg_tmod, Int.tmod_eq_emod_of_nonneg (by omega)]; omega
      have e3 : IntKind.i64.wrap (-(a : Int)) = -(a : Int) := by rw [IntKind.wrap_i64]; omega
      have e4 : IntKind.i64.wrap (-(b : Int)) = -(b : Int) := by rw [IntKind.wrap_i64]; omega
      have e5 : IntKind.i64.wrap (b : Int) = (b : Int) := by rw [IntKind.wrap_i64]; omega
      rw [Hd.out, ← hnv]
      rw [← hnv] at hn
      clear ha hb ih hnv
      generalize dec (-(a : Int)) = da at *
      generalize dec (b : Int) = db at *
      generalize -(a : Int) = na at *
      go_enter Tryd.func23, Tryd.ntmps23
      go_wp2_with fail
      refine (i1 _).mono ?_
      rintro e w1 ⟨rfl, c1⟩
      have H1 : Hid (Chg 0 0 w w1) := c1
      clear c1 i1
      go_wp2_with fail
      refine (i2 _).mono ?_
      rintro e w2 ⟨rfl, c2⟩
      have H2 : Hid (Chg 0 0 w w2) := H1.out.trans c2
      clear c2 i2
      go_wp2
      go_ret
      exact ⟨rfl, H2.out⟩

theorem l14Dec_calls (w : World) (v : Int) (h0 : -9223372036854775808 ≤ v) (h1 : v ≤ 9223372036854775807) : Calls Tryd.prog 23 #[.int .i64 v] w fun e w' => e = .returned (.string (dec v)) ∧ Chg 0 0 w w' := by
  by_cases h : v < 0
  · have := l14DecN_calls v.natAbs (by omega) (by omega) w
    rw [show -(v.natAbs : Int) = v by omega] at this
    exact this
  · have := l14DecP_calls v.natAbs (by omega) w
    rw [show (v.natAbs : Int) = v by omega] at this
    exact this

/-- The table of powers stands. -/
def Pow (w : World) : Prop := Lib.TabIs Tryd.prog w "internal/strconv.uint64pow10" .u64 Lib.pow10Tab
theorem Pow.chg {w w' : World} (h : Pow w) (c : Chg 0 0 w w') : Pow w' := by
  unfold Pow Lib.TabIs at h ⊢
  have hg : Tryd.prog.globalNamed "internal/strconv.uint64pow10" = some 0 := by kernel_rfl
  simp only [World.var?, hg, Option.bind_some] at h ⊢
  have hlt : 0 < w.heap.size := by
    rcases Nat.lt_or_ge 0 w.heap.size with h' | h'
    · exact h'
    · rw [Array.getElem?_eq_none h'] at h
      cases h
  rw [c.block _ hlt (by omega)]
  exact h
theorem grow_chg (w : World) (k : Nat) (os : Array Obj) : Chg 0 0 w (Go.Sort.grow (w.drewN k) os) :=
  ⟨rfl, rfl, rfl, by simp [Go.Sort.grow, World.drewN], fun j hj _ => by
    show (w.heap ++ os)[j]? = _
    rw [Array.getElem?_append_left hj]⟩

theorem format_calls (w : World) (v : Int) (h0 : -9223372036854775808 ≤ v) (h1 : v ≤ 9223372036854775807) (hp : Pow w) : Calls Tryd.prog 26 #[.int .i64 v, .int .i64 10] w fun e w' => e = .returned (.string (dec v)) ∧ Chg 0 0 w w' := by
  refine (Any.strconv_FormatInt_10 Tryd.laysM173 v h0 h1 w hp).mono ?_
  rintro e w' ⟨he, k, os, rfl⟩
  exact ⟨he, grow_chg w k os⟩

def say (word : ByteArray) (ns : List Int) : ByteArray := ns.foldl (fun a n => a ++ (⟨#[32]⟩ ++ dec n)) word
theorem say_succ (word : ByteArray) (ns : List Int) (k : Nat) (h : k < ns.length) : say word (ns.take (k + 1)) = say word (ns.take k) ++ (⟨#[32]⟩ ++ dec (ns.getD k 0)) := by
  unfold say
  rw [List.take_add_one, List.getElem?_eq_getElem h, List.foldl_append]
  simp [List.getD_eq_getElem?_getD, h]
def In64 (ns : List Int) : Prop := ∀ n ∈ ns, -9223372036854775808 ≤ n ∧ n ≤ 9223372036854775807
theorem say_size (word : ByteArray) (ns : List Int) (hI : In64 ns) (k : Nat) (h : k ≤ ns.length) : (say word (ns.take k)).size ≤ word.size + 22 * k := by
  induction k with
  | zero => simp [say]
  | succ k ih =>
    have hm : ns.getD k 0 ∈ ns := by
      rw [List.getD_eq_getElem?_getD, List.getElem?_eq_getElem (by omega)]
      exact List.getElem_mem _
    have hd := dec_size _ (hI _ hm).1 (hI _ hm).2
    rw [say_succ _ _ _ (by omega), ByteArray.size_append, ByteArray.size_append]
    have := ih (by omega)
    have e : (⟨#[32]⟩ : ByteArray).size = 1 := rfl
    omega

set_option maxRecDepth 20000 in
set_option maxHeartbeats 2000000 in
theorem told_calls (w : World) (word : ByteArray) (ns : List Int) {lo hi : Nat} {ao : Option Addr} {cap : Nat} (hl : ns.length ≤ 5) (hs : word.size ≤ 100) (hI : In64 ns) (hv : View w lo hi .i64 (.slice ao ns.length cap) ns) (hp : Pow w) :
    Calls Tryd.prog 17 #[.string word, .slice ao ns.length cap] w fun e w' => e = .returned (.string (say word ns)) ∧ Chg 0 0 w w' := by
  have HP : Hid (Pow w) := hp
  have HV : Hid (View w lo hi .i64 (.slice ao ns.length cap) ns) := hv
  clear hp hv
  go_enter Tryd.func17, Tryd.ntmps17
  go_wp2
  go_loopw [0, 9] (fun x i wr => ∃ (k : Nat), k ≤ ns.length ∧ i = .int .i64 k ∧ x = .string (say word (ns.take k)) ∧ Chg 0 0 w wr) (fun _ i _ => ns.length - (RowKit.intOf i).toNat)
  case atStart => exact ⟨0, Nat.zero_le _, rfl, by simp [say], Chg.refl _ _ _⟩
  case round =>
    obtain ⟨k, hk, rfl, rfl, hch⟩ := hrel
    have HC : Hid (Chg 0 0 w wr) := hch
    clear hch
    by_cases hlt : k < ns.length
    · have hi1 : (k : Int) < (ns.length : Int) := by omega
      have hm : ns.getD k 0 ∈ ns := by
        rw [List.getD_eq_getElem?_getD, List.getElem?_eq_getElem hlt]
        exact List.getElem_mem _
      obtain ⟨b, off, rfl, hc⟩ : ∃ b off, ao = some ⟨b, off, none⟩ ∧ wr.cell? ⟨b, off + k, none⟩ = some (.int .i64 (ns.getD k 0)) := by
        obtain ⟨ao', cap', e, _, _, h3⟩ := HV.out.chg HC.out (by omega)
        simp only [Value.slice.injEq] at e
        rcases h3 with h3 | ⟨b, off, e2, _, _, h4⟩
        · rw [h3] at hlt; simp at hlt
        · exact ⟨b, off, by rw [e.1, e2], h4 k hlt⟩
      have hF := format_calls wr (ns.getD k 0) (hI _ hm).1 (hI _ hm).2 (HP.out.chg HC.out)
      have hz1 := say_size word ns hI k (by omega)
      have hz2 := dec_size (ns.getD k 0) (hI _ hm).1 (hI _ hm).2
      have HS : Hid (say word (ns.take (k + 1)) = say word (ns.take k) ++ (⟨#[32]⟩ ++ dec (ns.getD k 0))) := say_succ word ns k hlt
      have hz3 : (⟨#[32]⟩ ++ dec (ns.getD k 0) : ByteArray).size ≤ 22 := by
        rw [ByteArray.size_append]
        have e : (⟨#[32]⟩ : ByteArray).size = 1 := rfl
        omega
      generalize say word (ns.take k) = s1 at *
      generalize ns.getD k 0 = x at *
      generalize dec x = d at *
      go_wp2_with fail
      refine hF.mono ?_
      rintro e w2 ⟨rfl, c2⟩
      have HC2 : Hid (Chg 0 0 w w2) := HC.out.trans c2
      clear c2 hF
      go_wp2
      go_roundw
      case rel => exact ⟨k + 1, by omega, by go_num, by rw [HS.out], HC2.out⟩
      case measure => simp [RowKit.intOf]; omega
    · obtain rfl : k = ns.length := by omega
      have hi1 : ¬ ((ns.length : Nat) : Int) < (ns.length : Int) := by omega
      rw [List.take_length]
      go_wp2
      go_ret
      exact ⟨rfl, HC.out⟩

set_option maxRecDepth 20000 in
set_option maxHeartbeats 2000000 in
theorem l14Say_calls (w : World) (word : ByteArray) (ns : List Int) {lo hi : Nat} {ao : Option Addr} {cap : Nat} (hl : ns.length ≤ 5) (hs : word.size ≤ 100) (hI : In64 ns) (hv : View w lo hi .i64 (.slice ao ns.length cap) ns) :
    Calls Tryd.prog 12 #[.string word, .slice ao ns.length cap] w fun e w' => e = .returned (.string (say word ns)) ∧ Chg 0 0 w w' := by
  have HV : Hid (View w lo hi .i64 (.slice ao ns.length cap) ns) := hv
  clear hv
  go_enter Tryd.func12, Tryd.ntmps12
  go_wp2
  go_loopw [0, 5] (fun x i wr => ∃ (k : Nat), k ≤ ns.length ∧ i = .int .i64 k ∧ x = .string (say word (ns.take k)) ∧ Chg 0 0 w wr) (fun _ i _ => ns.length - (RowKit.intOf i).toNat)
  case atStart => exact ⟨0, Nat.zero_le _, rfl, by simp [say], Chg.refl _ _ _⟩
  case round =>
    obtain ⟨k, hk, rfl, rfl, hch⟩ := hrel
    have HC : Hid (Chg 0 0 w wr) := hch
    clear hch
    by_cases hlt : k < ns.length
    · have hi1 : (k : Int) < (ns.length : Int) := by omega
      have hm : ns.getD k 0 ∈ ns := by
        rw [List.getD_eq_getElem?_getD, List.getElem?_eq_getElem hlt]
        exact List.getElem_mem _
      obtain ⟨b, off, rfl, hc⟩ : ∃ b off, ao = some ⟨b, off, none⟩ ∧ wr.cell? ⟨b, off + k, none⟩ = some (.int .i64 (ns.getD k 0)) := by
        obtain ⟨ao', cap', e, _, _, h3⟩ := HV.out.chg HC.out (by omega)
        simp only [Value.slice.injEq] at e
        rcases h3 with h3 | ⟨b, off, e2, _, _, h4⟩
        · rw [h3] at hlt; simp at hlt
        · exact ⟨b, off, by rw [e.1, e2], h4 k hlt⟩
      have hF := l14Dec_calls wr (ns.getD k 0) (hI _ hm).1 (hI _ hm).2
      have hz1 := say_size word ns hI k (by omega)
      have hz2 := dec_size (ns.getD k 0) (hI _ hm).1 (hI _ hm).2
      have HS : Hid (say word (ns.take (k + 1)) = (say word (ns.take k) ++ ⟨#[32]⟩) ++ dec (ns.getD k 0)) := by
        show _ = _
        rw [say_succ word ns k hlt]
        apply ByteArray.ext
        simp only [ByteArray.data_append, Array.append_assoc]
      have hz3 : (say word (ns.take k) ++ ⟨#[32]⟩ : ByteArray).size ≤ 300 := by
        rw [ByteArray.size_append]
        have e : (⟨#[32]⟩ : ByteArray).size = 1 := rfl
        omega
      generalize say word (ns.take k) = s1 at *
      generalize ns.getD k 0 = x at *
      generalize dec x = d at *
      go_wp2_with fail
      refine hF.mono ?_
      rintro e w2 ⟨rfl, c2⟩
      have HC2 : Hid (Chg 0 0 w w2) := HC.out.trans c2
      clear c2 hF
      go_wp2
      go_roundw
      case rel => exact ⟨k + 1, by omega, by go_num, by rw [HS.out], HC2.out⟩
      case measure => simp [RowKit.intOf]; omega
    · obtain rfl : k = ns.length := by omega
      have hi1 : ¬ ((ns.length : Nat) : Int) < (ns.length : Int) := by omega
      rw [List.take_length]
      go_wp2
      go_ret
      exact ⟨rfl, HC.out⟩

end Go.Proofs.YtoagahpoblcioaaDoor
