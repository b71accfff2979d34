/- Several short texts in one: DecL, NumMath. -/
import Derived.Test.YteaeikmgkmpkiaaGreatDoorShelfFmt
import Derived.Test.YteaeikmgkmpkiaaGreatDoorMem
import Derived.Test.YteaeikmgkmpkiaaGreatDoorViewStr
import Derived.Lib.LaidTab
import Derived.Lib.ItoaLen
import Derived.Great.BuildSlice
import Derived.Lib.ParseIntB
namespace Go.Proofs.YteaeikmgkmpkiaaGreatDoor
open Go.RowKit Go.Lib

/-- A number as a text; a word and numbers behind it. -/
def dec (v : Int) : ByteArray := ⟨(Lib.itoa v).toArray⟩

theorem dec_small {v : Nat} (h : v < 10) : dec (v : Int) = ⟨#[UInt8.ofNat (48 + v)]⟩ := by
  unfold dec
  rw [itoa_nonneg, decDigits_one h]

theorem arr_app (a b : List UInt8) : (⟨(a ++ b).toArray⟩ : ByteArray) = (⟨a.toArray⟩ : ByteArray) ++ ⟨b.toArray⟩ := by
  apply ByteArray.ext
  rw [ByteArray.data_append]
  simp

theorem dec_big {v : Nat} (h : 10 ≤ v) : dec (v : Int) = dec ((v / 10 : Nat) : Int) ++ dec ((v % 10 : Nat) : Int) := by
  unfold dec
  rw [itoa_nonneg, itoa_nonneg, itoa_nonneg, decDigits_one (show v % 10 < 10 by omega), ← arr_app]
  conv => lhs; rw [decDigits, dif_neg (by omega)]

theorem dec_neg {v : Nat} (h : 1 ≤ v) : dec (-(v : Int)) = ⟨#[45]⟩ ++ dec (v : Int) := by
  unfold dec
  rw [itoa_neg v h, itoa_nonneg]
  have := arr_app [45] (decDigits v)
  exact this

theorem dec_negbig {v : Nat} (h : 10 ≤ v) : dec (-(v : Int)) = dec (-((v / 10 : Nat) : Int)) ++ dec ((v % 10 : Nat) : Int) := by
  rw [dec_neg (by omega), dec_neg (by omega), dec_big h]
  apply ByteArray.ext
  simp only [ByteArray.data_append, Array.append_assoc]

theorem dec_size (v : Int) (h0 : -9223372036854775808 ≤ v) (h1 : v ≤ 9223372036854775807) : (dec v).size ≤ 21 := by
  have := itoa_length_le v h0 h1
  unfold dec
  simpa [ByteArray.size] using this

set_option maxHeartbeats 2000000 in
theorem l14DecP_calls (v : Nat) (h1 : v ≤ 9223372036854775807) : ∀ w : World, Calls Tryz.prog 40 #[.int .i64 (v : Int)] w fun e w' => e = .returned (.string (dec (v : Int))) ∧ Chg 0 0 w w' := by
  induction v using Nat.strongRecOn with
  | ind v ih =>
    intro w
    have hn : ¬ (v : Int) < 0 := by omega
    by_cases hs : v < 10
    · have hs' : (v : Int) < 10 := by omega
      obtain ⟨r, Hr⟩ : ∃ r, Hid (r = dec (v : Int)) := ⟨_, rfl⟩
      have Hd := dec_small hs
      rw [← Hr.out]
      have e1 : IntKind.i64.wrap (48 + (v : Int)) = 48 + (v : Int) := by rw [IntKind.wrap_i64]; omega
      have e2 : IntKind.u8.wrap (48 + (v : Int)) = 48 + (v : Int) := by rw [IntKind.wrap_u8]; omega
      have hst : (convert 22 9 (.slice (some ⟨w.heap.size, 0, none⟩) 1 1)).run Tryz.prog (w.alloc (.cells #[.int .u8 (48 + (v : Int))] 5)) = .ok (.string (strOfNums [48 + (v : Int)])) (w.alloc (.cells #[.int .u8 (48 + (v : Int))] 5)) :=
        (row_view (w := w.alloc (.cells #[.int .u8 (48 + (v : Int))] 5)) (b := w.heap.size) (xs := [48 + (v : Int)]) (t := 5) (heap_new w _) 0 1 1 (by simp) (by simp) (Nat.le_refl _)).str
      have HC : Hid (Chg 0 0 w (w.alloc (.cells #[.int .u8 (48 + (v : Int))] 5))) := Chg.alloc (Chg.refl 0 0 w) _
      have HR : Hid (strOfNums [48 + (v : Int)] = r) := by
        show _ = _
        rw [Hr.out, Hd]
        have : (48 + (v : Int)).toNat = 48 + v := by omega
        simp [strOfNums, this]
      clear ih Hd Hr
      go_enter Tryz.func40, Tryz.ntmps40
      go_wp2
      go_ret
      exact ⟨by rw [← HR.out]; rfl, HC.out⟩
    · have hs' : ¬ (v : Int) < 10 := by omega
      obtain ⟨a, ha⟩ : ∃ a, a = v / 10 := ⟨_, rfl⟩
      obtain ⟨b, hb⟩ : ∃ b, b = v % 10 := ⟨_, rfl⟩
      have i1 := ih a (by omega) (by omega)
      have i2 := ih b (by omega) (by omega)
      have Hd : Hid (dec (v : Int) = dec (a : Int) ++ dec (b : Int)) := by show _ = _; rw [ha, hb]; exact dec_big (by omega)
      have hsz1 := dec_size (a : Int) (by omega) (by omega)
      have hsz2 := dec_size (b : Int) (by omega) (by omega)
      have e1 : (v : Int).tdiv 10 = (a : Int) := by rw [Int.tdiv_eq_ediv_of_nonneg (by omega)]; omega
      have e2 : (v : Int).tmod 10 = (b : Int) := by rw [Int.tmod_eq_emod_of_nonneg (by omega)]; omega
      have e3 : IntKind.i64.wrap (a : Int) = (a : Int) := by rw [IntKind.wrap_i64]; omega
      have e4 : IntKind.i64.wrap (b : Int) = (b : Int) := by rw [IntKind.wrap_i64]; omega
      rw [Hd.out]
      clear ha hb ih
      generalize dec (a : Int) = da at *
      generalize dec (b : Int) = db at *
      go_enter Tryz.func40, Tryz.ntmps40
      go_wp2_with fail
      refine (i1 _).mono ?_
      rintro e w1 ⟨rfl, c1⟩
      have H1 : Hid (Chg 0 0 w w1) := c1
      clear c1 i1
      go_wp2_with fail
      refine (i2 _).mono ?_
      rintro e w2 ⟨rfl, c2⟩
      have H2 : Hid (Chg 0 0 w w2) := H1.out.trans c2
      clear c2 i2
      go_wp2
      go_ret
      exact ⟨rfl, H2.out⟩

set_option maxHeartbeats 2000000 in
theorem l14DecN_calls (v : Nat) (h0 : 1 ≤ v) (h1 : v ≤ 9223372036854775808) : ∀ w : World, Calls Tryz.prog 40 #[.int .i64 (-(v : Int))] w fun e w' => e = .returned (.string (dec (-(v : Int)))) ∧ Chg 0 0 w w' := by
  induction v using Nat.strongRecOn with
  | ind v ih =>
    intro w
    have hn : -(v : Int) < 0 := by omega
    obtain ⟨nv, hnv⟩ : ∃ nv, nv = -(v : Int) := ⟨_, rfl⟩
    by_cases hs : v < 10
    · have hs' : ¬ nv < -9 := by omega
      have i1 := l14DecP_calls v (by omega)
      have Hd : Hid (dec (-(v : Int)) = ⟨#[45]⟩ ++ dec (v : Int)) := dec_neg h0
      have hsz1 := dec_size (v : Int) (by omega) (by omega)
      have e3 : IntKind.i64.wrap (-nv) = (v : Int) := by rw [IntKind.wrap_i64]; omega
      rw [Hd.out, ← hnv]
      rw [← hnv] at hn
      clear ih hnv
      generalize dec (v : Int) = da at *
      go_enter Tryz.func40, Tryz.ntmps40
      go_wp2_with fail
      refine (i1 _).mono ?_
      rintro e w1 ⟨rfl, c1⟩
      have H1 : Hid (Chg 0 0 w w1) := c1
      clear c1 i1
      go_wp2
      go_ret
      exact ⟨rfl, H1.out⟩
    · have hs' : nv < -9 := by omega
      obtain ⟨a, ha⟩ : ∃ a, a = v / 10 := ⟨_, rfl⟩
      obtain ⟨b, hb⟩ : ∃ b, b = v % 10 := ⟨_, rfl⟩
      have i1 := ih a (by omega) (by omega) (by omega)
      have i2 := l14DecP_calls b (by omega)
      have Hd : Hid (dec (-(v : Int)) = dec (-(a : Int)) ++ dec (b : Int)) := by show _ = _; rw [ha, hb]; exact dec_negbig (by omega)
      have hsz1 := dec_size (-(a : Int)) (by omega) (by omega)
      have hsz2 := dec_size (b : Int) (by omega) (by omega)
      have e1 : nv.tdiv 10 = -(a : Int) := by rw [hnv, Int.neg_tdiv, Int.tdiv_eq_ediv_of_nonneg (by omega)]; omega
      have e2 : nv.tmod 10 = -(b : Int) := by rw [hnv, Int.neg_tmod, Int.tmod_eq_emod_of_nonneg (by omega)]; omega
      have e3 : IntKind.i64.wrap (-(a : Int)) = -(a : Int) := by rw [IntKind.wrap_i64]; omega
      have e4 : IntKind.i64.wrap (-(b : Int)) = -(b : Int) := by rw [IntKind.wrap_i64]; omega
      have e5 : IntKind.i64.wrap (b : Int) = (b : Int) := by rw [IntKind.wrap_i64]; omega
      rw [Hd.out, ← hnv]
      rw [← hnv] at hn
      clear ha hb ih hnv
      generalize dec (-(a : Int)) = da at *
      generalize dec (b : Int) = db at *
      generalize -(a : Int) = na at *
      go_enter Tryz.func40, Tryz.ntmps40
      go_wp2_with fail
      refine (i1 _).mono ?_
      rintro e w1 ⟨rfl, c1⟩
      have H1 : Hid (Chg 0 0 w w1) := c1
      clear c1 i1
      go_wp2_with fail
      refine (i2 _).mono ?_
      rintro e w2 ⟨rfl, c2⟩
      have H2 : Hid (Chg 0 0 w w2) := H1.out.trans c2
      clear c2 i2
      go_wp2
      go_ret
      exact ⟨rfl, H2.out⟩

theorem l14Dec_calls (w : World) (v : Int) (h0 : -9223372036854775808 ≤ v) (h1 : v ≤ 9223372036854775807) : Calls Tryz.prog 40 #[.int .i64 v] w fun e w' => e = .returned (.string (dec v)) ∧ Chg 0 0 w w' := by
  by_cases h : v < 0
  · have := l14DecN_calls v.natAbs (by omega) (by omega) w
    rw [show -(v.natAbs : Int) = v by omega] at this
    exact this
  · have := l14DecP_calls v.natAbs (by omega) w
    rw [show (v.natAbs : Int) = v by omega] at this
    exact this

/-- The table of powers stands. -/
def Pow (w : World) : Prop := Lib.TabIs Tryz.prog w "internal/strconv.uint64pow10" .u64 Lib.pow10Tab
theorem Pow.chg {w w' : World} (h : Pow w) (c : Chg 0 0 w w') : Pow w' := by
  unfold Pow Lib.TabIs at h ⊢
  have hg : Tryz.prog.globalNamed "internal/strconv.uint64pow10" = some 5 := by kernel_rfl
  simp only [World.var?, hg, Option.bind_some] at h ⊢
  have hlt : 5 < w.heap.size := by
    rcases Nat.lt_or_ge 5 w.heap.size with h' | h'
    · exact h'
    · rw [Array.getElem?_eq_none h'] at h
      cases h
  rw [c.block _ hlt (by omega)]
  exact h
theorem grow_chg (w : World) (k : Nat) (os : Array Obj) : Chg 0 0 w (Go.Sort.grow (w.drewN k) os) :=
  ⟨rfl, rfl, rfl, by simp [Go.Sort.grow, World.drewN], fun j hj _ => by
    show (w.heap ++ os)[j]? = _
    rw [Array.getElem?_append_left hj]⟩

theorem format_calls (w : World) (v : Int) (h0 : -9223372036854775808 ≤ v) (h1 : v ≤ 9223372036854775807) (hp : Pow w) : Calls Tryz.prog 57 #[.int .i64 v, .int .i64 10] w fun e w' => e = .returned (.string (dec v)) ∧ Chg 0 0 w w' := by
  refine (Any.strconv_FormatInt_10 Tryz.laysM173 v h0 h1 w hp).mono ?_
  rintro e w' ⟨he, k, os, rfl⟩
  exact ⟨he, grow_chg w k os⟩

def say (word : ByteArray) (ns : List Int) : ByteArray := ns.foldl (fun a n => a ++ (⟨#[32]⟩ ++ dec n)) word
theorem say_succ (word : ByteArray) (ns : List Int) (k : Nat) (h : k < ns.length) : say word (ns.take (k + 1)) = say word (ns.take k) ++ (⟨#[32]⟩ ++ dec (ns.getD k 0)) := by
  unfold say
  rw [List.take_add_one, List.getElem?_eq_getElem h, List.foldl_append]
  simp [List.getD_eq_getElem?_getD, h]
def In64 (ns : List Int) : Prop := ∀ n ∈ ns, -9223372036854775808 ≤ n ∧ n ≤ 9223372036854775807
theorem say_size (word : ByteArray) (ns : List Int) (hI : In64 ns) (k : Nat) (h : k ≤ ns.length) : (say word (ns.take k)).size ≤ word.size + 22 * k := by
  induction k with
  | zero => simp [say]
  | succ k ih =>
    have hm : ns.getD k 0 ∈ ns := by
      rw [List.getD_eq_getElem?_getD, List.getElem?_eq_getElem (by omega)]
      exact List.getElem_mem _
    have hd := dec_size _ (hI _ hm).1 (hI _ hm).2
    rw [say_succ _ _ _ (by omega), ByteArray.size_append, ByteArray.size_append]
    have := ih (by omega)
    have e : (⟨#[32]⟩ : ByteArray).size = 1 := rfl
    omega

end Go.Proofs.YteaeikmgkmpkiaaGreatDoor

namespace Go.Proofs.YteaeikmgkmpkiaaGreatDoor
open Go.RowKit Go.Lib

/-- What digits are worth. -/
def dvl : Nat → List UInt8 → Nat
  | acc, [] => acc
  | acc, c :: r => dvl (acc * 10 + (c.toNat - 48)) r
theorem dvl_app : ∀ (l m : List UInt8) (a : Nat), dvl a (l ++ m) = dvl (dvl a l) m
  | [], _, _ => rfl
  | c :: r, m, a => by show dvl _ (r ++ m) = _; rw [dvl_app r m]; rfl
theorem dvl_le : ∀ (l : List UInt8) (a : Nat), a ≤ dvl a l
  | [], _ => Nat.le_refl _
  | c :: r, a => by
    have := dvl_le r (a * 10 + (c.toNat - 48))
    show a ≤ dvl _ r
    omega
def Dig (l : List UInt8) : Prop := ∀ c ∈ l, 48 ≤ c.toNat ∧ c.toNat ≤ 57

theorem decDigits_big {u : Nat} (h : ¬ u < 10) : decDigits u = decDigits (u / 10) ++ [UInt8.ofNat (48 + u % 10)] := by
  conv => lhs; rw [decDigits, dif_neg h]
theorem dig_val (v : Nat) (h : v < 10) : (UInt8.ofNat (48 + v)).toNat = 48 + v := by rw [UInt8.toNat_ofNat']; omega

theorem dvl_dec (u : Nat) : dvl 0 (decDigits u) = u := by
  induction u using Nat.strongRecOn with
  | ind u ih =>
    by_cases h : u < 10
    · rw [decDigits_one h]
      show 0 * 10 + ((UInt8.ofNat (48 + u)).toNat - 48) = u
      rw [dig_val u h]; omega
    · rw [decDigits_big h, dvl_app, ih (u / 10) (by omega)]
      show u / 10 * 10 + ((UInt8.ofNat (48 + u % 10)).toNat - 48) = u
      rw [dig_val (u % 10) (by omega)]; omega
theorem dig_dec (u : Nat) : Dig (decDigits u) := by
  induction u using Nat.strongRecOn with
  | ind u ih =>
    by_cases h : u < 10
    · rw [decDigits_one h]
      intro c hc
      rw [List.mem_singleton.1 hc, dig_val u h]; omega
    · rw [decDigits_big h]
      intro c hc
      rcases List.mem_append.1 hc with h1 | h1
      · exact ih (u / 10) (by omega) c h1
      · rw [List.mem_singleton.1 h1, dig_val (u % 10) (by omega)]; omega
theorem len_dec : ∀ (k u : Nat), u < 10 ^ (k + 1) → 1 ≤ (decDigits u).length ∧ (decDigits u).length ≤ k + 1
  | 0, u, h => by rw [decDigits_one (by simpa using h)]; simp
  | k + 1, u, h => by
    by_cases h1 : u < 10
    · rw [decDigits_one h1]; simp
    · rw [decDigits_big h1, List.length_append]
      have := len_dec k (u / 10) (by rw [Nat.pow_succ] at h; omega)
      simp only [List.length_singleton]
      omega
theorem dvl_lt : ∀ (l : List UInt8) (a k : Nat), Dig l → a < 10 ^ k → dvl a l < 10 ^ (k + l.length)
  | [], _, _, _, h => h
  | c :: r, a, k, hd, h => by
    have hc := hd c (List.mem_cons_self ..)
    have := dvl_lt r (a * 10 + (c.toNat - 48)) (k + 1) (fun x hx => hd x (List.mem_cons_of_mem _ hx)) (by rw [Nat.pow_succ]; omega)
    show dvl _ r < _
    rw [List.length_cons, show k + (r.length + 1) = k + 1 + r.length by omega]
    exact this

theorem parseM_ok : ∀ (l : List UInt8) (acc : Nat), Dig l → dvl acc l ≤ 999999999 → parseUintM (2 ^ 64 - 1) acc l = .ok (dvl acc l)
  | [], _, _, _ => rfl
  | c :: r, acc, hd, h => by
    have hc := hd c (List.mem_cons_self ..)
    have hle := dvl_le r (acc * 10 + (c.toNat - 48))
    have h' : dvl (acc * 10 + (c.toNat - 48)) r ≤ 999999999 := h
    unfold parseUintM
    rw [if_pos hc, if_neg (by omega), if_neg (by omega)]
    exact parseM_ok r _ (fun x hx => hd x (List.mem_cons_of_mem _ hx)) h'

theorem parse_itoa (n : Int) (h0 : -999999999 ≤ n) (h1 : n ≤ 999999999) : parseIntB 64 (itoa n) = .ok n := by
  by_cases hn : n < 0
  · obtain ⟨u, rfl⟩ : ∃ u : Nat, n = -(u : Int) := ⟨n.natAbs, by omega⟩
    have hu : 1 ≤ u := by omega
    have hne : decDigits u ≠ [] := by have := (len_dec 9 u (by omega)).1; intro h; rw [h] at this; simp at this
    rw [itoa_neg u hu]
    have hp : parseUintB 64 (decDigits u) = .ok u := by
      unfold parseUintB
      rw [if_neg hne, parseM_ok _ 0 (dig_dec u) (by rw [dvl_dec]; omega), dvl_dec]
    unfold parseIntB
    simp only
    rw [if_pos (Or.inr (by decide)), hp]
    simp only
    have e : (45 : UInt8).toNat = 45 := rfl
    rw [if_neg (by rw [e]; simp), if_neg (by omega), if_pos e]
  · obtain ⟨u, rfl⟩ : ∃ u : Nat, n = (u : Int) := ⟨n.natAbs, by omega⟩
    rw [itoa_nonneg]
    have hd := dig_dec u
    have hp : parseUintB 64 (decDigits u) = .ok u := by
      have hne : decDigits u ≠ [] := by have := (len_dec 9 u (by omega)).1; intro h; rw [h] at this; simp at this
      unfold parseUintB
      rw [if_neg hne, parseM_ok _ 0 (dig_dec u) (by rw [dvl_dec]; omega), dvl_dec]
    cases hl : decDigits u with
    | nil => have := (len_dec 9 u (by omega)).1; rw [hl] at this; simp at this
    | cons c r =>
      rw [hl] at hp hd
      have hc := hd c (List.mem_cons_self ..)
      unfold parseIntB
      simp only
      rw [if_neg (by omega), hp]
      simp only
      rw [if_neg (by omega), if_neg (by omega), if_neg (by omega)]

theorem dec_inj {a b : Int} (ha0 : -999999999 ≤ a) (ha1 : a ≤ 999999999) (hb0 : -999999999 ≤ b) (hb1 : b ≤ 999999999) (h : dec a = dec b) : a = b := by
  have e : itoa a = itoa b := by
    have := congrArg (fun x : ByteArray => x.data.toList) h
    simpa [dec] using this
  have h1 := parse_itoa a ha0 ha1
  rw [e, parse_itoa b hb0 hb1] at h1
  injection h1 with h1
  exact h1.symm

open Classical in
/-- The number that a field is. -/
noncomputable def numF (f : ByteArray) : Option Int := if h : ∃ n : Int, -999999999 ≤ n ∧ n ≤ 999999999 ∧ dec n = f then some (Classical.choose h) else none
theorem numF_some {f : ByteArray} {n : Int} (h0 : -999999999 ≤ n) (h1 : n ≤ 999999999) (h : dec n = f) : numF f = some n := by
  have hx : ∃ n : Int, -999999999 ≤ n ∧ n ≤ 999999999 ∧ dec n = f := ⟨n, h0, h1, h⟩
  unfold numF
  rw [dif_pos hx]
  obtain ⟨a0, a1, a2⟩ := Classical.choose_spec hx
  rw [dec_inj a0 a1 h0 h1 (a2.trans h.symm)]
theorem numF_is {f : ByteArray} {n : Int} (h : numF f = some n) : -999999999 ≤ n ∧ n ≤ 999999999 ∧ dec n = f := by
  unfold numF at h
  split at h
  · rename_i hx
    have := Classical.choose_spec hx
    injection h with h
    rw [h] at this
    exact this
  · cases h
theorem numF_none {f : ByteArray} (h : ∀ n : Int, -999999999 ≤ n → n ≤ 999999999 → dec n ≠ f) : numF f = none := by
  cases hn : numF f with
  | none => rfl
  | some n => obtain ⟨a0, a1, a2⟩ := numF_is hn; exact absurd a2 (h n a0 a1)

end Go.Proofs.YteaeikmgkmpkiaaGreatDoor
