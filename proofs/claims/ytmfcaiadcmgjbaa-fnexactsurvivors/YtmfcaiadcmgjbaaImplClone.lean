/- Several short texts in one: SurvRange, ShelfKeys, SurvKeys, ImplClone. -/
import Derived.Test.YtmfcaiadcmgjbaaSurvLook
import Derived.Shelf.SlIterI.Nil
import Derived.Shelf.SortM.Plain
import Derived.Shelf.SortM.SortNone
import Derived.Test.YtmfcaiadcmgjbaaRows
import Derived.Test.YtmfcaiadcmgjbaaWeak
namespace Go.Proofs.Ytmfcaiadcmgjbaa
open Go.RowKit

theorem leftC_new {f : Int → Option Cp} {r : Int → Option Nat} {S : Int → Bool} {x : Int} (hS : S x = false) : leftC f r S x = f x := by
  unfold leftC
  cases f x <;> simp [hS]
theorem leftC_drop {f : Int → Option Cp} {r : Int → Option Nat} {S S' : Int → Bool} {x : Int} {c : Cp} {q : Nat} (hf : f x = some c) (hr : r x = some q) (hc : c.1 < q) (hS : ∀ y, S' y = (S y || y == x)) (y : Int) : leftC f r S' y = if y = x then none else leftC f r S y := by
  by_cases e : y = x
  · subst e
    rw [if_pos rfl]
    unfold leftC
    rw [hf, hS]
    simp [hr, hc]
  · rw [if_neg e]
    unfold leftC
    have he : (y == x) = false := by simpa using e
    rw [hS, he, Bool.or_false]
theorem leftC_stay {f : Int → Option Cp} {r : Int → Option Nat} {S S' : Int → Bool} {x : Int} (h : ∀ c q, f x = some c → r x = some q → ¬ c.1 < q) (hS : ∀ y, S' y = (S y || y == x)) (y : Int) : leftC f r S' y = leftC f r S y := by
  unfold leftC
  rw [hS]
  by_cases e : y = x
  · subst e
    cases hf : f y with
    | none => rfl
    | some c =>
      have : ¬ ∃ q, r y = some q ∧ c.1 < q := by rintro ⟨q, h1, h2⟩; exact h c q hf h1 h2
      simp [this]
  · have he : (y == x) = false := by simpa using e
    rw [he, Bool.or_false]
/-- What is still to come, one less. -/
theorem left_step (left : Lit → Bool) (x y : Int) : (!(fun z : Lit => left z && !z.sameKey (.int .i64 x)) (kI y)) = ((!left (kI y)) || y == x) := by
  show (!(left (kI y) && !(kI y).sameKey (.int .i64 x))) = _
  by_cases e : y = x
  · subst e
    have : (kI y).sameKey (.int .i64 y) = true := WideAt.sameKey_self (kI_key y)
    rw [this]
    simp
  · have : (kI y).sameKey (.int .i64 x) = false := Maps.sameKey_ne (fun h => e (kI_inj h))
    have he : (y == x) = false := by simpa using e
    rw [this, he]
    simp
theorem grown_chg {w W X : World} {bm : Nat} (hc : Chg 0 0 w W) (hg : W.grownBy X (some bm)) (hb : w.heap.size ≤ bm) : Chg 0 0 w X :=
  hc.step (Chg.ofGrown (lo := bm) (hi := bm + 1) hg (fun k e _ => by cases e; omega)) (by omega)
/-- The map of copies, some of them taken out. -/
def LefM (wr : World) (m : Nat) (F : Int → Option Cp) : Prop := ∃ n D, wr.ownsMap Try.prog 2 rC m n D ∧ n ≤ 20000 ∧ SaysF zC D (fun x => (F x).map cpD)
theorem LefM.kept {w w' : World} {m : Nat} {F : Int → Option Cp} {row : Option Nat} (h : LefM w m F) (hg : w.grownBy w' row) (hne : some m ≠ row) : LefM w' m F := by
  obtain ⟨n, D, h1, h2, h3⟩ := h
  exact ⟨n, D, h1.kept hg hne, h2, h3⟩
theorem LefM.congr {w : World} {m : Nat} {F F' : Int → Option Cp} (h : LefM w m F) (e : ∀ x, F x = F' x) : LefM w m F' := by
  have : F = F' := funext e
  rw [← this]; exact h
theorem LefM.lt {w : World} {m : Nat} {F : Int → Option Cp} (h : LefM w m F) : m < w.heap.size := by
  obtain ⟨n, D, h1, _⟩ := h; exact h1.lt
/-- A copy taken out. -/
theorem LefM.drop {m : Nat} {F : Int → Option Cp} (n : Nat) (D : DataW Value) {w' : World} {x : Int} (h2 : n ≤ 20000) (h3 : SaysF zC D (fun x => (F x).map cpD)) (h : w'.ownsMap Try.prog 2 rC m n (D.del (kI x))) : LefM w' m (fun y => if y = x then none else F y) :=
  ⟨n, _, h, h2, (h3.drop x).congr fun y => by by_cases e : y = x <;> simp [e]⟩
/-- What the range over the revokes yields. -/
theorem rev_at {D : DataW Unit} {ts : List Tx} (hs : SaysF (.lit (.int .i64 0)) D (fun x => (revsL ts x).map fun p => .lit (.int .i64 (p : Nat)))) {x c : Int} (hx : Maps.has D (kI x) = true) (hat : ∀ zd, D.atKey (.int .i64 x) zd = .lit (.int .i64 c)) : ∃ q : Nat, revsL ts x = some q ∧ c = q := by
  rw [hs.has x] at hx
  cases hr : revsL ts x with
  | none => rw [hr] at hx; simp at hx
  | some q =>
    have := hs.at' x (.lit (.int .i64 (q : Nat))) (by rw [hr]; rfl)
    have h2 : D.atKey (kI x) (.lit (.int .i64 0)) = .lit (.int .i64 c) := hat _
    rw [h2] at this
    injection this with this
    injection this with _ this
    exact ⟨q, rfl, this⟩

end Go.Proofs.Ytmfcaiadcmgjbaa

namespace Go.Proofs.Ytmfcaiadcmgjbaa
open Go.Shelf

def Try.keysA_ren : Go.Shelf.Ren := ⟨fun | 7 => 21 | 10 => 35 | n => n, fun | 23 => 47 | 26 => 2 | 3 => 52 | 28 => 56 | 0 => 0 | 27 => 55 | 33 => 67 | 4 => 4 | n => n, fun | n => n⟩

theorem Try.keysA : Go.Proofs.SlLaysZI.n7 Try.prog Try.keysA_ren := {
  mixed := by kernel_rfl
  f7 := ⟨Try.f21.name, by decide, Try.func21.trans (congrArg some (by kernel_rfl))⟩
  f10 := ⟨Try.f35.name, by decide, Try.func35.trans (congrArg some (by kernel_rfl))⟩
  t0 := Try.underlying0
  a0 := Try.isAgg0
  z0 := Try.sizeOf0
  v0 := Try.zeroValue0
  t4 := Try.underlying4
  a4 := Try.isAgg4
  z4 := Try.sizeOf4
  v4 := Try.zeroValue4
  t23 := Try.underlying47
  a23 := Try.isAgg47
  z23 := Try.sizeOf47
  v23 := Try.zeroValue47
  t26 := Try.underlying2
  a26 := Try.isAgg2
  z26 := Try.sizeOf2
  v26 := Try.zeroValue2
  t27 := Try.underlying55
  a27 := Try.isAgg55
  z27 := Try.sizeOf55
  v27 := Try.zeroValue55
  t28 := Try.underlying56
  a28 := Try.isAgg56
  z28 := Try.sizeOf56
  v28 := Try.zeroValue56
  t33 := Try.underlying67
  a33 := Try.isAgg67
  z33 := Try.sizeOf67
  v33 := Try.zeroValue67 }

def Try.sortedA_ren : Go.Shelf.Ren := ⟨fun | 6 => 20 | 8 => 33 | 9 => 34 | 11 => 40 | 13 => 42 | 12 => 41 | 23 => 54 | 24 => 55 | 14 => 45 | 15 => 46 | 16 => 47 | 17 => 48 | 18 => 49 | 19 => 50 | 20 => 51 | 21 => 52 | 22 => 53 | 25 => 56 | 26 => 57 | 27 => 58 | 28 => 59 | 29 => 60 | 30 => 61 | 31 => 62 | n => n, fun | 26 => 2 | 28 => 56 | 24 => 35 | 0 => 0 | 3 => 3 | 37 => 76 | 48 => 87 | 50 => 89 | 4 => 4 | 40 => 79 | 39 => 78 | 45 => 84 | 5 => 5 | 9 => 9 | 51 => 90 | 55 => 94 | 57 => 96 | 58 => 97 | 33 => 67 | n => n, fun | n => n⟩

theorem Try.sortedA : Go.Proofs.SlLaysZI.n6 Try.prog Try.sortedA_ren := {
  mixed := by kernel_rfl
  f6 := ⟨Try.f20.name, by decide, Try.func20.trans (congrArg some (by kernel_rfl))⟩
  f8 := ⟨Try.f33.name, by decide, Try.func33.trans (congrArg some (by kernel_rfl))⟩
  f11 := ⟨Try.f40.name, by decide, Try.func40.trans (congrArg some (by kernel_rfl))⟩
  t0 := Try.underlying0
  a0 := Try.isAgg0
  z0 := Try.sizeOf0
  v0 := Try.zeroValue0
  t24 := Try.underlying35
  a24 := Try.isAgg35
  z24 := Try.sizeOf35
  v24 := Try.zeroValue35
  t26 := Try.underlying2
  a26 := Try.isAgg2
  z26 := Try.sizeOf2
  v26 := Try.zeroValue2
  t28 := Try.underlying56
  a28 := Try.isAgg56
  z28 := Try.sizeOf56
  v28 := Try.zeroValue56
  i26 := by kernel_rfl }

def Try.sortA_ren : Go.Shelf.Ren := ⟨fun | 5 => 34 | 8 => 42 | 7 => 41 | 19 => 54 | 20 => 55 | 10 => 45 | 11 => 46 | 12 => 47 | 13 => 48 | 14 => 49 | 15 => 50 | 16 => 51 | 17 => 52 | 18 => 53 | 30 => 56 | 31 => 57 | 32 => 58 | 33 => 59 | 34 => 60 | 35 => 61 | 40 => 62 | n => n, fun | 23 => 35 | 25 => 2 | 3 => 3 | 32 => 76 | 22 => 35 | 0 => 0 | 44 => 87 | 46 => 89 | 4 => 4 | 36 => 79 | 35 => 78 | 41 => 84 | 5 => 5 | 9 => 9 | 53 => 90 | 57 => 94 | 63 => 96 | 64 => 97 | n => n, fun | n => n⟩

theorem Try.sortA : Go.Proofs.SlLaysM.n5 Try.prog Try.sortA_ren := {
  mixed := by kernel_rfl
  f5 := ⟨Try.f34.name, by decide, Try.func34.trans (congrArg some (by kernel_rfl))⟩
  f7 := ⟨Try.f41.name, by decide, Try.func41.trans (congrArg some (by kernel_rfl))⟩
  f8 := Try.func42.trans (congrArg some (by kernel_rfl))
  f10 := ⟨Try.f45.name, by decide, Try.func45.trans (congrArg some (by kernel_rfl))⟩
  f11 := ⟨Try.f46.name, by decide, Try.func46.trans (congrArg some (by kernel_rfl))⟩
  f12 := ⟨Try.f47.name, by decide, Try.func47.trans (congrArg some (by kernel_rfl))⟩
  f13 := ⟨Try.f48.name, by decide, Try.func48.trans (congrArg some (by kernel_rfl))⟩
  f14 := ⟨Try.f49.name, by decide, Try.func49.trans (congrArg some (by kernel_rfl))⟩
  f15 := ⟨Try.f50.name, by decide, Try.func50.trans (congrArg some (by kernel_rfl))⟩
  f16 := ⟨Try.f51.name, by decide, Try.func51.trans (congrArg some (by kernel_rfl))⟩
  f17 := ⟨Try.f52.name, by decide, Try.func52.trans (congrArg some (by kernel_rfl))⟩
  f18 := ⟨Try.f53.name, by decide, Try.func53.trans (congrArg some (by kernel_rfl))⟩
  f19 := Try.func54.trans (congrArg some (by kernel_rfl))
  f20 := Try.func55.trans (congrArg some (by kernel_rfl))
  f30 := ⟨Try.f56.name, by decide, Try.func56.trans (congrArg some (by kernel_rfl))⟩
  f31 := Try.func57.trans (congrArg some (by kernel_rfl))
  f32 := Try.func58.trans (congrArg some (by kernel_rfl))
  f33 := ⟨Try.f59.name, by decide, Try.func59.trans (congrArg some (by kernel_rfl))⟩
  f34 := ⟨Try.f60.name, by decide, Try.func60.trans (congrArg some (by kernel_rfl))⟩
  f35 := ⟨Try.f61.name, by decide, Try.func61.trans (congrArg some (by kernel_rfl))⟩
  f40 := ⟨Try.f62.name, by decide, Try.func62.trans (congrArg some (by kernel_rfl))⟩
  t0 := Try.underlying0
  a0 := Try.isAgg0
  z0 := Try.sizeOf0
  v0 := Try.zeroValue0
  t3 := Try.underlying3
  a3 := Try.isAgg3
  z3 := Try.sizeOf3
  v3 := Try.zeroValue3
  t4 := Try.underlying4
  a4 := Try.isAgg4
  z4 := Try.sizeOf4
  v4 := Try.zeroValue4
  t5 := Try.underlying5
  a5 := Try.isAgg5
  z5 := Try.sizeOf5
  v5 := Try.zeroValue5
  t9 := Try.underlying9
  a9 := Try.isAgg9
  z9 := Try.sizeOf9
  v9 := Try.zeroValue9
  t22 := Try.underlying35
  a22 := Try.isAgg35
  z22 := Try.sizeOf35
  v22 := Try.zeroValue35
  t23 := Try.underlying35
  a23 := Try.isAgg35
  z23 := Try.sizeOf35
  v23 := Try.zeroValue35
  t25 := Try.underlying2
  a25 := Try.isAgg2
  z25 := Try.sizeOf2
  v25 := Try.zeroValue2
  t32 := Try.underlying76
  a32 := Try.isAgg76
  z32 := Try.sizeOf76
  v32 := Try.zeroValue76
  t35 := Try.underlying78
  a35 := Try.isAgg78
  z35 := Try.sizeOf78
  v35 := Try.zeroValue78
  t36 := Try.underlying79
  a36 := Try.isAgg79
  z36 := Try.sizeOf79
  v36 := Try.zeroValue79
  t41 := Try.underlying84
  a41 := Try.isAgg84
  z41 := Try.sizeOf84
  v41 := Try.zeroValue84
  t44 := Try.underlying87
  a44 := Try.isAgg87
  z44 := Try.sizeOf87
  v44 := Try.zeroValue87
  t46 := Try.underlying89
  a46 := Try.isAgg89
  z46 := Try.sizeOf89
  v46 := Try.zeroValue89
  t53 := Try.underlying90
  a53 := Try.isAgg90
  z53 := Try.sizeOf90
  v53 := Try.zeroValue90
  t57 := Try.underlying94
  a57 := Try.isAgg94
  z57 := Try.sizeOf94
  v57 := Try.zeroValue94
  t63 := Try.underlying96
  a63 := Try.isAgg96
  z63 := Try.sizeOf96
  v63 := Try.zeroValue96
  t64 := Try.underlying97
  a64 := Try.isAgg97
  z64 := Try.sizeOf97
  v64 := Try.zeroValue97 }

end Go.Proofs.Ytmfcaiadcmgjbaa

namespace Go.Proofs.Ytmfcaiadcmgjbaa
open Go.RowKit Go.Maps Go.Sort Go.Shelf

/-- The keys of a map under blocks. -/
theorem keys_of {H : Type} {w : World} {R : Value → Option (DataW H × List MemPlace)} {b n : Nat} {D : DataW H} (hown : w.ownsMap Try.prog 2 R b n D) :
    (intKeys D).Nodup ∧ ∀ x, x ∈ intKeys D ↔ Maps.has D (kI x) = true := by
  have K := Maps.int_keyed (P := Try.prog) (k := 2) Try.underlying2
  obtain ⟨es, hD, hpw, _⟩ := hown.entries K
  obtain ⟨es', hD', hko⟩ := hown.keysOf
  obtain rfl : es = es' := by rw [hD] at hD'; simpa using hD'
  subst hD
  have hk : ∀ p ∈ es, ∃ x, p.1 = .int .i64 x := fun p hp => by obtain ⟨v, hv⟩ := hko p hp; obtain ⟨x, _, hx, _⟩ := Maps.keyOf_i64 Try.underlying2 hv; exact ⟨x, hx⟩
  refine ⟨?_, fun x => ?_⟩
  · show (es.map fun p => Go.intOf p.1).Nodup
    refine List.pairwise_map.2 (hpw.imp_of_mem fun {p q} hp' hq' hne e => hne ?_)
    obtain ⟨a, ha⟩ := hk p hp'
    obtain ⟨b, hb⟩ := hk q hq'
    rw [ha, hb] at e ⊢
    exact congrArg _ e
  · rw [Maps.has_eq, List.any_eq_true]
    show x ∈ es.map (fun p => Go.intOf p.1) ↔ _
    rw [List.mem_map]
    constructor
    · rintro ⟨p, hp', rfl⟩
      obtain ⟨a, ha⟩ := hk p hp'
      exact ⟨p, hp', by rw [ha]; simp [Lit.sameKey, Go.intOf, kI]⟩
    · rintro ⟨p, hp', hs⟩
      obtain ⟨a, ha⟩ := hk p hp'
      rw [ha] at hs
      exact ⟨p, hp', by rw [ha]; simpa [Lit.sameKey, Go.intOf, kI] using hs⟩

theorem rise_of_perm {ss ks : List Int} (h : ss.Perm ks) (hn : ks.Nodup) : (ss.mergeSort fun x y => decide (x ≤ y)).Pairwise (· < ·) ∧ ∀ x, x ∈ (ss.mergeSort fun x y => decide (x ≤ y)) ↔ x ∈ ks := by
  have tr : ∀ a b c : Int, decide (a ≤ b) = true → decide (b ≤ c) = true → decide (a ≤ c) = true := fun a b c h1 h2 => by simp only [decide_eq_true_eq] at *; exact Int.le_trans h1 h2
  have to' : ∀ a b : Int, (decide (a ≤ b) || decide (b ≤ a)) = true := fun a b => by simp only [Bool.or_eq_true, decide_eq_true_eq]; exact Int.le_total a b
  have hp := (List.mergeSort_perm ss (fun x y => decide (x ≤ y))).trans h
  have h1 := List.pairwise_mergeSort (le := fun x y : Int => decide (x ≤ y)) tr to' ss
  have h2 : (ss.mergeSort fun x y => decide (x ≤ y)).Nodup := hp.nodup_iff.2 hn
  refine ⟨?_, fun x => hp.mem_iff⟩
  refine (h1.and h2).imp fun {a b} ⟨q1, q2⟩ => ?_
  have : a ≤ b := of_decide_eq_true q1
  omega

theorem Try.sortsA (m : Nat) : AnyZI.SortsIn Try.prog Try.sortedA_ren Fence.wide m :=
  ⟨fun blk off cap ss W hH hblk hsz => callsIn_wide.2 (AnyM.slices_Sort_int Try.sortA blk off cap ss W hH hblk hsz),
   fun p cap W => callsIn_wide.2 (AnyM.slices_Sort_int_none Try.sortA p cap W)⟩

/-- maps.Keys. -/
theorem keys_calls (m : Option Nat) (W : World) : Calls Try.prog 21 #[.map m] W fun e w' => e = .returned (.func (.func 35) #[] #[.pointer (some ⟨W.heap.size, 0, none⟩)]) ∧ w' = W.alloc (.cells #[.map m] 47) :=
  (callsIn_wide (n := 5)).1 (AnyZI.keys_in Try.keysA Fence.wide 5 trivial rfl m W)

set_option maxHeartbeats 1000000 in
/-- slices.Sorted of them. -/
theorem sorted_calls {w : World} {M n : Nat} {D : DataW Value} (hown : w.ownsMap Try.prog 2 rC M n D) (hn : n ≤ 20000) :
    Calls Try.prog 20 #[.func (.func 35) #[] #[.pointer (some ⟨w.heap.size, 0, none⟩)]] (w.alloc (.cells #[.map (some M)] 47)) fun e w' => ∃ (v : Value) (ks : List Int), e = .returned v ∧
      (ks.Pairwise (· < ·) ∧ (∀ x, x ∈ ks ↔ Maps.has D (kI x) = true) ∧ ks.length ≤ 20000 ∧ ∀ x ∈ ks, (Lit.int .i64 x).wf = true) ∧ w'.ownsRow (w.heap.size + 1) 2 1 v ks.length (ks.map (Value.int .i64)) ∧ Chg 0 0 w w' := by
  have hbl := hown.lt
  have hsz := hown.size_le
  have hseq : SeqGives Fence.wide 2 Try.prog 35 #[.pointer (some ⟨w.heap.size, 0, none⟩)] encZ (fun ss => ss.Perm (intKeys D)) (Maps.size D) (w.alloc (.cells #[.map (some M)] 47)) :=
    AnyZI.keys_gives (ρ := Try.keysA_ren) { Try.keysA with } Fence.wide _ trivial rfl (by omega) w.heap.size M n D _ (by simp) (by simp) (by
      obtain ⟨es, clock, hb, Ft, hs, hD⟩ := hown
      exact ⟨es, clock, (Below.heap_alloc _ _ M hbl).trans hb, Ft, hs, hD⟩)
  have cS := AnyZI.sorted_in Try.sortedA Fence.wide 5 trivial trivial trivial trivial rfl (by omega) (Try.sortsA _) (enters_of Try.func34 (by kernel_rfl) rfl) 35 #[.pointer (some ⟨w.heap.size, 0, none⟩)] trivial (enters_of Try.func35 (by kernel_rfl) rfl) _ _ (by unfold maxLen; omega) (by omega) _ hseq
  refine ((callsIn_wide (n := 5)).1 cS).mono ?_
  rintro e w' ⟨v, ss, rfl, hS, hrow, _, hb⟩
  obtain ⟨k1, k2⟩ := keys_of hown
  obtain ⟨r1, r2⟩ := rise_of_perm hS k1
  have hl : (ss.mergeSort fun x y => decide (x ≤ y)).length = ss.length := List.length_mergeSort ss
  have hl2 : ss.length ≤ 20000 := by
    have : (intKeys D).length = Maps.size D := by
      obtain ⟨es, e, _⟩ := hown.tidy (Maps.int_keyed (P := Try.prog) (k := 2) Try.underlying2)
      subst e
      simp [intKeys, Maps.size]
    rw [hS.length_eq]; omega
  refine ⟨v, _, rfl, ⟨r1, fun x => (r2 x).trans (k2 x), by omega, fun x hx => intKeys_wf hown Try.underlying2 x ((r2 x).1 hx)⟩, ?_, ?_⟩
  · rw [hl]
    have e : (w.alloc (.cells #[.map (some M)] 47)).heap.size = w.heap.size + 1 := by simp
    rw [e] at hrow
    exact hrow
  · refine (Chg.alloc (Chg.refl 0 0 w) _).trans ⟨hb.os, hb.tape, hb.output, hb.size, fun k hk _ => hb.block k hk⟩

end Go.Proofs.Ytmfcaiadcmgjbaa

namespace Go.Proofs.Ytmfcaiadcmgjbaa
open Go.RowKit

set_option maxRecDepth 20000 in
set_option maxHeartbeats 1000000 in
theorem clone_calls (w : World) {lo hi : Nat} {a : Value} {xs : List Int} (hl : xs.length ≤ 1048576) (h1 : View w lo hi .u8 a xs) :
    Calls Try.prog 22 #[a] w fun e w' => ∃ v, e = .returned v ∧ OwnB w' w.heap.size 5 v xs ∧ Chg 0 0 w w' := by
  obtain ⟨i, hi, hz0, hz1, hz2⟩ := info_parts Try.infoU
  obtain ⟨ao, cap, rfl, _, ⟨_, hnil⟩, h1⟩ := h1
  have C0 : Chg 0 0 w (w.alloc (.cells #[] 5)) := Chg.alloc (Chg.refl 0 0 w) _
  have O0 : (w.alloc (.cells #[] 5)).ownsRow w.heap.size 5 1 (.slice (some ⟨w.heap.size, 0, none⟩) 0 0) 0 [] := by
    have := World.ownsRow_lit (base := w.heap.size) (e := 5) (size := 1) w #[] 0 (Nat.le_refl _) (by unfold maxLen; omega) rfl
    simpa using this
  have HO0 : Hid ((w.alloc (.cells #[] 5)).ownsRow w.heap.size 5 1 (.slice (some ⟨w.heap.size, 0, none⟩) 0 0) 0 []) := O0
  have HC0 : Hid (Chg 0 0 w (w.alloc (.cells #[] 5))) := C0
  have bs : Hid (w.heap.size ≤ (w.alloc (.cells #[] 5)).heap.size) := by show _ ≤ _; simp
  cases ao with
  | none =>
    obtain rfl : xs = [] := by
      rcases h1 with h1 | ⟨b, off, e, _⟩
      · exact h1
      · cases e
    obtain rfl : cap = 0 := hnil rfl
    clear h1 hnil C0
    have hn : ∀ W : World, (binOp .eql 42 (.slice none 0 0) (.slice none 0 0)).run Try.prog W = .ok (.bool true) W := fun W => by kernel_rfl
    have HON : Hid (OwnB w w.heap.size 5 (.slice none 0 0) []) := ⟨rfl, Or.inl ⟨rfl, rfl⟩⟩
    go_enter Try.func22, Try.ntmps22
    go_wp2
    go_ret
    exact ⟨_, rfl, HON.out, Chg.refl 0 0 w⟩
  | some ad =>
    have hsrc : ∀ j u, (xs.map (Value.int .u8))[j]? = some u → (w.alloc (.cells #[] 5)).cell? (ad.add j) = some u := by
      intro j u hj
      have hjl : j < xs.length := by have := (List.getElem?_eq_some_iff.1 hj).1; simpa using this
      rcases h1 with h1 | ⟨b, off, e, _, _, hc⟩
      · rw [h1] at hjl; simp at hjl
      · cases e
        rw [Addr.add_mid, C0.cell (hc j hjl) (by omega), ← hj]
        simp [List.getD_eq_getElem?_getD, hjl]
    have Hsrc : Hid (∀ j u, (xs.map (Value.int .u8))[j]? = some u → (w.alloc (.cells #[] 5)).cell? (ad.add j) = some u) := hsrc
    clear h1 hnil hsrc C0
    have hn : ∀ W : World, (binOp .eql 42 (.slice (some ad) xs.length cap) (.slice none 0 0)).run Try.prog W = .ok (.bool false) W := fun W => by kernel_rfl
    go_enter Try.func22, Try.ntmps22
    go_wp2_with (at_builtin; refine wpList_append_own _ rfl (.tmp 5) (.tmp 6) 42 rfl w.heap.size 5 i (.int .u8 0) 1 1 Try.underlying42 hi hz0 hz1 hz2 rfl (by decide) _ 0 [] rfl HO0.out ad xs.length cap (xs.map (Value.int .u8)) rfl (by simp) Hsrc.out (ints_oneCell _ _) (by unfold maxLen; omega) (by omega) bs.out ?_)
    intro v' w1 hown hgrow _
    have HO : Hid (OwnB w1 w.heap.size 5 v' xs) := by
      show OwnB _ _ _ _ _
      unfold OwnB
      simpa using hown
    have HC : Hid (Chg 0 0 w w1) := HC0.out.step (Chg.ofGrown (lo := w.heap.size) (hi := w.heap.size + 1) hgrow (fun k hk _ => by simp only [Value.ownBlock, Option.some.injEq] at hk; omega)) (Or.inr (Or.inl (Nat.le_refl _)))
    clear hown hgrow HO0 HC0 Hsrc bs
    go_wp2
    go_ret
    exact ⟨_, rfl, HO.out, HC.out⟩

end Go.Proofs.Ytmfcaiadcmgjbaa
