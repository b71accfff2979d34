/- The keys of the copies, sorted. -/
import Derived.Test.YtmfcaiadcmgjbaaSurvRange
import Derived.Test.YtmfcaiadcmgjbaaShelfKeys
namespace Go.Proofs.Ytmfcaiadcmgjbaa
open Go.RowKit Go.Maps Go.Sort Go.Shelf

/-- The keys of a map under blocks. -/
theorem keys_of {H : Type} {w : World} {R : Value → Option (DataW H × List MemPlace)} {b n : Nat} {D : DataW H} (hown : w.ownsMap Try.prog 2 R b n D) :
    (intKeys D).Nodup ∧ ∀ x, x ∈ intKeys D ↔ Maps.has D (kI x) = true := by
  have K := Maps.int_keyed (P := Try.prog) (k := 2) Try.underlying2
  obtain ⟨es, hD, hpw, _⟩ := hown.entries K
  obtain ⟨es', hD', hko⟩ := hown.keysOf
  obtain rfl : es = es' := by rw [hD] at hD'; simpa using hD'
  subst hD
  have hk : ∀ p ∈ es, ∃ x, p.1 = .int .i64 x := fun p hp => by obtain ⟨v, hv⟩ := hko p hp; obtain ⟨x, _, hx, _⟩ := Maps.keyOf_i64 Try.underlying2 hv; exact ⟨x, hx⟩
  refine ⟨?_, fun x => ?_⟩
  · show (es.map fun p => Go.intOf p.1).Nodup
    refine List.pairwise_map.2 (hpw.imp_of_mem fun {p q} hp' hq' hne e => hne ?_)
    obtain ⟨a, ha⟩ := hk p hp'
    obtain ⟨b, hb⟩ := hk q hq'
    rw [ha, hb] at e ⊢
    exact congrArg _ e
  · rw [Maps.has_eq, List.any_eq_true]
    show x ∈ es.map (fun p => Go.intOf p.1) ↔ _
    rw [List.mem_map]
    constructor
    · rintro ⟨p, hp', rfl⟩
      obtain ⟨a, ha⟩ := hk p hp'
      exact ⟨p, hp', by rw [ha]; simp [Lit.sameKey, Go.intOf, kI]⟩
    · rintro ⟨p, hp', hs⟩
      obtain ⟨a, ha⟩ := hk p hp'
      rw [ha] at hs
      exact ⟨p, hp', by rw [ha]; simpa [Lit.sameKey, Go.intOf, kI] using hs⟩

theorem rise_of_perm {ss ks : List Int} (h : ss.Perm ks) (hn : ks.Nodup) : (ss.mergeSort fun x y => decide (x ≤ y)).Pairwise (· < ·) ∧ ∀ x, x ∈ (ss.mergeSort fun x y => decide (x ≤ y)) ↔ x ∈ ks := by
  have tr : ∀ a b c : Int, decide (a ≤ b) = true → decide (b ≤ c) = true → decide (a ≤ c) = true := fun a b c h1 h2 => by simp only [decide_eq_true_eq] at *; exact Int.le_trans h1 h2
  have to' : ∀ a b : Int, (decide (a ≤ b) || decide (b ≤ a)) = true := fun a b => by simp only [Bool.or_eq_true, decide_eq_true_eq]; exact Int.le_total a b
  have hp := (List.mergeSort_perm ss (fun x y => decide (x ≤ y))).trans h
  have h1 := List.pairwise_mergeSort (le := fun x y : Int => decide (x ≤ y)) tr to' ss
  have h2 : (ss.mergeSort fun x y => decide (x ≤ y)).Nodup := hp.nodup_iff.2 hn
  refine ⟨?_, fun x => hp.mem_iff⟩
  refine (h1.and h2).imp fun {a b} ⟨q1, q2⟩ => ?_
  have : a ≤ b := of_decide_eq_true q1
  omega

theorem Try.sortsA (m : Nat) : AnyZI.SortsIn Try.prog Try.sortedA_ren Fence.wide m :=
  ⟨fun blk off cap ss W hH hblk hsz => callsIn_wide.2 (AnyM.slices_Sort_int Try.sortA blk off cap ss W hH hblk hsz),
   fun p cap W => callsIn_wide.2 (AnyM.slices_Sort_int_none Try.sortA p cap W)⟩

/-- maps.Keys. -/
theorem keys_calls (m : Option Nat) (W : World) : Calls Try.prog 21 #[.map m] W fun e w' => e = .returned (.func (.func 35) #[] #[.pointer (some ⟨W.heap.size, 0, none⟩)]) ∧ w' = W.alloc (.cells #[.map m] 47) :=
  (callsIn_wide (n := 5)).1 (AnyZI.keys_in Try.keysA Fence.wide 5 trivial rfl m W)

set_option maxHeartbeats 1000000 in
/-- slices.Sorted of them. -/
theorem sorted_calls {w : World} {M n : Nat} {D : DataW Value} (hown : w.ownsMap Try.prog 2 rC M n D) (hn : n ≤ 20000) :
    Calls Try.prog 20 #[.func (.func 35) #[] #[.pointer (some ⟨w.heap.size, 0, none⟩)]] (w.alloc (.cells #[.map (some M)] 47)) fun e w' => ∃ (v : Value) (ks : List Int), e = .returned v ∧
      (ks.Pairwise (· < ·) ∧ (∀ x, x ∈ ks ↔ Maps.has D (kI x) = true) ∧ ks.length ≤ 20000 ∧ ∀ x ∈ ks, (Lit.int .i64 x).wf = true) ∧ w'.ownsRow (w.heap.size + 1) 2 1 v ks.length (ks.map (Value.int .i64)) ∧ Chg 0 0 w w' := by
  have hbl := hown.lt
  have hsz := hown.size_le
  have hseq : SeqGives Fence.wide 2 Try.prog 35 #[.pointer (some ⟨w.heap.size, 0, none⟩)] encZ (fun ss => ss.Perm (intKeys D)) (Maps.size D) (w.alloc (.cells #[.map (some M)] 47)) :=
    AnyZI.keys_gives (ρ := Try.keysA_ren) { Try.keysA with } Fence.wide _ trivial rfl (by omega) w.heap.size M n D _ (by simp) (by simp) (by
      obtain ⟨es, clock, hb, Ft, hs, hD⟩ := hown
      exact ⟨es, clock, (Below.heap_alloc _ _ M hbl).trans hb, Ft, hs, hD⟩)
  have cS := AnyZI.sorted_in Try.sortedA Fence.wide 5 trivial trivial trivial trivial rfl (by omega) (Try.sortsA _) (enters_of Try.func34 (by kernel_rfl) rfl) 35 #[.pointer (some ⟨w.heap.size, 0, none⟩)] trivial (enters_of Try.func35 (by kernel_rfl) rfl) _ _ (by unfold maxLen; omega) (by omega) _ hseq
  refine ((callsIn_wide (n := 5)).1 cS).mono ?_
  rintro e w' ⟨v, ss, rfl, hS, hrow, _, hb⟩
  obtain ⟨k1, k2⟩ := keys_of hown
  obtain ⟨r1, r2⟩ := rise_of_perm hS k1
  have hl : (ss.mergeSort fun x y => decide (x ≤ y)).length = ss.length := List.length_mergeSort ss
  have hl2 : ss.length ≤ 20000 := by
    have : (intKeys D).length = Maps.size D := by
      obtain ⟨es, e, _⟩ := hown.tidy (Maps.int_keyed (P := Try.prog) (k := 2) Try.underlying2)
      subst e
      simp [intKeys, Maps.size]
    rw [hS.length_eq]; omega
  refine ⟨v, _, rfl, ⟨r1, fun x => (r2 x).trans (k2 x), by omega, fun x hx => intKeys_wf hown Try.underlying2 x ((r2 x).1 hx)⟩, ?_, ?_⟩
  · rw [hl]
    have e : (w.alloc (.cells #[.map (some M)] 47)).heap.size = w.heap.size + 1 := by simp
    rw [e] at hrow
    exact hrow
  · refine (Chg.alloc (Chg.refl 0 0 w) _).trans ⟨hb.os, hb.tape, hb.output, hb.size, fun k hk _ => hb.block k hk⟩

end Go.Proofs.Ytmfcaiadcmgjbaa
