/- slices.Clone of entries. -/
import Derived.Test.YtpcgbnfdhjepmaaEntApp
namespace Go.Proofs.Ytpcgbnfdhjepmaa
open Go.RowKit

theorem cellsE_one (ts : List Ent) : ∀ u ∈ cellsE ts, u.oneCell' = true := by
  intro u hu
  unfold cellsE at hu
  rw [List.mem_flatMap] at hu
  obtain ⟨t, _, hu⟩ := hu
  rcases List.mem_cons.1 hu with rfl | hu
  · rfl
  · rw [List.mem_singleton.1 hu]; rfl
theorem EAt.all {w : World} {b off : Nat} {ts : List Ent} (h : ∀ i, i < ts.length → EAt w b (off + i * 2) (ts.getD i Ent.none)) : ∀ j u, (cellsE ts)[j]? = some u → w.cell? ((⟨b, off, none⟩ : Addr).add j) = some u := by
  intro j u hj
  have hjl : j < ts.length * 2 := by have := (List.getElem?_eq_some_iff.1 hj).1; rwa [cellsE_len] at this
  obtain ⟨g1, g2⟩ := cellsE_get ts (j / 2) (by omega)
  obtain ⟨c1, c2⟩ := h (j / 2) (by omega)
  rw [Go.WideShapes.add_plain]
  by_cases hp : j % 2 = 0
  · rw [show off + j = off + j / 2 * 2 by omega, c1, ← g1, show j / 2 * 2 = j by omega, hj]
  · rw [show off + j = off + j / 2 * 2 + 1 by omega, c2, ← g2, show j / 2 * 2 + 1 = j by omega, hj]

set_option maxRecDepth 20000 in
set_option maxHeartbeats 1000000 in
theorem cloneE_calls (w : World) {lo hi : Nat} {a : Value} {ts : List Ent} (hl : ts.length ≤ 1048576) (h1 : EView w lo hi a ts) :
    Calls Try.prog 13 #[a] w fun e w' => ∃ v, e = .returned v ∧ OwnE w' w.heap.size 33 v ts ∧ Chg 0 0 w w' := by
  obtain ⟨i, hi, hz0, hz1, hz2⟩ := info_parts Try.infoE
  obtain ⟨ao, cap, rfl, _, hcap, h1⟩ := h1
  have C0 : Chg 0 0 w (w.alloc (.cells #[] 33)) := Chg.alloc (Chg.refl 0 0 w) _
  have O0 := OwnE.nil w 33
  have HO0 : Hid (OwnE (w.alloc (.cells #[] 33)) w.heap.size 33 (.slice (some ⟨w.heap.size, 0, none⟩) 0 0) []) := O0
  have HC0 : Hid (Chg 0 0 w (w.alloc (.cells #[] 33))) := C0
  have bs : Hid (w.heap.size ≤ (w.alloc (.cells #[] 33)).heap.size) := by show _ ≤ _; simp
  cases ao with
  | none =>
    obtain rfl : ts = [] := by
      rcases h1 with h1 | ⟨b, off, e, _⟩
      · exact h1
      · cases e
    clear h1 hcap C0 O0
    have hn : ∀ W : World, (binOp .eql 24 (.slice none 0 cap) (.slice none 0 0)).run Try.prog W = .ok (.bool true) W := fun W => by kernel_rfl
    have HON : Hid (OwnE w w.heap.size 33 (.slice none 0 0) []) := ⟨rfl, Or.inl ⟨rfl, rfl⟩⟩
    show Calls Try.prog 13 #[.slice none 0 cap] w _
    go_enter Try.func13, Try.ntmps13
    go_wp2
    go_ret
    exact ⟨_, rfl, HON.out, Chg.refl 0 0 w⟩
  | some ad =>
    have hsrc : ∀ j u, (cellsE ts)[j]? = some u → (w.alloc (.cells #[] 33)).cell? (ad.add j) = some u := by
      intro j u hj
      rcases h1 with h1 | ⟨b, off, e, _, _, hc⟩
      · subst h1; cases hj
      · cases e
        exact EAt.all (fun i hi => (hc i hi).chg C0 (by omega)) j u hj
    have Hsrc : Hid (∀ j u, (cellsE ts)[j]? = some u → (w.alloc (.cells #[] 33)).cell? (ad.add j) = some u) := hsrc
    clear h1 hcap hsrc C0 O0
    have hn : ∀ W : World, (binOp .eql 24 (.slice (some ad) ts.length cap) (.slice none 0 0)).run Try.prog W = .ok (.bool false) W := fun W => by kernel_rfl
    go_enter Try.func13, Try.ntmps13
    go_wp2_with (at_builtin; refine wpList_append_own _ rfl (.tmp 5) (.tmp 6) 24 rfl w.heap.size 33 i _ 2 24 Try.underlying24 hi hz0 hz1 hz2 rfl (by decide) _ 0 [] rfl HO0.out ad ts.length cap (cellsE ts) rfl (cellsE_len ts) Hsrc.out (cellsE_one ts) (by unfold maxLen; omega) (by omega) bs.out ?_)
    intro v' w1 hown hgrow _
    have HO : Hid (OwnE w1 w.heap.size 33 v' ts) := by
      show OwnE _ _ _ _ _
      unfold OwnE
      simpa using hown
    have HC : Hid (Chg 0 0 w w1) := HC0.out.step (Chg.ofGrown (lo := w.heap.size) (hi := w.heap.size + 1) hgrow (fun k hk _ => by simp only [Value.ownBlock, Option.some.injEq] at hk; omega)) (Or.inr (Or.inl (Nat.le_refl _)))
    clear hown hgrow HO0 HC0 Hsrc bs
    go_wp2
    go_ret
    exact ⟨_, rfl, HO.out, HC.out⟩

end Go.Proofs.Ytpcgbnfdhjepmaa
