/- Spans of the model. -/
import Derived.Test.YtbdkdfkhcmckhaaFlat
import Derived.Deep.DeepCutAuto
namespace Go.Proofs.Ytbdkdfkhcmckhaa
open Go.RowKit

theorem cell_of_block {w : World} {b j : Nat} {cs : Array Value} {t : TypeId} {fz : Nat × Nat} {v : Value} (h : w.heap[b]? = some (.cells cs t fz)) (hj : cs[j]? = some v) : w.cell? ⟨b, j, none⟩ = some v := by
  simp only [World.cell?, h]; exact hj

/-- One more byte: of the last piece, or of a new one. -/
def addSpan (fs : List Int) (o m : Nat) : List Int :=
  if 0 < fs.length ∧ fs.getD (fs.length - 4) 0 = ((o + m) / 64 : Nat) then fs.set (fs.length - 2) (fs.getD (fs.length - 2) 0 + 1) else fs ++ [(((o + m) / 64 : Nat) : Int), (((o + m) % 64 : Nat) : Int), 1, (m : Int)]
def spansFrom (o : Nat) : List Int → Nat → Nat → List Int
  | fs, _, 0 => fs
  | fs, m, n + 1 => spansFrom o (addSpan fs o m) (m + 1) n
/-- A range within a file. -/
abbrev InFile (o n : Int) : Prop := 0 ≤ o ∧ 0 ≤ n ∧ o ≤ 2560 ∧ n ≤ 2560 - o
def spansD (o n : Int) : List Int := if InFile o n then spansFrom o.toNat [] 0 n.toNat else []

theorem Try.infoSp : (Try.prog.info? 29).map (fun i => (i.zero, i.size, i.bytes)) = some (some (.agg #[.int .i64 0, .int .i64 0, .int .i64 0, .int .i64 0]), 4, 32) := by kernel_rfl

set_option maxRecDepth 20000 in
set_option maxHeartbeats 1000000 in
theorem specSpans_in (w : World) (o n : Nat) (ho : o ≤ 2560) (hn : n ≤ 2560 - o) :
    Calls Try.prog 6 #[.int .i64 o, .int .i64 n] w fun e w' => ∃ v K, e = .returned v ∧ OwnF 4 w' w.heap.size 29 v K (spansFrom o [] 0 n) ∧ K ≤ 2560 ∧ Chg 0 0 w w' := by
  obtain ⟨ti, hti, hz0, hz1, hz2⟩ := info_parts Try.infoSp
  have HO0 : Hid (OwnF 4 (w.alloc (.cells #[] 29)) w.heap.size 29 (.slice (some ⟨w.heap.size, 0, none⟩) 0 0) 0 []) := OwnF.nil w _
  have C0 : Chg 0 0 w (w.alloc (.cells #[] 29)) := Chg.alloc (Chg.refl 0 0 w) _
  have e1 : ¬ ((o : Int) < 0) := by omega
  have e2 : ¬ ((n : Int) < 0) := by omega
  have e3 : ¬ (2560 < (o : Int)) := by omega
  have e4 : ¬ (2560 - (o : Int) < (n : Int)) := by omega
  go_enter Try.func6, Try.ntmps6
  go_wp2
  go_loopw [5, 6] (fun ov x wr => Chg 0 0 w wr ∧ ∃ (m K : Nat) (fs : List Int) (g cp : Nat), ov = .slice (some ⟨g, 0, none⟩) K cp ∧ x = .int .i64 m ∧ m ≤ n ∧ K ≤ m ∧ (∀ y ∈ fs, 0 ≤ y ∧ y ≤ 5000 + m) ∧
    OwnF 4 wr w.heap.size 29 (.slice (some ⟨g, 0, none⟩) K cp) K fs ∧ spansFrom o [] 0 n = spansFrom o fs m (n - m)) (fun _ x _ => n - (intOf x).toNat)
  case atStart => exact ⟨C0, 0, 0, [], _, _, rfl, rfl, Nat.zero_le _, Nat.le_refl _, by simp, HO0.out, rfl⟩
  case round =>
    obtain ⟨hch, m, K, fs, g, cp, rfl, rfl, hm, hK, hbd, hown, hR⟩ := hrel
    have hlen := hown.len
    have HO : Hid (OwnF 4 wr w.heap.size 29 (.slice (some ⟨g, 0, none⟩) K cp) K fs) := hown
    have hgl := hown.lt g rfl
    have HCH : Hid (Chg 0 0 w wr) := hch
    by_cases hlt : m < n
    · rw [show n - m = (n - (m + 1)) + 1 by omega] at hR
      have Hn : Hid (spansFrom o [] 0 n = spansFrom o (addSpan fs o m) (m + 1) (n - (m + 1))) := hR
      have hmi : (m : Int) < (n : Int) := by omega
      obtain ⟨q, Hq⟩ : ∃ q : Nat, Hid ((o + m) / 64 = q) := ⟨_, rfl⟩
      obtain ⟨r, Hr⟩ : ∃ r : Nat, Hid ((o + m) % 64 = r) := ⟨_, rfl⟩
      have hq : ((o : Int) + (m : Int)) / 64 = (q : Int) := by have := Hq.out; omega
      have hr : ((o : Int) + (m : Int)) % 64 = (r : Int) := by have := Hr.out; omega
      have hqb : q ≤ 2560 := by have := Hq.out; omega
      have hrb : r < 64 := by have := Hr.out; omega
      have HB : Hid (∀ y ∈ fs ++ [(q : Int), (r : Int), 1, (m : Int)], 0 ≤ y ∧ y ≤ 5000 + ((m + 1 : Nat) : Int)) := by
        intro y hy
        rw [List.mem_append] at hy
        rcases hy with hy | hy
        · have := hbd y hy; omega
        · simp at hy; omega
      have HOq : Hid (OwnF 4 (wr.alloc (.cells #[.int .i64 q, .int .i64 r, .int .i64 1, .int .i64 m] 29)) w.heap.size 29 (.slice (some ⟨g, 0, none⟩) K cp) K fs) := HO.out.chg ((Chg.refl 0 0 wr).alloc _) (by intro g _; omega)
      have HCq : Hid (Chg 0 0 w (wr.alloc (.cells #[.int .i64 q, .int .i64 r, .int .i64 1, .int .i64 m] 29))) := HCH.out.alloc _
      have hbs : w.heap.size ≤ wr.heap.size := HCH.out.size
      have HNW : Hid (∀ j, j < 1 * 4 → (wr.alloc (.cells #[.int .i64 q, .int .i64 r, .int .i64 1, .int .i64 m] 29)).cell? ⟨wr.heap.size, j, none⟩ = some (.int .i64 ([(q : Int), (r : Int), 1, (m : Int)].getD j 0))) := by
        intro j hj
        have hh := heap_new wr (.cells #[.int .i64 q, .int .i64 r, .int .i64 1, .int .i64 m] 29)
        match j, hj with
        | 0, _ | 1, _ | 2, _ | 3, _ => exact cell_of_block hh rfl
      clear hR hown
      by_cases hK0 : K = 0
      · subst hK0
        have hf0 : fs = [] := List.eq_nil_of_length_eq_zero (by omega)
        have He : Hid (addSpan fs o m = fs ++ [(q : Int), (r : Int), 1, (m : Int)]) := by show _ = _; rw [← Hq.out, ← Hr.out]; subst hf0; rfl
        clear hbd hlen hch hf0
        go_wp2_with (at_builtin; refine wpList_app_flat rfl (.tmp 62) (.tmp 70) 25 rfl w.heap.size 29 ti (.agg #[.int .i64 0, .int .i64 0, .int .i64 0, .int .i64 0]) 32 Try.underlying25 hti hz0 hz1 hz2 rfl (by omega) _ 0 fs rfl HOq.out wr.heap.size 1 1 [(q : Int), (r : Int), 1, (m : Int)] rfl rfl (by omega) HNW.out (by omega) (by omega) (by simp; omega) ?_)
        intro v' w5 g' cap' hv' ho5 hc5; subst hv'
        have HO5 : Hid (OwnF 4 w5 w.heap.size 29 (.slice (some ⟨g', 0, none⟩) (0 + 1) cap') (0 + 1) (addSpan fs o m)) := by show OwnF _ _ _ _ _ _ _; rw [He.out]; exact ho5
        have HC5 : Hid (Chg 0 0 w w5) := HCq.out.step hc5 (Or.inr (Or.inl (Nat.le_refl _)))
        clear ho5 hc5 HNW HOq HCq
        go_wp2
        go_roundw
        case rel => exact ⟨HC5.out, m + 1, 1, addSpan fs o m, g', cap', rfl, by go_num, by omega, by omega, by rw [He.out]; exact HB.out, HO5.out, Hn.out⟩
        case measure => simp [intOf]; omega
      · obtain ⟨J, rfl⟩ : ∃ J, K = J + 1 := ⟨K - 1, by omega⟩
        obtain ⟨c0, f0⟩ := HO.out.cell (J * 4) (by omega)
        obtain ⟨c2, f2⟩ := HO.out.cell (J * 4 + 2) (by omega)
        have m2 : 0 ≤ fs.getD (J * 4 + 2) 0 ∧ fs.getD (J * 4 + 2) 0 ≤ 5000 + m := by
          rw [List.getD_eq_getElem?_getD, List.getElem?_eq_getElem (by omega)]
          exact hbd _ (List.getElem_mem (by omega))
        have hA : Hid (addSpan fs o m = if fs.getD (J * 4) 0 = (q : Int) then fs.set (J * 4 + 2) (fs.getD (J * 4 + 2) 0 + 1) else fs ++ [(q : Int), (r : Int), 1, (m : Int)]) := by
          show _ = _
          unfold addSpan
          rw [show fs.length - 4 = J * 4 by omega, show fs.length - 2 = J * 4 + 2 by omega, Hq.out, Hr.out]
          simp only [show 0 < fs.length by omega, true_and]
        have HP : Hid (∀ x, OwnF 4 (wr.setCell ⟨g, J * 4 + 2, none⟩ (.int .i64 x)) w.heap.size 29 (.slice (some ⟨g, 0, none⟩) (J + 1) cp) (J + 1) (fs.set (J * 4 + 2) x)) := fun x => HO.out.put (J * 4 + 2) x
        have HCP : Hid (∀ x, Chg 0 0 w (wr.setCell ⟨g, J * 4 + 2, none⟩ (.int .i64 x))) := fun x => HCH.out.setCell (Or.inr hgl.1) _
        have HBS : Hid (∀ x, 0 ≤ x → x ≤ 5000 + ((m + 1 : Nat) : Int) → ∀ y ∈ fs.set (J * 4 + 2) x, 0 ≤ y ∧ y ≤ 5000 + ((m + 1 : Nat) : Int)) := by
          intro x hx0 hx1 y hy
          rcases List.mem_or_eq_of_mem_set hy with h' | rfl
          · have := hbd y h'; omega
          · exact ⟨hx0, hx1⟩
        generalize fs.getD (J * 4) 0 = p0 at *
        generalize fs.getD (J * 4 + 2) 0 = p2 at *
        have j1 : (0 : Int) < (J : Int) + 1 := by omega
        clear hbd hlen hch
        by_cases heq : p0 = (q : Int)
        · rw [if_pos heq] at hA
          subst heq
          go_wp2
          go_roundw
          case rel => exact ⟨HCP.out _, m + 1, J + 1, addSpan fs o m, _, _, rfl, by go_num, by omega, by omega, by rw [hA.out]; exact HBS.out _ (by omega) (by omega), by rw [hA.out]; exact HP.out _, Hn.out⟩
          case measure => simp [intOf]; omega
        · rw [if_neg heq] at hA
          have heq' : (p0 == (q : Int)) = false := by simpa using heq
          go_wp2_with (at_builtin; refine wpList_app_flat rfl (.tmp 62) (.tmp 70) 25 rfl w.heap.size 29 ti (.agg #[.int .i64 0, .int .i64 0, .int .i64 0, .int .i64 0]) 32 Try.underlying25 hti hz0 hz1 hz2 rfl (by omega) _ (J + 1) fs rfl HOq.out wr.heap.size 1 1 [(q : Int), (r : Int), 1, (m : Int)] rfl rfl (by omega) HNW.out (by omega) (by omega) (by simp; omega) ?_)
          intro v' w5 g' cap' hv' ho5 hc5; subst hv'
          have HO5 : Hid (OwnF 4 w5 w.heap.size 29 (.slice (some ⟨g', 0, none⟩) (J + 1 + 1) cap') (J + 1 + 1) (addSpan fs o m)) := by show OwnF _ _ _ _ _ _ _; rw [hA.out]; exact ho5
          have HC5 : Hid (Chg 0 0 w w5) := HCq.out.step hc5 (Or.inr (Or.inl (Nat.le_refl _)))
          clear ho5 hc5 HNW HOq HCq
          go_wp2
          go_roundw
          case rel => exact ⟨HC5.out, m + 1, J + 1 + 1, addSpan fs o m, g', cap', rfl, by go_num, by omega, by omega, by rw [hA.out]; exact HB.out, HO5.out, Hn.out⟩
          case measure => simp [intOf]; omega
    · obtain rfl : m = n := by omega
      have Hn : Hid (spansFrom o [] 0 m = fs) := by show _ = _; rw [hR, Nat.sub_self]; rfl
      clear hR hown hlen hbd
      go_wp2
      go_ret
      exact ⟨_, K, rfl, by rw [Hn.out]; exact HO.out, by omega, hch⟩

set_option maxRecDepth 20000 in
set_option maxHeartbeats 400000 in
theorem specSpans_out (w : World) (o n : Int) (hx : ¬ InFile o n) :
    Calls Try.prog 6 #[.int .i64 o, .int .i64 n] w fun e w' => ∃ v K, e = .returned v ∧ OwnF 4 w' w.heap.size 29 v K [] ∧ K ≤ 2560 ∧ Chg 0 0 w w' := by
  have HO0 : Hid (OwnF 4 (w.alloc (.cells #[] 29)) w.heap.size 29 (.slice (some ⟨w.heap.size, 0, none⟩) 0 0) 0 []) := OwnF.nil w _
  have C0 : Hid (Chg 0 0 w (w.alloc (.cells #[] 29))) := Chg.alloc (Chg.refl 0 0 w) _
  have hx' : ¬ (0 ≤ o ∧ 0 ≤ n ∧ o ≤ 2560 ∧ n ≤ 2560 - o) := hx
  clear hx
  by_cases h1 : o < 0
  · clear hx'
    go_enter Try.func6, Try.ntmps6
    go_wp2
    go_ret
    first | exact ⟨_, 0, rfl, HO0.out, by omega, C0.out⟩ | exact ⟨_, rfl, 0, HO0.out, by omega, C0.out⟩
  · by_cases h2 : n < 0
    · clear hx'
      go_enter Try.func6, Try.ntmps6
      go_wp2
      go_ret
      first | exact ⟨_, 0, rfl, HO0.out, by omega, C0.out⟩ | exact ⟨_, rfl, 0, HO0.out, by omega, C0.out⟩
    · by_cases h3 : 2560 < o
      · clear hx'
        go_enter Try.func6, Try.ntmps6
        go_wp2
        go_ret
        first | exact ⟨_, 0, rfl, HO0.out, by omega, C0.out⟩ | exact ⟨_, rfl, 0, HO0.out, by omega, C0.out⟩
      · have h4 : 2560 - o < n := by omega
        clear hx'
        go_enter Try.func6, Try.ntmps6
        go_wp2
        go_ret
        first | exact ⟨_, 0, rfl, HO0.out, by omega, C0.out⟩ | exact ⟨_, rfl, 0, HO0.out, by omega, C0.out⟩

theorem specSpans_calls (w : World) (o n : Int) :
    Calls Try.prog 6 #[.int .i64 o, .int .i64 n] w fun e w' => ∃ v K, e = .returned v ∧ OwnF 4 w' w.heap.size 29 v K (spansD o n) ∧ K ≤ 2560 ∧ Chg 0 0 w w' := by
  by_cases h : InFile o n
  · obtain ⟨h1, h2, h3, h4⟩ := id h
    obtain ⟨p, rfl⟩ : ∃ p : Nat, o = p := ⟨o.toNat, by omega⟩
    obtain ⟨q, rfl⟩ : ∃ q : Nat, n = q := ⟨n.toNat, by omega⟩
    have e : spansD p q = spansFrom p [] 0 q := by unfold spansD; rw [if_pos h]; simp
    rw [e]
    exact specSpans_in w p q (by omega) (by omega)
  · have e : spansD o n = [] := by unfold spansD; rw [if_neg h]
    rw [e]
    exact specSpans_out w o n h

end Go.Proofs.Ytbdkdfkhcmckhaa
