/- Several short texts in one: TxnSpec, BytSeen, SpecRev. -/
import Derived.Test.YtejmndhjipbhcaaGreatDoorGoodBlk
import Derived.Deep.DeepCutAuto
import Derived.Laws.AppendOwnNone
import Derived.Test.YtejmndhjipbhcaaGreatDoorByt
import Derived.Test.YtejmndhjipbhcaaGreatDoorPutByt
import Derived.Test.YtejmndhjipbhcaaGreatDoorCopy
namespace Go.Proofs.YtejmndhjipbhcaaGreatDoor
open Go.RowKit

/-- v may follow last. -/
def fol (last v : Int) : Bool := decide (last < v) && decide (v < 2048)
/-- What stands ahead. -/
def prevI (xs : List Int) (i : Nat) : Int := if i = 0 then -1 else xs.getD (i - 1) 0
def Rises (xs : List Int) (n : Nat) : Prop := ∀ i, i < n → fol (prevI xs i) (xs.getD i 0) = true
noncomputable def risesB (xs : List Int) : Bool := by classical exact decide (Rises xs xs.length)

theorem fol_iff {a v : Int} : fol a v = true ↔ a < v ∧ v < 2048 := by unfold fol; simp
theorem risesB_true {xs : List Int} : risesB xs = true ↔ Rises xs xs.length := by unfold risesB; simp
theorem risesB_false {xs : List Int} {k : Nat} (hk : k < xs.length) (h : ¬ fol (prevI xs k) (xs.getD k 0) = true) : risesB xs = false := by
  rw [Bool.eq_false_iff]; intro e; exact h (risesB_true.1 e k hk)
theorem Rises.zero (xs : List Int) : Rises xs 0 := fun i h => absurd h (Nat.not_lt_zero i)
theorem Rises.succ {xs : List Int} {n : Nat} (h : Rises xs n) (hn : fol (prevI xs n) (xs.getD n 0) = true) : Rises xs (n + 1) := by
  intro i hi
  by_cases e : i = n
  · subst e; exact hn
  · exact h i (by omega)
/-- What rises is not below 0. -/
theorem Rises.pos {xs : List Int} {n : Nat} (h : Rises xs n) : ∀ i, i < n → 0 ≤ xs.getD i 0 := by
  intro i
  induction i with
  | zero => intro hi; have := (fol_iff.1 (h 0 hi)).1; simp only [prevI, if_true] at this; omega
  | succ i ih =>
    intro hi
    have := (fol_iff.1 (h (i + 1) hi)).1
    rw [show prevI xs (i + 1) = xs.getD i 0 from by unfold prevI; rw [if_neg (by omega)]; rfl] at this
    have := ih (by omega)
    omega

set_option maxRecDepth 20000 in
set_option maxHeartbeats 1000000 in
theorem l4Rising_some (w : World) (xs : List Int) (b off cap : Nat) (hl : xs.length ≤ 9223372036854775807)
    (h1 : ∀ i, i < xs.length → w.cell? ⟨b, off + i, none⟩ = some (.int .i64 (xs.getD i 0))) :
    Calls Tryz.prog 60 #[.slice (some ⟨b, off, none⟩) xs.length cap] w fun e w' => e = .returned (.bool (risesB xs)) ∧ Same w w' := by
  go_enter Tryz.func60, Tryz.ntmps60
  go_wp2
  go_loopw [3] (fun i wr => Same w wr ∧ ∃ k : Nat, k ≤ xs.length ∧ i = .int .i64 k ∧ Rises xs k) (fun i _ => xs.length - (intOf i).toNat)
  case atStart => exact ⟨Same.refl _, 0, Nat.zero_le _, rfl, Rises.zero _⟩
  case round =>
    obtain ⟨hal, k, hk, rfl, hR⟩ := hrel
    by_cases hlt : k < xs.length
    · have c1 : wr.cell? ⟨b, off + k, none⟩ = some (.int .i64 (xs.getD k 0)) := (hal.cell _).trans (h1 k hlt)
      have hi : (k : Int) < (xs.length : Int) := by omega
      have HR : Hid (Rises xs k) := hR
      have HA : Hid (Same w wr) := hal
      by_cases hk0 : k = 0
      · subst hk0
        rw [Nat.add_zero] at c1
        have hp : prevI xs 0 = -1 := rfl
        have hF : ¬ fol (-1) (xs.getD 0 0) = true → risesB xs = false := fun h => risesB_false hlt (by rw [hp]; exact h)
        have hS : fol (-1) (xs.getD 0 0) = true → Rises xs 1 := fun h => HR.out.succ (by rw [hp]; exact h)
        generalize xs.getD 0 0 = x at *
        clear hR hal h1 hp
        go_wp2_with fail
        refine (l3GoodBlock_calls _ x).mono ?_
        rintro e w1 ⟨rfl, rfl⟩
        by_cases hg : 0 ≤ x ∧ x < 2048
        · have hg' : (decide (0 ≤ x) && decide (x < 2048)) = true := by simpa using hg
          rw [hg']
          have Hn : Hid (Rises xs 1) := hS (fol_iff.2 ⟨by omega, hg.2⟩)
          clear hF hS hg' hg
          go_wp2
          go_quiet (fail)
          go_wp2
          go_roundw
          case rel => exact ⟨HA.out.drewN _, 1, by omega, by go_num, Hn.out⟩
          case measure => simp [intOf]; omega
        · have hg' : (decide (0 ≤ x) && decide (x < 2048)) = false := by rw [Bool.eq_false_iff]; simpa using hg
          rw [hg']
          have Hn : Hid (risesB xs = false) := hF (fun h => hg (by have := fol_iff.1 h; omega))
          clear hF hS hg' hg
          go_wp2
          go_quiet (fail)
          go_wp2
          go_ret
          exact ⟨by rw [Hn.out]; rfl, HA.out.drewN _⟩
      · obtain ⟨j, rfl⟩ : ∃ j, k = j + 1 := ⟨k - 1, by omega⟩
        have c0 : wr.cell? ⟨b, off + j, none⟩ = some (.int .i64 (xs.getD j 0)) := (hal.cell _).trans (h1 j (by omega))
        have hp : prevI xs (j + 1) = xs.getD j 0 := by unfold prevI; rw [if_neg (by omega)]; rfl
        have hpos := HR.out.pos j (by omega)
        have hF : ¬ fol (xs.getD j 0) (xs.getD (j + 1) 0) = true → risesB xs = false := fun h => risesB_false hlt (by rw [hp]; exact h)
        have hS : fol (xs.getD j 0) (xs.getD (j + 1) 0) = true → Rises xs (j + 1 + 1) := fun h => HR.out.succ (by rw [hp]; exact h)
        generalize xs.getD (j + 1) 0 = x at *
        generalize xs.getD j 0 = y at *
        clear hR hal h1 hp
        go_wp2_with fail
        refine (l3GoodBlock_calls _ x).mono ?_
        rintro e w1 ⟨rfl, rfl⟩
        by_cases hg : 0 ≤ x ∧ x < 2048
        · have hg' : (decide (0 ≤ x) && decide (x < 2048)) = true := by simpa using hg
          rw [hg']
          have hj1 : (0 : Int) < (j : Int) + 1 := by omega
          have hj2 : (j : Int) < (xs.length : Int) := by omega
          by_cases hy : x ≤ y
          · have Hn : Hid (risesB xs = false) := hF (fun h => by have := fol_iff.1 h; omega)
            clear hF hS hg' hg
            go_wp2
            go_quiet (fail)
            go_wp2
            go_ret
            exact ⟨by rw [Hn.out]; rfl, HA.out.drewN _⟩
          · have Hn : Hid (Rises xs (j + 1 + 1)) := hS (fol_iff.2 ⟨by omega, hg.2⟩)
            clear hF hS hg' hg
            go_wp2
            go_quiet (fail)
            go_wp2
            go_roundw
            case rel => exact ⟨HA.out.drewN _, j + 1 + 1, by omega, by go_num, Hn.out⟩
            case measure => simp [intOf]; omega
        · have hg' : (decide (0 ≤ x) && decide (x < 2048)) = false := by rw [Bool.eq_false_iff]; simpa using hg
          rw [hg']
          have Hn : Hid (risesB xs = false) := hF (fun h => hg (by have := fol_iff.1 h; omega))
          clear hF hS hg' hg
          go_wp2
          go_quiet (fail)
          go_wp2
          go_ret
          exact ⟨by rw [Hn.out]; rfl, HA.out.drewN _⟩
    · obtain rfl : k = xs.length := by omega
      have hr := risesB_true.2 hR
      have Hr : Hid (risesB xs = true) := hr
      clear h1 hR hr
      go_wp2
      go_ret
      exact ⟨by rw [Hr.out]; rfl, hal⟩

set_option maxRecDepth 20000 in
set_option maxHeartbeats 400000 in
theorem l4Rising_none (w : World) (ao : Option Addr) (cap : Nat) :
    Calls Tryz.prog 60 #[.slice ao 0 cap] w fun e w' => e = .returned (.bool true) ∧ Same w w' := by
  go_enter Tryz.func60, Tryz.ntmps60
  go_wp2
  refine wp_loop_rounds 1 ?_; rw [rounds_succ]
  go_wp2
  go_ret
  exact ⟨rfl, Same.refl _⟩

theorem l4Rising_calls (w : World) {lo hi : Nat} {a : Value} {xs : List Int} (h1 : View w lo hi .i64 a xs) :
    Calls Tryz.prog 60 #[a] w fun e w' => e = .returned (.bool (risesB xs)) ∧ Same w w' := by
  obtain ⟨ao, cap, rfl, hl, _, h1⟩ := h1
  rcases h1 with rfl | ⟨x, off, rfl, _, _, h1⟩
  · rw [risesB_true.2 (Rises.zero _)]; exact l4Rising_none w ao cap
  · exact l4Rising_some w xs x off cap hl h1

set_option maxRecDepth 20000 in
set_option maxHeartbeats 400000 in
theorem l4Has_some (w : World) (xs : List Int) (v : Int) (b off cap : Nat) (hl : xs.length ≤ 9223372036854775807)
    (h1 : ∀ i, i < xs.length → w.cell? ⟨b, off + i, none⟩ = some (.int .i64 (xs.getD i 0))) :
    Calls Tryz.prog 61 #[.slice (some ⟨b, off, none⟩) xs.length cap, .int .i64 v] w fun e w' => e = .returned (.bool (decide (v ∈ xs))) ∧ w' = w := by
  go_enter Tryz.func61, Tryz.ntmps61
  go_wp2
  go_loopw [5] (fun i wr => wr = w ∧ ∃ k : Nat, k ≤ xs.length ∧ i = .int .i64 k ∧ v ∉ xs.take k) (fun i _ => xs.length - (intOf i).toNat)
  case atStart => exact ⟨rfl, 0, Nat.zero_le _, rfl, by simp⟩
  case round =>
    obtain ⟨rfl, k, hk, rfl, hR⟩ := hrel
    by_cases hlt : k < xs.length
    · have c1 : wr.cell? ⟨b, off + k, none⟩ = some (.int .i64 (xs.getD k 0)) := h1 k hlt
      have hi : (k : Int) < (xs.length : Int) := by omega
      have hx : xs.getD k 0 = xs[k] := by simp [List.getD_eq_getElem?_getD, hlt]
      by_cases he : xs.getD k 0 = v
      · have Hn : Hid (decide (v ∈ xs) = true) := by show _ = _; rw [decide_eq_true_eq, ← he, hx]; exact List.getElem_mem hlt
        have hv : (xs.getD k 0 == v) = true := by simpa using he
        generalize xs.getD k 0 = x at *
        clear h1 hx hR
        go_wp2
        go_ret
        exact ⟨by rw [Hn.out]; rfl, rfl⟩
      · have Hn : Hid (v ∉ xs.take (k + 1)) := by
          show v ∉ _
          rw [List.take_succ_eq_append_getElem hlt, List.mem_append, not_or]
          exact ⟨hR, by simp; rw [← hx]; exact fun e => he e.symm⟩
        have hv : (xs.getD k 0 == v) = false := by simpa using he
        generalize xs.getD k 0 = x at *
        clear h1 hx hR
        go_wp2
        go_roundw
        case rel => exact ⟨trivial, k + 1, by omega, by go_num, Hn.out⟩
        case measure => simp [intOf]; omega
    · obtain rfl : k = xs.length := by omega
      rw [List.take_length] at hR
      have Hn : Hid (decide (v ∈ xs) = false) := decide_eq_false hR
      clear h1 hR
      go_wp2
      go_ret
      exact ⟨by rw [Hn.out]; rfl, rfl⟩

set_option maxRecDepth 20000 in
set_option maxHeartbeats 400000 in
theorem l4Has_none (w : World) (v : Int) (ao : Option Addr) (cap : Nat) :
    Calls Tryz.prog 61 #[.slice ao 0 cap, .int .i64 v] w fun e w' => e = .returned (.bool false) ∧ w' = w := by
  go_enter Tryz.func61, Tryz.ntmps61
  go_wp2
  refine wp_loop_rounds 1 ?_; rw [rounds_succ]
  go_wp2
  go_ret
  exact ⟨rfl, rfl⟩

theorem l4Has_calls (w : World) {lo hi : Nat} {a : Value} {xs : List Int} (v : Int) (h1 : View w lo hi .i64 a xs) :
    Calls Tryz.prog 61 #[a, .int .i64 v] w fun e w' => e = .returned (.bool (decide (v ∈ xs))) ∧ w' = w := by
  obtain ⟨ao, cap, rfl, hl, _, h1⟩ := h1
  rcases h1 with rfl | ⟨x, off, rfl, _, _, h1⟩
  · exact l4Has_none w v ao cap
  · exact l4Has_some w xs v x off cap hl h1

end Go.Proofs.YtejmndhjipbhcaaGreatDoor

namespace Go.Proofs.YtejmndhjipbhcaaGreatDoor
open Go.RowKit

/-- A slice of bytes of one's own that is not empty. -/
theorem OwnB.some_of {w : World} {base : Nat} {e : TypeId} {v : Value} {xs : List Int} (h : OwnB w base e v xs) (h0 : 0 < xs.length) : ∃ g c, v = .slice (some ⟨g, 0, none⟩) xs.length c := by
  rcases h.2 with ⟨_, h'⟩ | ⟨g, gc, cur, rfl, _⟩
  · omega
  · exact ⟨g, gc, rfl⟩

theorem OwnB.seen {w : World} {base : Nat} {e : TypeId} {v : Value} {xs : List Int} (h : OwnB w base e v xs) (hl : xs.length ≤ 1048576) : View w base w.heap.size .u8 v xs :=
  h.view (by omega) (fun g hg => (h.lt g hg).2)

theorem OwnB.bnil (w : World) (base : Nat) (h : base ≤ w.heap.size) : OwnB (w.alloc (.cells #[] 5)) base 5 (.slice (some ⟨w.heap.size, 0, none⟩) 0 0) [] := by
  have := World.ownsRow_lit (base := base) (e := 5) (size := 1) w #[] 0 h (by unfold maxLen; omega) rfl
  simpa [OwnB] using this

end Go.Proofs.YtejmndhjipbhcaaGreatDoor

namespace Go.Proofs.YtejmndhjipbhcaaGreatDoor
open Go.RowKit

theorem headL_len {k c q : Int} (hc : (putN c 2).length = 2) (hq : (putN q 4).length = 4) : (headL k c q).length = 12 := by
  unfold headL mg; simp [hc, hq]
theorem Rises.bound {xs : List Int} {n : Nat} (h : Rises xs n) (hn : xs.length ≤ n) : ∀ x ∈ xs, 0 ≤ x ∧ x < 2048 := by
  intro x hx
  obtain ⟨i, hi, rfl⟩ := List.mem_iff_getElem.1 hx
  have h1 := h.pos i (by omega)
  have h2 := (fol_iff.1 (h i (by omega))).2
  have e : xs.getD i 0 = xs[i] := by simp [List.getD_eq_getElem?_getD, hi]
  rw [e] at h1 h2
  exact ⟨h1, h2⟩
theorem Rises.ahead {xs : List Int} {n j : Nat} (h : Rises xs n) (hj : j + 1 < n) : xs.getD j 0 < xs.getD (j + 1) 0 := by
  have := (fol_iff.1 (h (j + 1) hj)).1
  rwa [show prevI xs (j + 1) = xs.getD j 0 from by unfold prevI; rw [if_neg (by omega)]; rfl] at this

set_option maxHeartbeats 1000000 in
theorem l3PadE_calls (w : World) {lo hi : Nat} {a : Value} {xs : List Int} (hl : xs.length ≤ 64) (h1 : View w lo hi .u8 a xs) :
    Calls Tryz.prog 69 #[a] w fun e w' => ∃ v, e = .returned v ∧ OwnB w' w.heap.size 5 v (padL xs) ∧ Chg 0 0 w w' := by
  have v0 := h1
  obtain ⟨ao, cap, rfl, _, _, _⟩ := h1
  obtain ⟨n, hn⟩ : ∃ n : Nat, n = 64 - xs.length := ⟨_, rfl⟩
  have hN : Calls Tryz.prog 64 #[.int .i64 (64 - (xs.length : Int))] w fun e w' => ∃ g, e = .returned (.slice (some ⟨g, 0, none⟩) n n) ∧ OwnB w' w.heap.size 5 (.slice (some ⟨g, 0, none⟩) n n) (List.replicate n 0) ∧ Chg 0 0 w w' := by
    have := l2Zero_calls w n (by omega)
    rwa [show ((n : Nat) : Int) = 64 - (xs.length : Int) by omega] at this
  have Hn : Hid (n = 64 - xs.length) := hn
  clear hn
  go_enter Tryz.func69, Tryz.ntmps69
  go_wp2_with fail
  refine hN.mono ?_
  rintro e w1 ⟨g, rfl, ho, hc⟩
  have hs := hc.size
  have hN2 := l2Join_any (xs := xs) (ys := List.replicate n 0) (lo' := w.heap.size) w1 (by omega) (by simp; have := Hn.out; omega) (v0.chg hc (by omega)) (ho.view (hi := w1.heap.size) (by simp; have := Hn.out; omega) (fun g hg => (ho.lt g hg).2))
  clear hN ho v0
  go_wp2_with fail
  refine hN2.mono ?_
  rintro e w2 ⟨v, rfl, o2, hc2⟩
  have HO : Hid (OwnB w2 w.heap.size 5 v (padL xs)) := by
    show OwnB _ _ _ _ _
    unfold padL
    rw [← Hn.out]
    exact o2.base (fun g hg => by have := (o2.lt g hg).1; omega)
  have HC : Hid (Chg 0 0 w w2) := hc.trans hc2
  clear hN2 o2 hc2 hc
  go_wp2
  go_ret
  exact ⟨_, rfl, HO.out, HC.out⟩

set_option maxRecDepth 20000 in
set_option maxHeartbeats 4000000 in
theorem specRevoke_calls (w : World) (q : Int) (xs : List Int) (b off cap : Nat) (hq0 : 1 ≤ q) (hq1 : q ≤ 4294967295) (hl0 : 1 ≤ xs.length) (hl : xs.length ≤ 26) (hR : Rises xs xs.length)
    (h1 : ∀ i, i < xs.length → w.cell? ⟨b, off + i, none⟩ = some (.int .i64 (xs.getD i 0))) :
    Calls Tryz.prog 65 #[.agg #[.int .i64 q, .slice (some ⟨b, off, none⟩) xs.length cap]] w fun e w' => ∃ v, e = .returned v ∧ OwnB w' w.heap.size 5 v (padL (headL 3 xs.length q ++ putPs xs)) ∧ Chg 0 0 w w' := by
  have C0 : Chg 0 0 w (w.alloc (.cells #[.int .i64 q, .slice (some ⟨b, off, none⟩) xs.length cap] 122)) := Chg.alloc (Chg.refl 0 0 w) _
  have B0 := heap_new w (.cells #[.int .i64 q, .slice (some ⟨b, off, none⟩) xs.length cap] 122)
  have hc2 := pn2 (v := (xs.length : Int)) (by omega) (by omega)
  have hq4 := pn4 (v := q) (by omega) hq1
  have HY : Hid ((headL 3 (xs.length : Int) q).length = 12) := headL_len hc2 hq4
  have hsq := fun w => l3GoodSeq_calls w q
  rw [show goodSeq q = true from by unfold goodSeq; rw [← Bool.decide_and]; exact decide_eq_true ⟨hq0, hq1⟩] at hsq
  have hhd := fun w => l3Head_calls w 3 (xs.length : Int) q (by omega) (by omega) (by omega) hc2 hq4
  have HR : Hid (Rises xs xs.length) := hR
  have H1 : Hid (∀ i, i < xs.length → w.cell? ⟨b, off + i, none⟩ = some (.int .i64 (xs.getD i 0))) := h1
  have s0 : (w.alloc (.cells #[.int .i64 q, .slice (some ⟨b, off, none⟩) xs.length cap] 122)).heap.size = w.heap.size + 1 := by simp
  obtain ⟨n, hn⟩ : ∃ n, n = xs.length := ⟨_, rfl⟩
  have Hn : Hid (n = xs.length) := hn
  rw [← hn] at hl0 hl hhd HY B0 C0 s0 ⊢
  clear hR h1 hc2 hq4 hn
  obtain ⟨k0, k1, _, _⟩ := two_cells B0
  go_enter Tryz.func65, Tryz.ntmps65
  go_wp2_with fail
  generalize w.alloc (.cells #[.int .i64 q, .slice (some ⟨b, off, none⟩) n cap] 122) = w0 at *
  refine (hsq _).mono ?_
  rintro e w1 ⟨rfl, rfl⟩
  have hn1 : ¬ ((n : Int) < 1) := by omega
  have hn2 : ¬ ((26 : Int) < (n : Int)) := by omega
  clear hsq
  go_wp2_with fail
  clear hn1 hn2
  refine (hhd _).mono ?_
  rintro e w2 ⟨v2, rfl, o2, h2⟩
  have HB2 : Hid (w2.heap[w.heap.size]? = some (.cells #[.int .i64 q, .slice (some ⟨b, off, none⟩) n cap] 122 (0, 0))) := (h2.block _ (by omega) (by omega)).trans B0
  obtain ⟨g2, gc2, rfl⟩ := o2.some_of (by rw [HY.out]; omega)
  rw [HY.out] at o2 ⊢
  have HO2 : Hid (OwnB w2 (w.heap.size + 1) 5 (.slice (some ⟨g2, 0, none⟩) 12 gc2) (headL 3 (n : Int) q)) := o2.base (fun g hg => by have := (o2.lt g hg).1; omega)
  have HC2 : Hid (Chg 0 0 w w2) := C0.trans h2
  clear hhd o2 h2 B0 C0 k0 k1
  go_wp2
  go_loopw [5, 6] (fun o x wr => ∃ k : Nat, k ≤ n ∧ x = .int .i64 k ∧ (∃ g cp, o = .slice (some ⟨g, 0, none⟩) (12 + 2 * k) cp) ∧ OwnB wr (w.heap.size + 1) 5 o (headL 3 (n : Int) q ++ putPs (xs.take k)) ∧ wr.heap[w.heap.size]? = some (.cells #[.int .i64 q, .slice (some ⟨b, off, none⟩) n cap] 122 (0, 0)) ∧ Chg 0 0 w wr) (fun _ x _ => n - (intOf x).toNat)
  case atStart => exact ⟨0, Nat.zero_le _, rfl, ⟨_, _, rfl⟩, by rw [List.take_zero]; show OwnB _ _ _ _ (_ ++ []); rw [List.append_nil]; exact HO2.out, HB2.out, HC2.out⟩
  case round =>
    clear HO2 HB2 HC2
    obtain ⟨k, hk, rfl, ⟨g, cp, rfl⟩, ho, hb, hc⟩ := hrel
    have HBx := HR.out.bound (Nat.le_refl _)
    have hyl : (headL 3 (n : Int) q ++ putPs (xs.take k)).length = 12 + 2 * k := by rw [List.length_append, HY.out, putPs_len (fun x hx => HBx x (List.mem_of_mem_take hx)), List.length_take]; have := Hn.out; omega
    by_cases hlt : k < n
    · have hltx : k < xs.length := by have := Hn.out; omega
      have c1 := hc.cell (H1.out k hltx) (by omega)
      have hi : (k : Int) < (n : Int) := by omega
      have hx : xs.getD k 0 = xs[k] := by simp [List.getD_eq_getElem?_getD, hltx]
      obtain ⟨g0, g1⟩ := HBx _ (List.getElem_mem hltx)
      rw [← hx] at g0 g1
      obtain ⟨k0, k1, _, _⟩ := two_cells hb
      have HC : Hid (Chg 0 0 w wr) := hc
      have HO : Hid (OwnB wr (w.heap.size + 1) 5 (.slice (some ⟨g, 0, none⟩) (12 + 2 * k) cp) (headL 3 (n : Int) q ++ putPs (xs.take k))) := ho
      have HB : Hid (wr.heap[w.heap.size]? = some (.cells #[.int .i64 q, .slice (some ⟨b, off, none⟩) n cap] 122 (0, 0))) := hb
      have HT : Hid (headL 3 (n : Int) q ++ putPs (xs.take (k + 1)) = headL 3 (n : Int) q ++ putPs (xs.take k) ++ putN (xs.getD k 0) 2) := by show _ = _; rw [putPs_take hltx, ← List.append_assoc]
      have H2 : Hid ((putN (xs.getD k 0) 2).length = 2) := put2_len ⟨g0, g1⟩
      have HYl : Hid ((headL 3 (n : Int) q ++ putPs (xs.take k)).length = 12 + 2 * k) := hyl
      have hN := l3GoodBlock_calls wr (xs.getD k 0)
      rw [show (decide (0 ≤ xs.getD k 0) && decide (xs.getD k 0 < 2048)) = true from by rw [decide_eq_true g0, decide_eq_true g1]; rfl] at hN
      have fin : ∀ w2 : World, Same wr w2 → Hid (OwnB w2 (w.heap.size + 1) 5 (.slice (some ⟨g, 0, none⟩) (12 + 2 * k) cp) (headL 3 (n : Int) q ++ putPs (xs.take k)) ∧ w2.heap[w.heap.size]? = some (.cells #[.int .i64 q, .slice (some ⟨b, off, none⟩) n cap] 122 (0, 0)) ∧ Chg 0 0 w w2) := fun w2 h => ⟨HO.out.chg (h.chg 0 0) (by intro g _; omega), by rw [h.heap]; exact HB.out, HC.out.trans (h.chg 0 0)⟩
      have HF : Hid (∀ w2 : World, Same wr w2 → Hid (OwnB w2 (w.heap.size + 1) 5 (.slice (some ⟨g, 0, none⟩) (12 + 2 * k) cp) (headL 3 (n : Int) q ++ putPs (xs.take k)) ∧ w2.heap[w.heap.size]? = some (.cells #[.int .i64 q, .slice (some ⟨b, off, none⟩) n cap] 122 (0, 0)) ∧ Chg 0 0 w w2)) := fin
      clear fin
      have HXk : Hid (∀ j, k = j + 1 → wr.cell? ⟨b, off + j, none⟩ = some (.int .i64 (xs.getD j 0)) ∧ xs.getD j 0 < xs.getD k 0) := fun j e => ⟨hc.cell (H1.out j (by omega)) (by omega), by rw [e]; exact HR.out.ahead (by omega)⟩
      generalize xs.getD k 0 = y at *
      generalize headL 3 (n : Int) q ++ putPs (xs.take k) = L at *
      clear ho hc hx hb HBx hyl HB HC HO
      go_wp2_with fail
      refine hN.mono ?_
      rintro e w2 ⟨rfl, rfl⟩
      clear hN
      by_cases hk0 : k = 0
      · subst hk0
        rw [Nat.add_zero] at c1
        clear HXk
        go_wp2
        go_quiet (fail)
        go_wp2_with fail
        have hf := HF.out _ ((Same.refl w2).drewN nq)
        have sw : w2.heap.size = (w2.drewN nq).heap.size := rfl
        generalize w2.drewN nq = w3 at *
        have HO3 : Hid (OwnB w3 (w.heap.size + 1) 5 (.slice (some ⟨g, 0, none⟩) (12 + 2 * 0) cp) L) := hf.out.1
        have HB3 : Hid (w3.heap[w.heap.size]? = some (.cells #[.int .i64 q, .slice (some ⟨b, off, none⟩) n cap] 122 (0, 0))) := hf.out.2.1
        have HC3 : Hid (Chg 0 0 w w3) := hf.out.2.2
        clear hf HF sw
        have hN := specPut_calls w3 y 2 (by omega)
        refine hN.mono ?_
        rintro e w4 ⟨r, rfl, or', h4⟩
        have s3 := (Array.getElem?_eq_some_iff.1 HB3.out).1
        have s4 := h4.size
        have HO4 : Hid (OwnB w4 (w.heap.size + 1) 5 (.slice (some ⟨g, 0, none⟩) (12 + 2 * 0) cp) L) := HO3.out.chg h4 (by intro g _; omega)
        have HV4 : Hid (View w4 w3.heap.size w4.heap.size .u8 r (putN y 2)) := or'.view (by rw [H2.out]; omega) (fun g hg => (or'.lt g hg).2)
        have HC4 : Hid (Chg 0 0 w w4) := HC3.out.trans h4
        have HB4 : Hid (w4.heap[w.heap.size]? = some (.cells #[.int .i64 q, .slice (some ⟨b, off, none⟩) n cap] 122 (0, 0))) := (h4.block _ (Array.getElem?_eq_some_iff.1 HB3.out).1 (by omega)).trans HB3.out
        obtain ⟨r0, r1, r2, rfl⟩ := row_slice or'
        clear hN or' h4 HO3 HB3 HC3
        go_wp2_with (at_builtin; refine wpList_app_seen rfl (.tmp 61) (.tmp 67) rfl (w.heap.size + 1) _ L rfl HO4.out (by omega) _ _ _ (putN y 2) rfl HV4.out (by rw [H2.out]; omega) (by rw [H2.out, HYl.out]; omega) ?_)
        intro v' w5 ho5 hc5
        have HO5 : Hid (OwnB w5 (w.heap.size + 1) 5 v' (headL 3 (n : Int) q ++ putPs (xs.take (0 + 1)))) := by show OwnB _ _ _ _ _; rw [HT.out]; exact ho5
        have HC5 : Hid (Chg 0 0 w w5) := HC4.out.step hc5 (by omega)
        have hlt5 := (Array.getElem?_eq_some_iff.1 HB4.out).1
        have HB5 : Hid (w5.heap[w.heap.size]? = some (.cells #[.int .i64 q, .slice (some ⟨b, off, none⟩) n cap] 122 (0, 0))) := (hc5.block _ hlt5 (by omega)).trans HB4.out
        have HV5 : Hid (∃ g cp, v' = .slice (some ⟨g, 0, none⟩) (12 + 2 * (0 + 1)) cp) := by
          have hl5 : (headL 3 (n : Int) q ++ putPs (xs.take (0 + 1))).length = 12 + 2 * (0 + 1) := by have e := congrArg List.length HT.out; have e2 : (L ++ putN y 2).length = L.length + (putN y 2).length := List.length_append; rw [H2.out, HYl.out] at e2; omega
          obtain ⟨g', c', e'⟩ := HO5.out.some_of (by rw [hl5]; omega)
          exact ⟨g', c', by rw [e', hl5]⟩
        clear ho5 hc5 HV4 HO4
        go_wp2
        go_roundw
        case rel => exact ⟨0 + 1, by omega, by go_num, HV5.out, HO5.out, HB5.out, HC5.out⟩
        case measure => simp [intOf]; omega
      · obtain ⟨j, rfl⟩ : ∃ j, k = j + 1 := ⟨k - 1, by omega⟩
        obtain ⟨c0, hjy⟩ := HXk.out j rfl
        have hj1 : (0 : Int) < (j : Int) + 1 := by omega
        have hj2 : (j : Int) < (n : Int) := by omega
        generalize xs.getD j 0 = z at *
        have hzy : ¬ y ≤ z := by omega
        clear HXk
        go_wp2
        go_quiet (fail)
        go_wp2_with fail
        have hf := HF.out _ ((Same.refl w2).drewN nq)
        have sw : w2.heap.size = (w2.drewN nq).heap.size := rfl
        generalize w2.drewN nq = w3 at *
        have HO3 : Hid (OwnB w3 (w.heap.size + 1) 5 (.slice (some ⟨g, 0, none⟩) (12 + 2 * (j + 1)) cp) L) := hf.out.1
        have HB3 : Hid (w3.heap[w.heap.size]? = some (.cells #[.int .i64 q, .slice (some ⟨b, off, none⟩) n cap] 122 (0, 0))) := hf.out.2.1
        have HC3 : Hid (Chg 0 0 w w3) := hf.out.2.2
        clear hf HF sw
        have hN := specPut_calls w3 y 2 (by omega)
        refine hN.mono ?_
        rintro e w4 ⟨r, rfl, or', h4⟩
        have s3 := (Array.getElem?_eq_some_iff.1 HB3.out).1
        have s4 := h4.size
        have HO4 : Hid (OwnB w4 (w.heap.size + 1) 5 (.slice (some ⟨g, 0, none⟩) (12 + 2 * (j + 1)) cp) L) := HO3.out.chg h4 (by intro g _; omega)
        have HV4 : Hid (View w4 w3.heap.size w4.heap.size .u8 r (putN y 2)) := or'.view (by rw [H2.out]; omega) (fun g hg => (or'.lt g hg).2)
        have HC4 : Hid (Chg 0 0 w w4) := HC3.out.trans h4
        have HB4 : Hid (w4.heap[w.heap.size]? = some (.cells #[.int .i64 q, .slice (some ⟨b, off, none⟩) n cap] 122 (0, 0))) := (h4.block _ (Array.getElem?_eq_some_iff.1 HB3.out).1 (by omega)).trans HB3.out
        obtain ⟨r0, r1, r2, rfl⟩ := row_slice or'
        clear hN or' h4 HO3 HB3 HC3
        go_wp2_with (at_builtin; refine wpList_app_seen rfl (.tmp 61) (.tmp 67) rfl (w.heap.size + 1) _ L rfl HO4.out (by omega) _ _ _ (putN y 2) rfl HV4.out (by rw [H2.out]; omega) (by rw [H2.out, HYl.out]; omega) ?_)
        intro v' w5 ho5 hc5
        have HO5 : Hid (OwnB w5 (w.heap.size + 1) 5 v' (headL 3 (n : Int) q ++ putPs (xs.take ((j + 1) + 1)))) := by show OwnB _ _ _ _ _; rw [HT.out]; exact ho5
        have HC5 : Hid (Chg 0 0 w w5) := HC4.out.step hc5 (by omega)
        have hlt5 := (Array.getElem?_eq_some_iff.1 HB4.out).1
        have HB5 : Hid (w5.heap[w.heap.size]? = some (.cells #[.int .i64 q, .slice (some ⟨b, off, none⟩) n cap] 122 (0, 0))) := (hc5.block _ hlt5 (by omega)).trans HB4.out
        have HV5 : Hid (∃ g cp, v' = .slice (some ⟨g, 0, none⟩) (12 + 2 * ((j + 1) + 1)) cp) := by
          have hl5 : (headL 3 (n : Int) q ++ putPs (xs.take ((j + 1) + 1))).length = 12 + 2 * ((j + 1) + 1) := by have e := congrArg List.length HT.out; have e2 : (L ++ putN y 2).length = L.length + (putN y 2).length := List.length_append; rw [H2.out, HYl.out] at e2; omega
          obtain ⟨g', c', e'⟩ := HO5.out.some_of (by rw [hl5]; omega)
          exact ⟨g', c', by rw [e', hl5]⟩
        clear ho5 hc5 HV4 HO4
        go_wp2
        go_roundw
        case rel => exact ⟨(j + 1) + 1, by omega, by go_num, HV5.out, HO5.out, HB5.out, HC5.out⟩
        case measure => simp [intOf]; omega
    · obtain rfl : k = n := by omega
      have ht : xs.take k = xs := List.take_of_length_le (by have := Hn.out; omega)
      rw [ht] at ho hyl
      have sz := hc.size
      have hN := l3PadE_calls wr (by rw [hyl]; omega) (ho.view (hi := wr.heap.size) (by rw [hyl]; omega) (fun g hg => (ho.lt g hg).2))
      have HC : Hid (Chg 0 0 w wr) := hc
      have hge : ¬ ((k : Int) < (k : Int)) := by omega
      clear ho hb hc HBx
      go_wp2_with fail
      refine hN.mono ?_
      rintro e w2 ⟨v, rfl, o2, h2⟩
      have HO2 : Hid (OwnB w2 w.heap.size 5 v (padL (headL 3 (k : Int) q ++ putPs xs))) := o2.base (fun g hg => by have := (o2.lt g hg).1; omega)
      have HC2 : Hid (Chg 0 0 w w2) := HC.out.trans h2
      clear hN o2 h2
      go_wp2
      go_ret
      exact ⟨_, rfl, HO2.out, HC2.out⟩

end Go.Proofs.YtejmndhjipbhcaaGreatDoor
