/- Revoked of the model and of the program. -/
import Derived.Test.YtdddphgjiokjpaaTxnL
import Derived.Test.YtdddphgjiokjpaaTxnSpec
namespace Go.Proofs.Ytdddphgjiokjpaa
open Go.RowKit

/-- Some transaction behind place i revokes the block. -/
def RevP (ts : List Tx) (i b : Int) : Prop := 0 ≤ i ∧ i < ts.length ∧ ∃ j : Nat, i < j ∧ j < ts.length ∧ b ∈ (ts.getD j Tx.none).revs
def revB (ts : List Tx) (i b : Int) : Bool := decide (0 ≤ i ∧ i < ts.length ∧ ∃ j : Nat, j < ts.length ∧ i < j ∧ b ∈ (ts.getD j Tx.none).revs)
theorem revB_true {ts : List Tx} {i b : Int} (h : RevP ts i b) : revB ts i b = true := by
  obtain ⟨h1, h2, j, h3, h4, h5⟩ := h
  exact decide_eq_true ⟨h1, h2, j, h4, h3, h5⟩
theorem revB_false {ts : List Tx} {i b : Int} (h : ¬ RevP ts i b) : revB ts i b = false :=
  decide_eq_false (fun ⟨h1, h2, j, h4, h3, h5⟩ => h ⟨h1, h2, j, h3, h4, h5⟩)

set_option maxRecDepth 20000 in
set_option maxHeartbeats 400000 in
theorem index_some (w : World) (xs : List Int) (v : Int) (b off cap : Nat) (hl : xs.length ≤ 9223372036854775807)
    (h1 : ∀ i, i < xs.length → w.cell? ⟨b, off + i, none⟩ = some (.int .i64 (xs.getD i 0))) :
    Calls Try.prog 18 #[.slice (some ⟨b, off, none⟩) xs.length cap, .int .i64 v] w fun e w' => (∃ p : Int, e = .returned (.int .i64 p) ∧ (decide (0 ≤ p) = decide (v ∈ xs))) ∧ w' = w := by
  go_enter Try.func18, Try.ntmps18
  go_wp2
  go_loopw [8] (fun i wr => wr = w ∧ ∃ k : Nat, k ≤ xs.length ∧ i = .int .i64 k ∧ v ∉ xs.take k) (fun i _ => xs.length - (intOf i).toNat)
  case atStart => exact ⟨rfl, 0, Nat.zero_le _, rfl, by simp⟩
  case round =>
    obtain ⟨rfl, k, hk, rfl, hR⟩ := hrel
    by_cases hlt : k < xs.length
    · have c1 : wr.cell? ⟨b, off + k, none⟩ = some (.int .i64 (xs.getD k 0)) := h1 k hlt
      have hi : (k : Int) < (xs.length : Int) := by omega
      have hx : xs.getD k 0 = xs[k] := by simp [List.getD_eq_getElem?_getD, hlt]
      by_cases he : v = xs.getD k 0
      · have Hn : Hid (decide (v ∈ xs) = true) := by show _ = _; rw [decide_eq_true_eq, he, hx]; exact List.getElem_mem hlt
        have hv : (v == xs.getD k 0) = true := by simpa using he
        generalize xs.getD k 0 = x at *
        clear h1 hx hR
        go_wp2
        go_ret
        exact ⟨⟨_, rfl, by rw [Hn.out]; exact decide_eq_true (by omega)⟩, rfl⟩
      · have Hn : Hid (v ∉ xs.take (k + 1)) := by
          show v ∉ _
          rw [List.take_succ_eq_append_getElem hlt, List.mem_append, not_or]
          exact ⟨hR, by simp; rw [← hx]; exact he⟩
        have hv : (v == xs.getD k 0) = false := by simpa using he
        generalize xs.getD k 0 = x at *
        clear h1 hx hR
        go_wp2
        go_roundw
        case rel => exact ⟨trivial, k + 1, by omega, by go_num, Hn.out⟩
        case measure => simp [intOf]; omega
    · obtain rfl : k = xs.length := by omega
      rw [List.take_length] at hR
      have Hn : Hid (decide (v ∈ xs) = false) := decide_eq_false hR
      clear h1 hR
      go_wp2
      go_ret
      exact ⟨⟨_, rfl, by rw [Hn.out]; exact decide_eq_false (by omega)⟩, rfl⟩

set_option maxRecDepth 20000 in
set_option maxHeartbeats 400000 in
theorem index_none (w : World) (v : Int) (ao : Option Addr) (cap : Nat) :
    Calls Try.prog 18 #[.slice ao 0 cap, .int .i64 v] w fun e w' => (∃ p : Int, e = .returned (.int .i64 p) ∧ (decide (0 ≤ p) = false)) ∧ w' = w := by
  go_enter Try.func18, Try.ntmps18
  go_wp2
  refine wp_loop_rounds 1 ?_; rw [rounds_succ]
  go_wp2
  go_ret
  exact ⟨⟨_, rfl, by decide⟩, rfl⟩

theorem index_calls (w : World) {lo hi : Nat} {a : Value} {xs : List Int} (v : Int) (h1 : View w lo hi .i64 a xs) :
    Calls Try.prog 18 #[a, .int .i64 v] w fun e w' => (∃ p : Int, e = .returned (.int .i64 p) ∧ (decide (0 ≤ p) = decide (v ∈ xs))) ∧ w' = w := by
  obtain ⟨ao, cap, rfl, hl, _, h1⟩ := h1
  rcases h1 with rfl | ⟨x, off, rfl, _, _, h1⟩
  · exact index_none w v ao cap
  · exact index_some w xs v x off cap hl h1

set_option maxRecDepth 20000 in
set_option maxHeartbeats 400000 in
theorem contains_calls (w : World) {lo hi : Nat} {a : Value} {xs : List Int} (v : Int) (h1 : View w lo hi .i64 a xs) :
    Calls Try.prog 12 #[a, .int .i64 v] w fun e w' => e = .returned (.bool (decide (v ∈ xs))) ∧ w' = w := by
  go_enter Try.func12, Try.ntmps12
  go_wp2_with fail
  refine (index_calls w v h1).mono ?_
  rintro e w1 ⟨⟨p, rfl, hp⟩, rfl⟩
  have HP : Hid (decide (0 ≤ p) = decide (v ∈ xs)) := hp
  clear hp
  go_wp2
  go_ret
  exact ⟨by rw [← HP.out]; rfl, rfl⟩

set_option maxRecDepth 20000 in
set_option maxHeartbeats 400000 in
theorem specRevoked_some (w : World) (ts : List Tx) (i v : Int) (lo hi b off cap : Nat) (hl : ts.length ≤ 9223372036854775807) (hi0 : 0 ≤ i) (hi1 : i < ts.length)
    (h1 : ∀ i, i < ts.length → TAt w lo hi b (off + i * 3) (ts.getD i Tx.none)) :
    Calls Try.prog 5 #[.slice (some ⟨b, off, none⟩) ts.length cap, .int .i64 i, .int .i64 v] w fun e w' => e = .returned (.bool (revB ts i v)) ∧ w' = w := by
  go_enter Try.func5, Try.ntmps5
  go_wp2
  go_loopw [7] (fun x wr => wr = w ∧ ∃ k : Nat, k ≤ ts.length ∧ x = .int .i64 k ∧ i < k ∧ ∀ j : Nat, i < j → j < k → v ∉ (ts.getD j Tx.none).revs) (fun x _ => ts.length - (intOf x).toNat)
  case atStart => exact ⟨rfl, (i + 1).toNat, by omega, by congr 1; omega, by omega, fun j _ _ => by omega⟩
  case round =>
    obtain ⟨rfl, k, hk, rfl, hik, hR⟩ := hrel
    by_cases hlt : k < ts.length
    · obtain ⟨hv, rv, c1, c2, c3, p1, v1⟩ := h1 k hlt
      have hi : (k : Int) < (ts.length : Int) := by omega
      have Hik : Hid (i < k) := hik
      by_cases he : v ∈ (ts.getD k Tx.none).revs
      · have Hn : Hid (revB ts i v = true) := revB_true ⟨hi0, hi1, k, by omega, hlt, he⟩
        have hC := l4Has_calls wr v v1
        rw [decide_eq_true he] at hC
        clear h1 c1 c2 p1 v1 hR he hik
        go_wp2_with fail
        refine hC.mono ?_
        rintro e w1 ⟨rfl, rfl⟩
        go_wp2
        go_ret
        exact ⟨by rw [Hn.out]; rfl, rfl⟩
      · have Hn : Hid (∀ j : Nat, i < j → j < k + 1 → v ∉ (ts.getD j Tx.none).revs) := by
          intro j h1 h2
          by_cases e : j = k
          · subst e; exact he
          · exact hR j h1 (by omega)
        have hC := l4Has_calls wr v v1
        rw [decide_eq_false he] at hC
        clear h1 c1 c2 p1 v1 hR he hik
        go_wp2_with fail
        refine hC.mono ?_
        rintro e w1 ⟨rfl, rfl⟩
        go_wp2
        go_roundw
        case rel => exact ⟨trivial, k + 1, by omega, by go_num, by have := Hik.out; omega, Hn.out⟩
        case measure => simp [intOf]; omega
    · obtain rfl : k = ts.length := by omega
      have Hn : Hid (revB ts i v = false) := revB_false (by rintro ⟨_, _, j, h1, h2, h3⟩; exact hR j h1 h2 h3)
      clear h1 hR hik
      go_wp2
      go_ret
      exact ⟨by rw [Hn.out]; rfl, rfl⟩

set_option maxRecDepth 20000 in
set_option maxHeartbeats 400000 in
theorem specRevoked_out (w : World) (n : Nat) (ao : Option Addr) (cap : Nat) (i v : Int) (_hl : n ≤ 9223372036854775807) (ho : ¬ (0 ≤ i ∧ i < n)) :
    Calls Try.prog 5 #[.slice ao n cap, .int .i64 i, .int .i64 v] w fun e w' => e = .returned (.bool false) ∧ w' = w := by
  by_cases h0 : i < 0
  · go_enter Try.func5, Try.ntmps5
    go_wp2
    go_ret
    exact ⟨rfl, rfl⟩
  · have h1 : ¬ i < n := by omega
    go_enter Try.func5, Try.ntmps5
    go_wp2
    go_ret
    exact ⟨rfl, rfl⟩

theorem specRevoked_calls (w : World) {lo hi : Nat} {a : Value} {ts : List Tx} (i v : Int) (h1 : TSView w lo hi a ts) :
    Calls Try.prog 5 #[a, .int .i64 i, .int .i64 v] w fun e w' => e = .returned (.bool (revB ts i v)) ∧ w' = w := by
  obtain ⟨ao, cap, rfl, hl, _, h1⟩ := h1
  by_cases ho : 0 ≤ i ∧ i < ts.length
  · rcases h1 with rfl | ⟨x, off, rfl, _, _, h1⟩
    · have := ho.2; simp at this; omega
    · exact specRevoked_some w ts i v lo hi x off cap hl ho.1 ho.2 h1
  · rw [revB_false (fun h => ho ⟨h.1, h.2.1⟩)]
    exact specRevoked_out w ts.length ao cap i v hl ho

set_option maxRecDepth 20000 in
set_option maxHeartbeats 400000 in
theorem implRevoked_out (w : World) (n : Nat) (ao : Option Addr) (cap : Nat) (i v : Int) (_hl : n ≤ 9223372036854775807) (ho : ¬ (0 ≤ i ∧ i < n)) :
    Calls Try.prog 7 #[.slice ao n cap, .int .i64 i, .int .i64 v] w fun e w' => e = .returned (.bool false) ∧ w' = w := by
  by_cases h0 : i < 0
  · go_enter Try.func7, Try.ntmps7
    go_wp2
    go_ret
    exact ⟨rfl, rfl⟩
  · have h1 : ¬ i < n := by omega
    go_enter Try.func7, Try.ntmps7
    go_wp2
    go_ret
    exact ⟨rfl, rfl⟩

set_option maxRecDepth 20000 in
set_option maxHeartbeats 400000 in
theorem implRevoked_some (w : World) (ts : List Tx) (m : Nat) (v : Int) (lo hi b off cap : Nat) (hl : ts.length ≤ 1048576) (hc : ts.length ≤ cap) (hi1 : m < ts.length)
    (h1 : ∀ i, i < ts.length → TAt w lo hi b (off + i * 3) (ts.getD i Tx.none)) :
    Calls Try.prog 7 #[.slice (some ⟨b, off, none⟩) ts.length cap, .int .i64 m, .int .i64 v] w fun e w' => e = .returned (.bool (revB ts m v)) ∧ Chg 0 0 w w' := by
  by_cases hcap : cap = m + 1
  · have hlm : ts.length = m + 1 := by omega
    have Hn : Hid (revB ts m v = false) := revB_false (by rintro ⟨_, _, j, h1, h2, h3⟩; omega)
    have hz : ts.length - (m + 1) = 0 := by omega
    clear h1
    go_enter Try.func7, Try.ntmps7
    go_wp2
    all_goals
      refine wp_loop_rounds 1 ?_; rw [rounds_succ]
      go_wp2
      go_ret
      exact ⟨by rw [Hn.out]; rfl, Chg.refl _ _ _⟩
  have e0 : ¬ (m : Int) < 0 := by omega
  have e1 : ¬ ts.length ≤ m := by omega
  go_enter Try.func7, Try.ntmps7
  go_wp2
  generalize hN : ts.length - (m + 1) = N at *
  have HN : Hid (ts.length - (m + 1) = N) := hN
  generalize hO : off + (m + 1) * 3 = o at *
  have HO : Hid (off + (m + 1) * 3 = o) := hO
  generalize cap - (m + 1) = c' at *
  have hNb : N ≤ 1048576 := by omega
  clear hN hO
  go_loopw [22] (fun x wr => Chg 0 0 w wr ∧ ∃ k : Nat, k ≤ N ∧ x = .int .i64 k ∧ ∀ j : Nat, m < j → j < m + 1 + k → v ∉ (ts.getD j Tx.none).revs) (fun x _ => N - (intOf x).toNat)
  case atStart => exact ⟨Chg.refl _ _ _, 0, Nat.zero_le _, rfl, fun j _ _ => by omega⟩
  case round =>
    obtain ⟨hch, k, hk, rfl, hR⟩ := hrel
    by_cases hlt : k < N
    · have hlt' : m + 1 + k < ts.length := by have := HN.out; omega
      obtain ⟨hv, rv, c1, c2, c3, p1, v1⟩ := h1 (m + 1 + k) hlt'
      rw [show off + (m + 1 + k) * 3 = o + k * 3 by have := HO.out; omega] at c1 c2 c3
      have hi : (k : Int) < (N : Int) := by omega
      have c1 := hch.cell c1 (by omega)
      have c2 := hch.cell c2 (by omega)
      have c3 := hch.cell c3 (by omega)
      obtain ⟨po, pcap, rfl⟩ := p1.slice
      obtain ⟨ao, acap, rfl⟩ := v1.slice
      have hS : Hid (∀ j : Nat, m < j → j < m + 1 + k → v ∉ (ts.getD j Tx.none).revs) := hR
      have hT : Hid (v ∈ (ts.getD (m + 1 + k) Tx.none).revs → revB ts m v = true) := fun h => revB_true ⟨by omega, by omega, m + 1 + k, by omega, hlt', h⟩
      have hF : Hid (v ∉ (ts.getD (m + 1 + k) Tx.none).revs → ∀ j : Nat, m < j → j < m + 1 + (k + 1) → v ∉ (ts.getD j Tx.none).revs) := by
        intro he j h1 h2
        by_cases e : j = m + 1 + k
        · subst e; exact he
        · exact hS.out j h1 (by omega)
      clear h1 p1 hR
      generalize ts.getD (m + 1 + k) Tx.none = t at *
      have cA : Chg 0 0 wr (wr.alloc (.cells #[.int .i64 t.seq, .slice po t.homes.length pcap, .slice ao t.revs.length acap] 37)) := Chg.alloc (Chg.refl 0 0 _) _
      have hA : Chg 0 0 w (wr.alloc (.cells #[.int .i64 t.seq, .slice po t.homes.length pcap, .slice ao t.revs.length acap] 37)) := hch.trans cA
      have hC := contains_calls (wr.alloc (.cells #[.int .i64 t.seq, .slice po t.homes.length pcap, .slice ao t.revs.length acap] 37)) v (v1.chg hA (by omega))
      clear v1 cA hch
      go_wp2_with fail
      refine hC.mono ?_
      rintro e w1 ⟨rfl, rfl⟩
      by_cases he : v ∈ t.revs
      · rw [decide_eq_true he]
        clear hC
        have Hn : Hid (revB ts m v = true) := hT.out he
        go_wp2
        go_ret
        exact ⟨by rw [Hn.out]; rfl, hA⟩
      · rw [decide_eq_false he]
        clear hC
        go_wp2
        go_roundw
        case rel => exact ⟨hA, k + 1, by omega, by go_num, hF.out he⟩
        case measure => simp [intOf]; omega
    · obtain rfl : k = N := by omega
      have Hn : Hid (revB ts m v = false) := revB_false (by rintro ⟨_, _, j, h1, h2, h3⟩; exact hR j (by omega) (by have := HN.out; omega) h3)
      clear h1 hR
      go_wp2
      go_ret
      exact ⟨by rw [Hn.out]; rfl, hch⟩

theorem implRevoked_calls (w : World) {lo hi : Nat} {a : Value} {ts : List Tx} (i v : Int) (hl : ts.length ≤ 1048576) (h1 : TSView w lo hi a ts) :
    Calls Try.prog 7 #[a, .int .i64 i, .int .i64 v] w fun e w' => e = .returned (.bool (revB ts i v)) ∧ Chg 0 0 w w' := by
  obtain ⟨ao, cap, rfl, _, hc, h1⟩ := h1
  by_cases ho : 0 ≤ i ∧ i < ts.length
  · rcases h1 with rfl | ⟨x, off, rfl, _, _, h1⟩
    · have := ho.2; simp at this; omega
    · obtain ⟨m, rfl⟩ : ∃ m : Nat, i = m := ⟨i.toNat, by omega⟩
      exact implRevoked_some w ts m v lo hi x off cap hl hc (by omega) h1
  · rw [revB_false (fun h => ho ⟨h.1, h.2.1⟩)]
    exact (implRevoked_out w ts.length ao cap i v (by omega) ho).mono fun e w' ⟨he, hw⟩ => ⟨he, by rw [hw]; exact Chg.refl _ _ _⟩

end Go.Proofs.Ytdddphgjiokjpaa
