/- Several short texts in one: TxnImpl, IsWithin, TxnImpl2. -/
import Derived.Test.YteligghapkleaaaGreatDoorBytSeen
import Derived.Test.YteligghapkleaaaGreatDoorMem
import Derived.Test.YteligghapkleaaaGreatDoorRows
import Derived.Test.YteligghapkleaaaGreatDoorTxnSpec2
namespace Go.Proofs.YteligghapkleaaaGreatDoor
open Go.RowKit

set_option maxHeartbeats 400000 in
theorem follows_calls (w : World) (l v : Int) : Calls Tryz.prog 53 #[.int .i64 l, .int .i64 v] w fun e w' => e = .returned (.bool (fol l v)) ∧ w' = w := by
  unfold fol
  by_cases h1 : l < v
  · by_cases h2 : v < 2048
    · rw [decide_eq_true h1, decide_eq_true h2]
      go_enter Tryz.func53, Tryz.ntmps53
      go_wp2
      go_ret
      exact ⟨rfl, rfl⟩
    · rw [decide_eq_true h1, decide_eq_false h2]
      go_enter Tryz.func53, Tryz.ntmps53
      go_wp2
      go_ret
      exact ⟨rfl, rfl⟩
  · rw [decide_eq_false h1]
    go_enter Tryz.func53, Tryz.ntmps53
    go_wp2
    go_ret
    exact ⟨rfl, rfl⟩

set_option maxHeartbeats 400000 in
theorem nan_calls (w : World) (x : Int) : Calls Tryz.prog 68 #[.int .i64 x] w fun e w' => e = .returned (.bool false) ∧ w' = w := by
  have hne : (x != x) = false := by simp
  go_enter Tryz.func68, Tryz.ntmps68
  go_wp2
  go_ret
  exact ⟨rfl, rfl⟩
set_option maxHeartbeats 400000 in
theorem nan2_calls (w : World) (x : Int) : Calls Tryz.prog 77 #[.int .i64 x] w fun e w' => e = .returned (.bool false) ∧ w' = w := by
  have hne : (x != x) = false := by simp
  go_enter Tryz.func77, Tryz.ntmps77
  go_wp2
  go_ret
  exact ⟨rfl, rfl⟩
set_option maxHeartbeats 400000 in
theorem less_calls (w : World) (x y : Int) : Calls Tryz.prog 67 #[.int .i64 x, .int .i64 y] w fun e w' => e = .returned (.bool (decide (x < y))) ∧ w' = w := by
  go_enter Tryz.func67, Tryz.ntmps67
  go_wp2_with fail
  refine (nan2_calls _ x).mono ?_
  rintro e w1 ⟨rfl, rfl⟩
  go_wp2
  go_ret
  exact ⟨rfl, rfl⟩

/-- What the search keeps. -/
def Bs (xs : List Int) (v : Int) (i j : Nat) : Prop := i ≤ j ∧ j ≤ xs.length ∧ (∀ m, m < i → xs.getD m 0 < v) ∧ ∀ m, j ≤ m → m < xs.length → v ≤ xs.getD m 0

theorem Rises.lt {xs : List Int} (h : Rises xs xs.length) : ∀ d m : Nat, m + d + 1 < xs.length → xs.getD m 0 < xs.getD (m + d + 1) 0 := by
  intro d
  induction d with
  | zero =>
    intro m hm
    have := (fol_iff.1 (h (m + 1) (by omega))).1
    rwa [show prevI xs (m + 1) = xs.getD m 0 from by unfold prevI; rw [if_neg (by omega)]; rfl] at this
  | succ d ih =>
    intro m hm
    have h1 := ih m (by omega)
    have h2 := (fol_iff.1 (h (m + (d + 1) + 1) (by omega))).1
    rw [show prevI xs (m + (d + 1) + 1) = xs.getD (m + d + 1) 0 from by unfold prevI; rw [if_neg (by omega)]; rfl] at h2
    omega

theorem Bs.start (xs : List Int) (v : Int) : Bs xs v 0 xs.length := ⟨Nat.zero_le _, Nat.le_refl _, fun m h => absurd h (Nat.not_lt_zero m), fun m h1 h2 => by omega⟩
theorem Rises.le {xs : List Int} (h : Rises xs xs.length) {a b : Nat} (hab : a ≤ b) (hb : b < xs.length) : xs.getD a 0 ≤ xs.getD b 0 := by
  by_cases e : a = b
  · subst e; exact Int.le_refl _
  · obtain ⟨d, rfl⟩ : ∃ d, b = a + d + 1 := ⟨b - a - 1, by omega⟩
    exact Int.le_of_lt (h.lt d a hb)
theorem Bs.up {xs : List Int} {v : Int} {i j m : Nat} (h : Bs xs v i j) (hr : Rises xs xs.length) (_ : i ≤ m) (h2 : m < j) (hx : xs.getD m 0 < v) : Bs xs v (m + 1) j :=
  ⟨by omega, h.2.1, fun k hk => Int.lt_of_le_of_lt (hr.le (by omega) (by have := h.2.1; omega)) hx, h.2.2.2⟩
theorem Bs.down {xs : List Int} {v : Int} {i j m : Nat} (h : Bs xs v i j) (hr : Rises xs xs.length) (h1 : i ≤ m) (h2 : m < j) (hx : ¬ xs.getD m 0 < v) : Bs xs v i m :=
  ⟨h1, by have := h.2.1; omega, h.2.2.1, fun k hk hk2 => Int.le_trans (Int.not_lt.1 hx) (hr.le hk hk2)⟩
theorem Bs.found {xs : List Int} {v : Int} {i : Nat} (h : Bs xs v i i) (hr : Rises xs xs.length) : v ∈ xs ↔ i < xs.length ∧ xs.getD i 0 = v := by
  constructor
  · intro hm
    obtain ⟨m, hm, he⟩ := List.mem_iff_getElem.1 hm
    have he' : xs.getD m 0 = v := by rw [← he]; simp [List.getD_eq_getElem?_getD, hm]
    have h1 : ¬ m < i := fun hl => by have := h.2.2.1 m hl; omega
    have hil : i < xs.length := by omega
    have h2 := h.2.2.2 i (Nat.le_refl _) hil
    have h3 := hr.le (a := i) (b := m) (by omega) hm
    exact ⟨hil, by omega⟩
  · rintro ⟨hl, he⟩
    rw [← he]
    simp [List.getD_eq_getElem?_getD, hl]

set_option maxRecDepth 20000 in
set_option maxHeartbeats 1000000 in
theorem search_some (w : World) (xs : List Int) (v : Int) (b off cap : Nat) (hl : xs.length ≤ 1048576) (hr : Rises xs xs.length)
    (h1 : ∀ i, i < xs.length → w.cell? ⟨b, off + i, none⟩ = some (.int .i64 (xs.getD i 0))) :
    Calls Tryz.prog 54 #[.slice (some ⟨b, off, none⟩) xs.length cap, .int .i64 v] w fun e w' => ∃ p, e = .returned (.tuple #[.int .i64 p, .bool (decide (v ∈ xs))]) ∧ w' = w := by
  have HR : Hid (Rises xs xs.length) := hr
  clear hr
  go_enter Tryz.func54, Tryz.ntmps54
  go_wp2
  go_loopw [7, 8] (fun i j wr => wr = w ∧ ∃ a c : Nat, i = .int .i64 a ∧ j = .int .i64 c ∧ Bs xs v a c) (fun i j _ => (intOf j).toNat - (intOf i).toNat)
  case atStart => exact ⟨rfl, 0, xs.length, rfl, rfl, Bs.start xs v⟩
  case round =>
    obtain ⟨rfl, a, c, rfl, rfl, hB⟩ := hrel
    have h01 := hB.1
    have h02 := hB.2.1
    have HB : Hid (Bs xs v a c) := hB
    clear hB
    by_cases hlt : a < c
    · have hm1 : a ≤ (a + c) / 2 := by omega
      have hm2 : (a + c) / 2 < c := by omega
      have c1 : wr.cell? ⟨b, off + (a + c) / 2, none⟩ = some (.int .i64 (xs.getD ((a + c) / 2) 0)) := h1 _ (by omega)
      have hik : ((a : Int) + c) / 2 < (xs.length : Int) := by omega
      have hup := HB.out.up HR.out hm1 hm2
      have hdn := HB.out.down HR.out hm1 hm2
      generalize xs.getD ((a + c) / 2) 0 = x at *
      clear h1
      go_wp2_with fail
      refine (less_calls _ x v).mono ?_
      rintro e w1 ⟨rfl, rfl⟩
      by_cases hx : x < v
      · have Hn : Hid (Bs xs v ((a + c) / 2 + 1) c) := hup hx
        rw [decide_eq_true hx]
        clear hup hdn hx c1
        go_wp2
        go_roundw
        case rel => exact ⟨trivial, (a + c) / 2 + 1, c, by first | go_num | (congr 1; omega), rfl, Hn.out⟩
        case measure => simp [intOf]; omega
      · have Hn : Hid (Bs xs v a ((a + c) / 2)) := hdn (by omega)
        rw [decide_eq_false hx]
        clear hup hdn hx c1
        go_wp2
        go_roundw
        case rel => exact ⟨trivial, a, (a + c) / 2, rfl, by first | go_num | (congr 1; omega), Hn.out⟩
        case measure => simp [intOf]; omega
    · obtain rfl : a = c := by omega
      have hF := HB.out.found HR.out
      by_cases hl2 : a < xs.length
      · have c1 : wr.cell? ⟨b, off + a, none⟩ = some (.int .i64 (xs.getD a 0)) := h1 _ hl2
        have hik : (a : Int) < (xs.length : Int) := by omega
        by_cases hx : xs.getD a 0 = v
        · have Hn : Hid (decide (v ∈ xs) = true) := decide_eq_true (hF.2 ⟨hl2, hx⟩)
          have hxe : (xs.getD a 0 == v) = true := by simpa using hx
          generalize xs.getD a 0 = x at *
          clear hF h1 hx
          go_wp2
          go_ret2
          exact ⟨_, by rw [Hn.out]; rfl, rfl⟩
        · have Hn : Hid (decide (v ∈ xs) = false) := decide_eq_false (fun h => hx (hF.1 h).2)
          have hxe : (xs.getD a 0 == v) = false := by simpa using hx
          generalize xs.getD a 0 = x at *
          clear hF h1 hx
          go_wp2_with fail
          refine (nan_calls _ x).mono ?_
          rintro e w1 ⟨rfl, rfl⟩
          go_wp2
          go_ret2
          exact ⟨_, by rw [Hn.out]; rfl, rfl⟩
      · have Hn : Hid (decide (v ∈ xs) = false) := decide_eq_false (fun h => hl2 (hF.1 h).1)
        clear hF h1
        go_wp2
        go_ret2
        exact ⟨_, by rw [Hn.out]; rfl, rfl⟩

set_option maxRecDepth 20000 in
set_option maxHeartbeats 400000 in
theorem search_none (w : World) (v : Int) (ao : Option Addr) (cap : Nat) :
    Calls Tryz.prog 54 #[.slice ao 0 cap, .int .i64 v] w fun e w' => ∃ p, e = .returned (.tuple #[.int .i64 p, .bool false]) ∧ w' = w := by
  go_enter Tryz.func54, Tryz.ntmps54
  go_wp2
  refine wp_loop_rounds 1 ?_; rw [rounds_succ]
  go_wp2
  go_ret2
  exact ⟨_, rfl, rfl⟩

theorem search_calls (w : World) {lo hi : Nat} {a : Value} {xs : List Int} (v : Int) (hl : xs.length ≤ 1048576) (hr : Rises xs xs.length) (h1 : View w lo hi .i64 a xs) :
    Calls Tryz.prog 54 #[a, .int .i64 v] w fun e w' => ∃ p, e = .returned (.tuple #[.int .i64 p, .bool (decide (v ∈ xs))]) ∧ w' = w := by
  obtain ⟨ao, cap, rfl, _, _, h1⟩ := h1
  rcases h1 with rfl | ⟨x, off, rfl, _, _, h1⟩
  · exact search_none w v ao cap
  · exact search_some w xs v x off cap hl hr h1

end Go.Proofs.YteligghapkleaaaGreatDoor

namespace Go.Proofs.YteligghapkleaaaGreatDoor
open Go.RowKit

set_option maxHeartbeats 400000 in
theorem isWithin_calls (w : World) (v l m : Int) : Calls Tryz.prog 52 #[.int .i64 v, .int .i64 l, .int .i64 m] w fun e w' => e = .returned (.bool (decide (l ≤ v) && decide (v ≤ m))) ∧ w' = w := by
  by_cases h1 : l ≤ v
  · by_cases h2 : v ≤ m
    · rw [decide_eq_true h1, decide_eq_true h2]
      go_enter Tryz.func52, Tryz.ntmps52
      go_wp2
      go_ret
      exact ⟨rfl, rfl⟩
    · rw [decide_eq_true h1, decide_eq_false h2]
      go_enter Tryz.func52, Tryz.ntmps52
      go_wp2
      go_ret
      exact ⟨rfl, rfl⟩
  · rw [decide_eq_false h1]
    go_enter Tryz.func52, Tryz.ntmps52
    go_wp2
    go_ret
    exact ⟨rfl, rfl⟩

end Go.Proofs.YteligghapkleaaaGreatDoor

namespace Go.Proofs.YteligghapkleaaaGreatDoor
open Go.RowKit

theorem prevI_succ (xs : List Int) (k : Nat) : prevI xs (k + 1) = xs.getD k 0 := by unfold prevI; rw [if_neg (by omega)]; rfl
theorem map_getD (ps : List Wr) (k : Nat) : (ps.map (·.1)).getD k 0 = (ps.getD k (0, [])).1 := by
  simp only [List.getD_eq_getElem?_getD, List.getElem?_map]
  cases ps[k]? <;> rfl

set_option maxRecDepth 20000 in
set_option maxHeartbeats 4000000 in
theorem implValidTxn_calls (w : World) {lo hi : Nat} {a : Value} {t : Tx} (hl : cntT t ≤ 1048576) (h1 : TView w lo hi a t) :
    Calls Tryz.prog 41 #[a] w fun e w' => e = .returned (.bool (validT t)) ∧ Chg 0 0 w w' := by
  have hl1 : t.homes.length ≤ 1048576 := by have := cnt_ge t.homes; unfold cntT at hl; omega
  have hl2 : t.revs.length ≤ 1048576 := by unfold cntT at hl; omega
  obtain ⟨hv, rv, rfl, p1, v1⟩ := h1
  obtain ⟨po, pcap, rfl⟩ := p1.slice
  obtain ⟨ao, cap, rfl⟩ := v1.slice
  have hA : Chg 0 0 w (w.alloc (.cells #[.int .i64 t.seq, .slice po t.homes.length pcap, .slice ao t.revs.length cap] 30)) := Chg.alloc (Chg.refl 0 0 w) _
  have B0 := heap_new w (.cells #[.int .i64 t.seq, .slice po t.homes.length pcap, .slice ao t.revs.length cap] 30)
  have s0 : (w.alloc (.cells #[.int .i64 t.seq, .slice po t.homes.length pcap, .slice ao t.revs.length cap] 30)).heap.size = w.heap.size + 1 := by simp
  obtain ⟨⟨k0, k1, k2⟩, _⟩ := tri B0
  have HP : Hid (PView w lo hi (.slice po t.homes.length pcap) t.homes) := p1
  have HR : Hid (View w lo hi .i64 (.slice ao t.revs.length cap) t.revs) := v1
  have HA : Hid (Chg 0 0 w (w.alloc (.cells #[.int .i64 t.seq, .slice po t.homes.length pcap, .slice ao t.revs.length cap] 30))) := hA
  have HB0 : Hid ((w.alloc (.cells #[.int .i64 t.seq, .slice po t.homes.length pcap, .slice ao t.revs.length cap] 30)).heap[w.heap.size]? = some (.cells #[.int .i64 t.seq, .slice po t.homes.length pcap, .slice ao t.revs.length cap] 30 (0, 0))) := B0
  clear p1 v1 hA B0
  go_enter Tryz.func41, Tryz.ntmps41
  go_wp2_with fail
  generalize (w.alloc (.cells #[.int .i64 t.seq, .slice po t.homes.length pcap, .slice ao t.revs.length cap] 30)) = w0 at *
  refine (isWithin_calls _ t.seq 1 4294967295).mono ?_
  rintro e w1 ⟨rfl, rfl⟩
  by_cases hs : sizedT t
  case neg =>
    have Hv : Hid (validT t = false) := validT_false (fun h => hs h.1)
    by_cases hq : 1 ≤ t.seq ∧ t.seq ≤ 4294967295
    · have hg : (decide (1 ≤ t.seq) && decide (t.seq ≤ 4294967295)) = true := by simpa using hq
      rw [hg]
      have hn : (t.homes.length : Int) + t.revs.length < 1 ∨ 128 < (t.homes.length : Int) + t.revs.length := by
        by_cases h : 1 ≤ t.homes.length + t.revs.length
        · right
          have : ¬ t.homes.length + t.revs.length ≤ 128 := fun h' => hs ⟨hq, h, h'⟩
          omega
        · left; omega
      clear hs hg
      rcases hn with hn | hn
      · go_wp2
        go_ret
        exact ⟨by rw [Hv.out]; rfl, HA.out⟩
      · go_wp2
        go_ret
        exact ⟨by rw [Hv.out]; rfl, HA.out⟩
    · have hg : (decide (1 ≤ t.seq) && decide (t.seq ≤ 4294967295)) = false := by rw [Bool.eq_false_iff]; simpa using hq
      rw [hg]
      clear hs hg
      go_wp2
      go_ret
      exact ⟨by rw [Hv.out]; rfl, HA.out⟩
  obtain ⟨hq, hn1, hn2⟩ := id hs
  have hg : (decide (1 ≤ t.seq) && decide (t.seq ≤ 4294967295)) = true := by simpa using hq
  have hn1' : ¬ (t.homes.length : Int) + t.revs.length < 1 := by omega
  have hn2' : ¬ 128 < (t.homes.length : Int) + t.revs.length := by omega
  have HS : Hid (sizedT t) := hs
  rw [hg]
  clear hg hs
  go_wp2
  go_loopw [4, 33] (fun l i wr => wr = w1 ∧ ∃ k : Nat, k ≤ t.revs.length ∧ i = .int .i64 k ∧ l = .int .i64 (prevI t.revs k) ∧ Rises t.revs k) (fun _ i _ => t.revs.length - (intOf i).toNat)
  case atStart => exact ⟨rfl, 0, Nat.zero_le _, rfl, rfl, Rises.zero _⟩
  case round =>
    obtain ⟨hw, k, hk, rfl, rfl, hRi⟩ := hrel
    have hw' := hw.symm
    clear hw
    subst hw'
    have HRi : Hid (Rises t.revs k) := hRi
    clear hRi
    by_cases hlt : k < t.revs.length
    · obtain ⟨b, off, he, c1⟩ : ∃ b off, ao = some ⟨b, off, none⟩ ∧ w1.cell? ⟨b, off + k, none⟩ = some (.int .i64 (t.revs.getD k 0)) := by
        obtain ⟨ao', c', he, _, _, hp⟩ := HR.out.chg HA.out (by omega)
        simp only [Value.slice.injEq] at he
        obtain ⟨rfl, _, rfl⟩ := he
        rcases hp with hp | ⟨b, off, rfl, _, _, hp⟩
        · rw [hp] at hlt; simp at hlt
        · exact ⟨b, off, rfl, hp k hlt⟩
      subst he
      have hik : (k : Int) < (t.revs.length : Int) := by omega
      have hF : ¬ fol (prevI t.revs k) (t.revs.getD k 0) = true → risesB t.revs = false := fun h => risesB_false hlt h
      have hS : fol (prevI t.revs k) (t.revs.getD k 0) = true → Rises t.revs (k + 1) := fun h => HRi.out.succ h
      have Hpv : Hid (prevI t.revs (k + 1) = t.revs.getD k 0) := prevI_succ _ _
      generalize prevI t.revs k = pv at *
      generalize t.revs.getD k 0 = x at *
      go_wp2_with fail
      refine (follows_calls _ pv x).mono ?_
      rintro e w2 ⟨rfl, rfl⟩
      by_cases hf : fol pv x = true
      · have Hn : Hid (Rises t.revs (k + 1)) := hS hf
        rw [hf]
        clear hF hS hf c1
        go_wp2
        go_roundw
        case rel => exact ⟨trivial, k + 1, by omega, by go_num, by rw [Hpv.out], Hn.out⟩
        case measure => simp [intOf]; omega
      · have Hv : Hid (validT t = false) := validT_false (fun h => by have := h.2.2.1; rw [hF hf] at this; cases this)
        rw [Bool.not_eq_true] at hf
        rw [hf]
        clear hF hS hf c1
        go_wp2
        go_ret
        exact ⟨by rw [Hv.out]; rfl, HA.out⟩
    · obtain rfl : k = t.revs.length := by omega
      have HRr : Hid (Rises t.revs t.revs.length) := HRi.out
      clear HRi
      go_wp2
      go_loopw [4, 46] (fun l i wx => Chg 0 0 w1 wx ∧ ∃ k : Nat, k ≤ t.homes.length ∧ i = .int .i64 k ∧ l = .int .i64 (prevI (t.homes.map (·.1)) k) ∧ Rises (t.homes.map (·.1)) k ∧ HomesOk t k) (fun _ i _ => t.homes.length - (intOf i).toNat)
      case atStart => exact ⟨Chg.refl _ _ _, 0, Nat.zero_le _, rfl, rfl, Rises.zero _, fun i h => absurd h (Nat.not_lt_zero i)⟩
      case round =>
        obtain ⟨hch, k, hk, rfl, rfl, hRi, hO⟩ := hrel
        have HRi : Hid (Rises (t.homes.map (·.1)) k) := hRi
        have HO : Hid (HomesOk t k) := hO
        have HC : Hid (Chg 0 0 w wr) := HA.out.trans hch
        have HB : Hid (wr.heap[w.heap.size]? = some (.cells #[.int .i64 t.seq, .slice po t.homes.length pcap, .slice ao t.revs.length cap] 30 (0, 0))) := (hch.block _ (by omega) (by omega)).trans HB0.out
        have hsz := hch.size
        have HCW : Hid (Chg 0 0 w1 wr) := hch
        clear hRi hO hch
        by_cases hlt : k < t.homes.length
        · obtain ⟨b, off, he, c1, dv, c2, vd⟩ : ∃ b off, po = some ⟨b, off, none⟩ ∧ wr.cell? ⟨b, off + k * 2, none⟩ = some (.int .i64 (t.homes.getD k (0, [])).1) ∧ ∃ dv, wr.cell? ⟨b, off + k * 2 + 1, none⟩ = some dv ∧ View wr lo hi .u8 dv (t.homes.getD k (0, [])).2 := by
            obtain ⟨po', pc', he, _, _, hp⟩ := HP.out.chg HC.out (by omega)
            simp only [Value.slice.injEq] at he
            obtain ⟨rfl, _, rfl⟩ := he
            rcases hp with hp | ⟨b, off, rfl, _, _, hp⟩
            · rw [hp] at hlt; simp at hlt
            · obtain ⟨dv, c1, c2, vd⟩ := hp k hlt
              exact ⟨b, off, rfl, c1, dv, c2, vd⟩
          subst he
          obtain ⟨d0, dcap, rfl⟩ := vd.slice
          have hik : (k : Int) < (t.homes.length : Int) := by omega
          have hkm : k < (t.homes.map (·.1)).length := by rw [List.length_map]; exact hlt
          have hF : ¬ fol (prevI (t.homes.map (·.1)) k) (t.homes.getD k (0, [])).1 = true → validT t = false := fun h => validT_false (fun hv => by
            have := risesB_true.1 hv.2.1 k hkm
            rw [map_getD] at this
            exact h this)
          have hS : fol (prevI (t.homes.map (·.1)) k) (t.homes.getD k (0, [])).1 = true → Rises (t.homes.map (·.1)) (k + 1) := fun h => HRi.out.succ (by rw [map_getD]; exact h)
          have Hpv : Hid (prevI (t.homes.map (·.1)) (k + 1) = (t.homes.getD k (0, [])).1) := by show _ = _; rw [prevI_succ, map_getD]
          have hok : homeOk t (t.homes.getD k (0, [])) → HomesOk t (k + 1) := fun h => HO.out.succ h
          have hno : ¬ homeOk t (t.homes.getD k (0, [])) → validT t = false := fun h => validT_false (fun hv => h (hv.2.2.2 k hlt))
          unfold homeOk at hok hno
          generalize prevI (t.homes.map (·.1)) k = pv at *
          generalize (t.homes.getD k (0, [])).1 = q at *
          generalize (t.homes.getD k (0, [])).2.length = n at *
          clear vd hkm
          have cN : Chg 0 0 wr (wr.alloc (.cells #[.int .i64 q, .slice d0 n dcap] 52)) := Chg.alloc (Chg.refl 0 0 wr) _
          have HB1 : Hid ((wr.alloc (.cells #[.int .i64 q, .slice d0 n dcap] 52)).heap[w.heap.size]? = some (.cells #[.int .i64 t.seq, .slice (some ⟨b, off, none⟩) t.homes.length pcap, .slice ao t.revs.length cap] 30 (0, 0))) := (cN.block _ (by omega) (by omega)).trans HB.out
          obtain ⟨⟨k0, k1, k2⟩, _⟩ := tri HB1.out
          obtain ⟨n0, n1, _, _⟩ := two_cells (heap_new wr (.cells #[.int .i64 q, .slice d0 n dcap] 52))
          have HC1 : Hid (Chg 0 0 w (wr.alloc (.cells #[.int .i64 q, .slice d0 n dcap] 52))) := HC.out.trans cN
          have HCW1 : Hid (Chg 0 0 w1 (wr.alloc (.cells #[.int .i64 q, .slice d0 n dcap] 52))) := HCW.out.trans cN
          clear cN
          go_wp2_with fail
          generalize wr.alloc (.cells #[.int .i64 q, .slice d0 n dcap] 52) = wn at *
          refine (follows_calls _ pv q).mono ?_
          rintro e w2 ⟨rfl, rfl⟩
          by_cases hf : fol pv q = true
          case neg =>
            have Hv : Hid (validT t = false) := hF hf
            rw [Bool.not_eq_true] at hf
            rw [hf]
            clear hF hS hok hno hf
            go_wp2
            go_ret
            exact ⟨by rw [Hv.out]; rfl, HC1.out⟩
          have Hn : Hid (Rises (t.homes.map (·.1)) (k + 1)) := hS hf
          rw [hf]
          clear hF hS hf
          by_cases hn : n = 64
          case neg =>
            have Hv : Hid (validT t = false) := hno (fun h => hn h.1)
            have hne : ((n : Int) != 64) = true := by simp; omega
            clear hok hno hn
            go_wp2
            go_ret
            exact ⟨by rw [Hv.out]; rfl, HC1.out⟩
          subst hn
          have hN := search_calls w2 q hl2 HRr.out (HR.out.chg HC1.out (by omega))
          by_cases hm : q ∈ t.revs
          · have Hv : Hid (validT t = false) := hno (fun h => h.2 hm)
            rw [decide_eq_true hm] at hN
            clear hok hno hm
            go_wp2_with fail
            refine hN.mono ?_
            rintro e w3 ⟨p, rfl, rfl⟩
            clear hN
            go_wp2
            go_ret
            exact ⟨by rw [Hv.out]; rfl, HC1.out⟩
          · have Ho : Hid (HomesOk t (k + 1)) := hok ⟨rfl, hm⟩
            rw [decide_eq_false hm] at hN
            clear hok hno hm
            go_wp2_with fail
            refine hN.mono ?_
            rintro e w3 ⟨p, rfl, rfl⟩
            clear hN
            go_wp2
            go_roundw
            case rel => exact ⟨HCW1.out, k + 1, by omega, by go_num, by rw [Hpv.out], Hn.out, Ho.out⟩
            case measure => simp [intOf]; omega
        · obtain rfl : k = t.homes.length := by omega
          have Hv : Hid (validT t = true) := validT_true ⟨HS.out, risesB_true.2 (by rw [List.length_map]; exact HRi.out), risesB_true.2 HRr.out, HO.out⟩
          go_wp2
          go_ret
          exact ⟨by rw [Hv.out]; rfl, HC.out⟩

end Go.Proofs.YteligghapkleaaaGreatDoor
