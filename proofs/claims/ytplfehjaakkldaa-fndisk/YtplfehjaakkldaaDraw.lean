/- The model's draws: l1Source, l1Next, l1Chance. -/
import Derived.Test.YtplfehjaakkldaaByt
import Derived.Deep.RegionWith
import Derived.Laws.AppendOwnNone
namespace Go.Proofs.Ytplfehjaakkldaa
open Go.RowKit

/-- A source in memory: what it draws from, its place, its size. -/
def SrcAt (w : World) (p : Nat) (cv : Value) (at' sz : Nat) : Prop := w.heap[p]? = some (.cells #[cv, .int .i64 at', .int .i64 sz] 86 (0, 0))

theorem SrcAt.chg {w w' : World} {p l r : Nat} {cv : Value} {n sz : Nat} (h : SrcAt w p cv n sz) (c : Chg l r w w') (d : p < l ∨ r ≤ p) : SrcAt w' p cv n sz :=
  (c.block p (Array.getElem?_eq_some_iff.1 h).1 d).trans h

theorem three_cells {w : World} {s : Nat} {a b c : Value} {t : TypeId} (h : w.heap[s]? = some (.cells #[a, b, c] t (0, 0))) :
    w.cell? ⟨s, 0, none⟩ = some a ∧ w.cell? ⟨s, 1, none⟩ = some b ∧ w.cell? ⟨s, 2, none⟩ = some c ∧ w.frozen? ⟨s, 0, none⟩ = false ∧ w.frozen? ⟨s, 1, none⟩ = false ∧ w.frozen? ⟨s, 2, none⟩ = false := by
  simp [World.cell?, World.frozen?, h]

theorem SrcAt.next {w : World} {p : Nat} {cv : Value} {n sz : Nat} (h : SrcAt w p cv n sz) : SrcAt (w.setCell ⟨p, 1, none⟩ (.int .i64 ((n : Int) + 1))) p cv (n + 1) sz := by
  unfold SrcAt at *
  simp only [World.setCell, Array.getElem?_modify, h, if_true, Option.map_some]
  rfl

/-- What is drawn at a place. -/
def nxt (code : List Int) (at' : Nat) (n : Int) : Int :=
  if n < 1 then 0 else if code.length = 0 then ((at' : Int) * 7) % n else
    (if n > 200 then (code.getD (at' % code.length) 0 + ((at' / code.length : Nat) : Int) * 37) * 251 + code.getD ((at' + 1) % code.length) 0 * 13 + at' else code.getD (at' % code.length) 0 + ((at' / code.length : Nat) : Int) * 37) % n

theorem nxt_range (code : List Int) (at' : Nat) (n : Int) : 0 ≤ nxt code at' n ∧ (1 ≤ n → nxt code at' n < n) := by
  unfold nxt
  split
  · omega
  · rename_i h
    split
    · exact ⟨Int.emod_nonneg _ (by omega), fun _ => Int.emod_lt_of_pos _ (by omega)⟩
    · exact ⟨Int.emod_nonneg _ (by omega), fun _ => Int.emod_lt_of_pos _ (by omega)⟩

set_option maxHeartbeats 1000000 in
theorem l1Next_callsW (w : World) (p at' sz : Nat) {lo hi : Nat} {cv : Value} {code : List Int} (n : Int) (hn : n ≤ 9223372036854775807) (hB : Byt code) (hcl : code.length ≤ 1048600) (hat : at' ≤ 1099511627776)
    (hs : SrcAt w p cv at' sz) (hc : View w lo hi .u8 cv code) (hp : p < lo ∨ hi ≤ p) :
    Calls Try.prog 62 #[.pointer (some ⟨p, 0, none⟩), .int .i64 n] w fun e w' => e = .returned (.int .i64 (nxt code at' n)) ∧ SrcAt w' p cv (at' + 1) sz ∧ Chg p (p + 1) w w' := by
  obtain ⟨c0, c1, c2, f0, f1, f2⟩ := three_cells hs
  have HS : Hid (SrcAt (w.setCell ⟨p, 1, none⟩ (.int .i64 ((at' : Int) + 1))) p cv (at' + 1) sz) := hs.next
  have HC : Hid (Chg p (p + 1) w (w.setCell ⟨p, 1, none⟩ (.int .i64 ((at' : Int) + 1)))) := Chg.setCell (p := ⟨p, 1, none⟩) (Chg.refl p (p + 1) w) (Or.inl ⟨Nat.le_refl _, Nat.lt_succ_self _⟩) _
  obtain ⟨ao, cap, rfl, hl, ⟨hcap, hnil⟩, hcell⟩ := hc
  have hne : w.cell? ⟨p, 1, none⟩ ≠ none := by rw [c1]; simp
  clear hs
  by_cases hn1 : n < 1
  · have HV : Hid (nxt code at' n = 0) := by show _ = _; unfold nxt; rw [if_pos hn1]
    rw [HV.out]
    go_enter Try.func62, Try.ntmps62
    go_wp2
    go_ret
    exact ⟨rfl, HS.out, HC.out⟩
  · by_cases hk : code.length = 0
    · have HV : Hid (nxt code at' n = ((at' : Int) * 7) % n) := by show _ = _; unfold nxt; rw [if_neg hn1, if_pos hk]
      rw [HV.out]
      have hk' : ((code.length : Int) == 0) = true := by rw [hk]; rfl
      have hn0 : ¬ n = 0 := by omega
      clear hcell hk
      go_enter Try.func62, Try.ntmps62
      go_wp2
      go_ret
      exact ⟨rfl, HS.out, HC.out⟩
    · obtain ⟨b, off, rfl, hb1, hb2, hc2⟩ : ∃ b off, ao = some ⟨b, off, none⟩ ∧ lo ≤ b ∧ b < hi ∧ ∀ i, i < code.length → w.cell? ⟨b, off + i, none⟩ = some (.int .u8 (code.getD i 0)) := by
        rcases hcell with h | ⟨b, off, e, h1, h2, h3⟩
        · rw [h] at hk; exact absurd rfl hk
        · exact ⟨b, off, e, h1, h2, h3⟩
      have hk' : ((code.length : Int) == 0) = false := by simp only [beq_eq_false_iff_ne, ne_eq]; omega
      have hk0 : ¬ (code.length : Int) = 0 := by omega
      have hn0 : ¬ n = 0 := by omega
      have hpb : b ≠ p := by omega
      obtain ⟨i1, hi1⟩ : ∃ i1, i1 = at' % code.length := ⟨_, rfl⟩
      obtain ⟨i2, hi2⟩ : ∃ i2, i2 = (at' + 1) % code.length := ⟨_, rfl⟩
      obtain ⟨qt, hq⟩ : ∃ qt, qt = at' / code.length := ⟨_, rfl⟩
      have l1 : i1 < code.length := by rw [hi1]; exact Nat.mod_lt _ (by omega)
      have l2 : i2 < code.length := by rw [hi2]; exact Nat.mod_lt _ (by omega)
      have lq : qt ≤ at' := by rw [hq]; exact Nat.div_le_self _ _
      have e1 : (at' : Int) % (code.length : Int) = (i1 : Int) := by rw [hi1]; omega
      have e2 : ((at' : Int) + 1) % (code.length : Int) = (i2 : Int) := by rw [hi2]; exact (Int.natCast_emod (at' + 1) code.length).symm
      have eq : (at' : Int) / (code.length : Int) = (qt : Int) := by rw [hq]; omega
      have d1 := hc2 i1 l1
      have d2 := hc2 i2 l2
      have b1 := hB.getD i1
      have b2 := hB.getD i2
      have HV : Hid (nxt code at' n = (if n > 200 then (code.getD i1 0 + (qt : Int) * 37) * 251 + code.getD i2 0 * 13 + at' else code.getD i1 0 + (qt : Int) * 37) % n) := by
        show _ = _; unfold nxt; rw [if_neg hn1, if_neg hk, ← hi1, ← hi2, ← hq]
      rw [HV.out]
      generalize code.getD i1 0 = x1 at *
      generalize code.getD i2 0 = x2 at *
      clear hi1 hi2 hq hc2 hcell HV hB
      have hi1' : (i1 : Int) < (code.length : Int) := by omega
      have hi2' : (i2 : Int) < (code.length : Int) := by omega
      have d1 : (w.setCell ⟨p, 1, none⟩ (.int .i64 ((at' : Int) + 1))).cell? ⟨b, off + i1, none⟩ = some (.int .u8 x1) := (World.cell?_setCell_other _ _ _ _ (by simp)).trans d1
      have d2 : (w.setCell ⟨p, 1, none⟩ (.int .i64 ((at' : Int) + 1))).cell? ⟨b, off + i2, none⟩ = some (.int .u8 x2) := (World.cell?_setCell_other _ _ _ _ (by simp)).trans d2
      by_cases h200 : n > 200
      · rw [if_pos h200]
        go_enter Try.func62, Try.ntmps62
        go_wp2
        go_quiet (fail)
        go_wp2
        go_quiet (fail)
        go_wp2
        go_ret
        exact ⟨rfl, HS.out, HC.out.drewN _⟩
      · rw [if_neg h200]
        go_enter Try.func62, Try.ntmps62
        go_wp2
        go_quiet (fail)
        go_wp2
        go_ret
        exact ⟨rfl, HS.out, HC.out.drewN _⟩
theorem l1Next_calls (w : World) (p at' sz : Nat) {lo hi : Nat} {cv : Value} {code : List Int} (n : Int) (hn : n ≤ 9223372036854775807) (hB : Byt code) (hcl : code.length ≤ 1048576) (hat : at' ≤ 1099511627776)
    (hs : SrcAt w p cv at' sz) (hc : View w lo hi .u8 cv code) (hp : p < lo ∨ hi ≤ p) :
    Calls Try.prog 62 #[.pointer (some ⟨p, 0, none⟩), .int .i64 n] w fun e w' => e = .returned (.int .i64 (nxt code at' n)) ∧ SrcAt w' p cv (at' + 1) sz ∧ Chg p (p + 1) w w' :=
  l1Next_callsW w p at' sz n hn hB (by omega) hat hs hc hp

/-- How much a source has. -/
def szOf (code : List Int) : Nat := min (code.length / 16) 12

set_option maxHeartbeats 400000 in
theorem l1Source_calls (w : World) (ao : Option Addr) (n cap : Nat) (hl : n ≤ 9223372036854775807) :
    Calls Try.prog 60 #[.slice ao n cap] w fun e w' => e = .returned (.pointer (some ⟨w.heap.size, 0, none⟩)) ∧ SrcAt w' w.heap.size (.slice ao n cap) 0 (min (n / 16) 12) ∧ Chg 0 0 w w' := by
  have C : Chg 0 0 w (w.alloc (.cells #[.slice ao n cap, .int .i64 ((0 : Nat) : Int), .int .i64 ((min (n / 16) 12 : Nat) : Int)] 86)) := Chg.alloc (Chg.refl 0 0 w) _
  have N := heap_new w (.cells #[.slice ao n cap, .int .i64 ((0 : Nat) : Int), .int .i64 ((min (n / 16) 12 : Nat) : Int)] 86)
  by_cases h : 12 < n / 16
  · have h' : (n : Int) / 16 > 12 := by omega
    rw [Nat.min_eq_right (by omega)] at *
    go_enter Try.func60, Try.ntmps60
    go_wp2
    go_ret
    exact ⟨rfl, N, C⟩
  · have h' : ¬ (n : Int) / 16 > 12 := by omega
    have e : (n : Int) / 16 = ((n / 16 : Nat) : Int) := by omega
    rw [Nat.min_eq_left (by omega)] at *
    have HN : Hid ((w.alloc (.cells #[.slice ao n cap, .int .i64 ((0 : Nat) : Int), .int .i64 ((n / 16 : Nat) : Int)] 86)).heap[w.heap.size]? = some (.cells #[.slice ao n cap, .int .i64 ((0 : Nat) : Int), .int .i64 ((n / 16 : Nat) : Int)] 86 (0, 0))) := N
    have HC : Hid _ := C
    clear N C e
    go_enter Try.func60, Try.ntmps60
    go_wp2
    go_ret
    exact ⟨rfl, HN.out, HC.out⟩

set_option maxHeartbeats 400000 in
theorem l1Chance_callsW (w : World) (p at' sz : Nat) {lo hi : Nat} {cv : Value} {code : List Int} (n : Int) (hn : n ≤ 9223372036854775807) (hB : Byt code) (hcl : code.length ≤ 1048600) (hat : at' ≤ 1099511627776)
    (hs : SrcAt w p cv at' sz) (hc : View w lo hi .u8 cv code) (hp : p < lo ∨ hi ≤ p) :
    Calls Try.prog 64 #[.pointer (some ⟨p, 0, none⟩), .int .i64 n] w fun e w' => e = .returned (.bool (nxt code at' n == 0)) ∧ SrcAt w' p cv (at' + 1) sz ∧ Chg p (p + 1) w w' := by
  go_enter Try.func64, Try.ntmps64
  go_wp2_with fail
  refine (l1Next_callsW _ p at' sz n hn hB hcl hat hs hc hp).mono ?_
  rintro e w1 ⟨rfl, hs', hc'⟩
  have HS : Hid (SrcAt w1 p cv (at' + 1) sz) := hs'
  clear hs' hs
  by_cases h : nxt code at' n = 0
  · have HV : Hid ((nxt code at' n == 0) = true) := by show _ = _; rw [h]; rfl
    have h' : (nxt code at' n == 0) = true := HV.out
    generalize hx : nxt code at' n = x at *
    clear h
    have HX : Hid (nxt code at' n = x) := hx
    clear hx
    go_wp2
    go_ret
    exact ⟨by rw [HX.out, HV.out]; rfl, HS.out, hc'⟩
  · have HV : Hid ((nxt code at' n == 0) = false) := by show _ = _; simp only [beq_eq_false_iff_ne, ne_eq]; exact h
    have h' : (nxt code at' n == 0) = false := HV.out
    generalize hx : nxt code at' n = x at *
    clear h
    have HX : Hid (nxt code at' n = x) := hx
    clear hx
    go_wp2
    go_ret
    exact ⟨by rw [HX.out, HV.out]; rfl, HS.out, hc'⟩
theorem l1Chance_calls (w : World) (p at' sz : Nat) {lo hi : Nat} {cv : Value} {code : List Int} (n : Int) (hn : n ≤ 9223372036854775807) (hB : Byt code) (hcl : code.length ≤ 1048576) (hat : at' ≤ 1099511627776)
    (hs : SrcAt w p cv at' sz) (hc : View w lo hi .u8 cv code) (hp : p < lo ∨ hi ≤ p) :
    Calls Try.prog 64 #[.pointer (some ⟨p, 0, none⟩), .int .i64 n] w fun e w' => e = .returned (.bool (nxt code at' n == 0)) ∧ SrcAt w' p cv (at' + 1) sz ∧ Chg p (p + 1) w w' :=
  l1Chance_callsW w p at' sz n hn hB (by omega) hat hs hc hp

end Go.Proofs.Ytplfehjaakkldaa
