/- The model's draws: l1Source, l1Next, l1Chance, l1DrawBytes. -/
import Derived.Test.YtiaaogklfkcbeaeByt
import Derived.Deep.RegionWith
import Derived.Laws.AppendOwnNone
namespace Go.Proofs.Ytiaaogklfkcbeae
open Go.RowKit

/-- A source in memory: what it draws from, its place, its size. -/
def SrcAt (w : World) (p : Nat) (cv : Value) (at' sz : Nat) : Prop := w.heap[p]? = some (.cells #[cv, .int .i64 at', .int .i64 sz] 56 (0, 0))

theorem SrcAt.chg {w w' : World} {p l r : Nat} {cv : Value} {n sz : Nat} (h : SrcAt w p cv n sz) (c : Chg l r w w') (d : p < l ∨ r ≤ p) : SrcAt w' p cv n sz :=
  (c.block p (Array.getElem?_eq_some_iff.1 h).1 d).trans h

theorem three_cells {w : World} {s : Nat} {a b c : Value} {t : TypeId} (h : w.heap[s]? = some (.cells #[a, b, c] t (0, 0))) :
    w.cell? ⟨s, 0, none⟩ = some a ∧ w.cell? ⟨s, 1, none⟩ = some b ∧ w.cell? ⟨s, 2, none⟩ = some c ∧ w.frozen? ⟨s, 0, none⟩ = false ∧ w.frozen? ⟨s, 1, none⟩ = false ∧ w.frozen? ⟨s, 2, none⟩ = false := by
  simp [World.cell?, World.frozen?, h]

theorem SrcAt.next {w : World} {p : Nat} {cv : Value} {n sz : Nat} (h : SrcAt w p cv n sz) : SrcAt (w.setCell ⟨p, 1, none⟩ (.int .i64 ((n : Int) + 1))) p cv (n + 1) sz := by
  unfold SrcAt at *
  simp only [World.setCell, Array.getElem?_modify, h, if_true, Option.map_some]
  rfl

/-- What is drawn at a place. -/
def nxt (code : List Int) (at' : Nat) (n : Int) : Int :=
  if n < 1 then 0 else if code.length = 0 then ((at' : Int) * 7) % n else
    (if n > 200 then (code.getD (at' % code.length) 0 + ((at' / code.length : Nat) : Int) * 37) * 251 + code.getD ((at' + 1) % code.length) 0 * 13 + at' else code.getD (at' % code.length) 0 + ((at' / code.length : Nat) : Int) * 37) % n

theorem nxt_range (code : List Int) (at' : Nat) (n : Int) : 0 ≤ nxt code at' n ∧ (1 ≤ n → nxt code at' n < n) := by
  unfold nxt
  split
  · omega
  · rename_i h
    split
    · exact ⟨Int.emod_nonneg _ (by omega), fun _ => Int.emod_lt_of_pos _ (by omega)⟩
    · exact ⟨Int.emod_nonneg _ (by omega), fun _ => Int.emod_lt_of_pos _ (by omega)⟩

set_option maxHeartbeats 1000000 in
theorem l1Next_calls (w : World) (p at' sz : Nat) {lo hi : Nat} {cv : Value} {code : List Int} (n : Int) (hn : n ≤ 9223372036854775807) (hB : Byt code) (hcl : code.length ≤ 1048576) (hat : at' ≤ 1099511627776)
    (hs : SrcAt w p cv at' sz) (hc : View w lo hi .u8 cv code) (hp : p < lo ∨ hi ≤ p) :
    Calls Try.prog 41 #[.pointer (some ⟨p, 0, none⟩), .int .i64 n] w fun e w' => e = .returned (.int .i64 (nxt code at' n)) ∧ SrcAt w' p cv (at' + 1) sz ∧ Chg p (p + 1) w w' := by
  obtain ⟨c0, c1, c2, f0, f1, f2⟩ := three_cells hs
  have HS : Hid (SrcAt (w.setCell ⟨p, 1, none⟩ (.int .i64 ((at' : Int) + 1))) p cv (at' + 1) sz) := hs.next
  have HC : Hid (Chg p (p + 1) w (w.setCell ⟨p, 1, none⟩ (.int .i64 ((at' : Int) + 1)))) := Chg.setCell (p := ⟨p, 1, none⟩) (Chg.refl p (p + 1) w) (Or.inl ⟨Nat.le_refl _, Nat.lt_succ_self _⟩) _
  obtain ⟨ao, cap, rfl, hl, ⟨hcap, hnil⟩, hcell⟩ := hc
  have hne : w.cell? ⟨p, 1, none⟩ ≠ none := by rw [c1]; simp
  clear hs
  by_cases hn1 : n < 1
  · have HV : Hid (nxt code at' n = 0) := by show _ = _; unfold nxt; rw [if_pos hn1]
    rw [HV.out]
    go_enter Try.func41, Try.ntmps41
    go_wp2
    go_ret
    exact ⟨rfl, HS.out, HC.out⟩
  · by_cases hk : code.length = 0
    · have HV : Hid (nxt code at' n = ((at' : Int) * 7) % n) := by show _ = _; unfold nxt; rw [if_neg hn1, if_pos hk]
      rw [HV.out]
      have hk' : ((code.length : Int) == 0) = true := by rw [hk]; rfl
      have hn0 : ¬ n = 0 := by omega
      clear hcell hk
      go_enter Try.func41, Try.ntmps41
      go_wp2
      go_ret
      exact ⟨rfl, HS.out, HC.out⟩
    · obtain ⟨b, off, rfl, hb1, hb2, hc2⟩ : ∃ b off, ao = some ⟨b, off, none⟩ ∧ lo ≤ b ∧ b < hi ∧ ∀ i, i < code.length → w.cell? ⟨b, off + i, none⟩ = some (.int .u8 (code.getD i 0)) := by
        rcases hcell with h | ⟨b, off, e, h1, h2, h3⟩
        · rw [h] at hk; exact absurd rfl hk
        · exact ⟨b, off, e, h1, h2, h3⟩
      have hk' : ((code.length : Int) == 0) = false := by simp only [beq_eq_false_iff_ne, ne_eq]; omega
      have hk0 : ¬ (code.length : Int) = 0 := by omega
      have hn0 : ¬ n = 0 := by omega
      have hpb : b ≠ p := by omega
      obtain ⟨i1, hi1⟩ : ∃ i1, i1 = at' % code.length := ⟨_, rfl⟩
      obtain ⟨i2, hi2⟩ : ∃ i2, i2 = (at' + 1) % code.length := ⟨_, rfl⟩
      obtain ⟨qt, hq⟩ : ∃ qt, qt = at' / code.length := ⟨_, rfl⟩
      have l1 : i1 < code.length := by rw [hi1]; exact Nat.mod_lt _ (by omega)
      have l2 : i2 < code.length := by rw [hi2]; exact Nat.mod_lt _ (by omega)
      have lq : qt ≤ at' := by rw [hq]; exact Nat.div_le_self _ _
      have e1 : (at' : Int) % (code.length : Int) = (i1 : Int) := by rw [hi1]; omega
      have e2 : ((at' : Int) + 1) % (code.length : Int) = (i2 : Int) := by rw [hi2]; exact (Int.natCast_emod (at' + 1) code.length).symm
      have eq : (at' : Int) / (code.length : Int) = (qt : Int) := by rw [hq]; omega
      have d1 := hc2 i1 l1
      have d2 := hc2 i2 l2
      have b1 := hB.getD i1
      have b2 := hB.getD i2
      have HV : Hid (nxt code at' n = (if n > 200 then (code.getD i1 0 + (qt : Int) * 37) * 251 + code.getD i2 0 * 13 + at' else code.getD i1 0 + (qt : Int) * 37) % n) := by
        show _ = _; unfold nxt; rw [if_neg hn1, if_neg hk, ← hi1, ← hi2, ← hq]
      rw [HV.out]
      generalize code.getD i1 0 = x1 at *
      generalize code.getD i2 0 = x2 at *
      clear hi1 hi2 hq hc2 hcell HV hB
      have hi1' : (i1 : Int) < (code.length : Int) := by omega
      have hi2' : (i2 : Int) < (code.length : Int) := by omega
      have d1 : (w.setCell ⟨p, 1, none⟩ (.int .i64 ((at' : Int) + 1))).cell? ⟨b, off + i1, none⟩ = some (.int .u8 x1) := (World.cell?_setCell_other _ _ _ _ (by simp)).trans d1
      have d2 : (w.setCell ⟨p, 1, none⟩ (.int .i64 ((at' : Int) + 1))).cell? ⟨b, off + i2, none⟩ = some (.int .u8 x2) := (World.cell?_setCell_other _ _ _ _ (by simp)).trans d2
      by_cases h200 : n > 200
      · rw [if_pos h200]
        go_enter Try.func41, Try.ntmps41
        go_wp2
        go_quiet (fail)
        go_wp2
        go_quiet (fail)
        go_wp2
        go_ret
        exact ⟨rfl, HS.out, HC.out.drewN _⟩
      · rw [if_neg h200]
        go_enter Try.func41, Try.ntmps41
        go_wp2
        go_quiet (fail)
        go_wp2
        go_ret
        exact ⟨rfl, HS.out, HC.out.drewN _⟩

/-- How much a source has. -/
def szOf (code : List Int) : Nat := min (code.length / 16) 12

set_option maxHeartbeats 400000 in
theorem l1Source_calls (w : World) (ao : Option Addr) (n cap : Nat) (hl : n ≤ 9223372036854775807) :
    Calls Try.prog 38 #[.slice ao n cap] w fun e w' => e = .returned (.pointer (some ⟨w.heap.size, 0, none⟩)) ∧ SrcAt w' w.heap.size (.slice ao n cap) 0 (min (n / 16) 12) ∧ Chg 0 0 w w' := by
  have C : Chg 0 0 w (w.alloc (.cells #[.slice ao n cap, .int .i64 ((0 : Nat) : Int), .int .i64 ((min (n / 16) 12 : Nat) : Int)] 56)) := Chg.alloc (Chg.refl 0 0 w) _
  have N := heap_new w (.cells #[.slice ao n cap, .int .i64 ((0 : Nat) : Int), .int .i64 ((min (n / 16) 12 : Nat) : Int)] 56)
  by_cases h : 12 < n / 16
  · have h' : (n : Int) / 16 > 12 := by omega
    rw [Nat.min_eq_right (by omega)] at *
    go_enter Try.func38, Try.ntmps38
    go_wp2
    go_ret
    exact ⟨rfl, N, C⟩
  · have h' : ¬ (n : Int) / 16 > 12 := by omega
    have e : (n : Int) / 16 = ((n / 16 : Nat) : Int) := by omega
    rw [Nat.min_eq_left (by omega)] at *
    have HN : Hid ((w.alloc (.cells #[.slice ao n cap, .int .i64 ((0 : Nat) : Int), .int .i64 ((n / 16 : Nat) : Int)] 56)).heap[w.heap.size]? = some (.cells #[.slice ao n cap, .int .i64 ((0 : Nat) : Int), .int .i64 ((n / 16 : Nat) : Int)] 56 (0, 0))) := N
    have HC : Hid _ := C
    clear N C e
    go_enter Try.func38, Try.ntmps38
    go_wp2
    go_ret
    exact ⟨rfl, HN.out, HC.out⟩

set_option maxHeartbeats 400000 in
theorem l1Chance_calls (w : World) (p at' sz : Nat) {lo hi : Nat} {cv : Value} {code : List Int} (n : Int) (hn : n ≤ 9223372036854775807) (hB : Byt code) (hcl : code.length ≤ 1048576) (hat : at' ≤ 1099511627776)
    (hs : SrcAt w p cv at' sz) (hc : View w lo hi .u8 cv code) (hp : p < lo ∨ hi ≤ p) :
    Calls Try.prog 39 #[.pointer (some ⟨p, 0, none⟩), .int .i64 n] w fun e w' => e = .returned (.bool (nxt code at' n == 0)) ∧ SrcAt w' p cv (at' + 1) sz ∧ Chg p (p + 1) w w' := by
  go_enter Try.func39, Try.ntmps39
  go_wp2_with fail
  refine (l1Next_calls _ p at' sz n hn hB hcl hat hs hc hp).mono ?_
  rintro e w1 ⟨rfl, hs', hc'⟩
  have HS : Hid (SrcAt w1 p cv (at' + 1) sz) := hs'
  clear hs' hs
  by_cases h : nxt code at' n = 0
  · have HV : Hid ((nxt code at' n == 0) = true) := by show _ = _; rw [h]; rfl
    have h' : (nxt code at' n == 0) = true := HV.out
    generalize hx : nxt code at' n = x at *
    clear h
    have HX : Hid (nxt code at' n = x) := hx
    clear hx
    go_wp2
    go_ret
    exact ⟨by rw [HX.out, HV.out]; rfl, HS.out, hc'⟩
  · have HV : Hid ((nxt code at' n == 0) = false) := by show _ = _; simp only [beq_eq_false_iff_ne, ne_eq]; exact h
    have h' : (nxt code at' n == 0) = false := HV.out
    generalize hx : nxt code at' n = x at *
    clear h
    have HX : Hid (nxt code at' n = x) := hx
    clear hx
    go_wp2
    go_ret
    exact ⟨by rw [HX.out, HV.out]; rfl, HS.out, hc'⟩

/-- The bytes that are drawn from a place on. -/
def drawB (code : List Int) (at' n : Nat) : List Int := (List.range n).map fun i => nxt code (at' + i) 256

theorem drawB_length (code : List Int) (at' n : Nat) : (drawB code at' n).length = n := by simp [drawB]
theorem drawB_succ (code : List Int) (at' n : Nat) : drawB code at' (n + 1) = drawB code at' n ++ [nxt code (at' + n) 256] := by simp [drawB, List.range_succ]
theorem drawB_byt (code : List Int) (at' n : Nat) : Byt (drawB code at' n) := by
  intro x hx
  simp only [drawB, List.mem_map] at hx
  obtain ⟨i, _, rfl⟩ := hx
  have := nxt_range code (at' + i) 256
  exact ⟨this.1, this.2 (by omega)⟩

theorem Try.infoU2 : (Try.prog.info? 5).map (fun i => (i.zero, i.size, i.bytes)) = some (some (.int .u8 0), 1, 1) := by kernel_rfl

set_option maxHeartbeats 1000000 in
theorem l1DrawBytes_calls (w : World) (p at' sz : Nat) {lo hi : Nat} {cv : Value} {code : List Int} (m : Nat) (hm : m ≤ 1048576) (hB : Byt code) (hcl : code.length ≤ 1048576) (hat : at' + m ≤ 1099511627776)
    (hs : SrcAt w p cv at' sz) (hc : View w lo hi .u8 cv code) (hp : p < lo ∨ hi ≤ p) :
    Calls Try.prog 40 #[.pointer (some ⟨p, 0, none⟩), .int .i64 m] w fun e w' => ∃ v, e = .returned v ∧ (∃ g cap, v = .slice (some ⟨g, 0, none⟩) m cap) ∧ OwnB w' w.heap.size 5 v (drawB code at' m) ∧ SrcAt w' p cv (at' + m) sz ∧ Chg p (p + 1) w w' := by
  obtain ⟨ti, hti, hz0, hz1, hz2⟩ := info_parts Try.infoU2
  have hps : p < w.heap.size := (Array.getElem?_eq_some_iff.1 hs).1
  have C0 : Chg p (p + 1) w (w.alloc (.cells #[] 5)) := Chg.alloc (Chg.refl p (p + 1) w) _
  have HS0 : Hid (SrcAt (w.alloc (.cells #[] 5)) p cv (at' + 0) sz) := hs.chg (Chg.alloc (Chg.refl 0 0 w) _) (by omega)
  have HO0 : Hid (OwnB (w.alloc (.cells #[] 5)) w.heap.size 5 (.slice (some ⟨w.heap.size, 0, none⟩) 0 0) (drawB code at' 0)) := by
    show OwnB _ _ _ _ _
    have := World.ownsRow_lit (base := w.heap.size) (e := 5) (size := 1) w #[] 0 (Nat.le_refl _) (by unfold maxLen; omega) rfl
    simpa [OwnB, drawB] using this
  have HC0 : Hid _ := C0
  clear C0 hs
  go_enter Try.func40, Try.ntmps40
  go_wp2
  go_loopw [5, 6] (fun out i wr => ∃ k : Nat, k ≤ m ∧ i = .int .i64 k ∧ (∃ g cap, out = .slice (some ⟨g, 0, none⟩) k cap) ∧ OwnB wr w.heap.size 5 out (drawB code at' k) ∧ SrcAt wr p cv (at' + k) sz ∧ Chg p (p + 1) w wr) (fun _ i _ => m - (intOf i).toNat)
  case atStart => exact ⟨0, Nat.zero_le _, rfl, ⟨_, _, rfl⟩, HO0.out, HS0.out, HC0.out⟩
  case round =>
    obtain ⟨k, hk, rfl, ⟨og, oc, rfl⟩, ho, hs, hch⟩ := hrel
    clear HO0 HS0 HC0
    by_cases hlt : k < m
    · have hi' : (k : Int) < (m : Int) := by omega
      have hcv := hc.chg hch (by omega)
      have hN := l1Next_calls wr p (at' + k) sz 256 (by omega) hB hcl (by omega) hs hcv hp
      have hr := nxt_range code (at' + k) 256
      have HD : Hid (drawB code at' (k + 1) = drawB code at' k ++ [nxt code (at' + k) 256]) := drawB_succ code at' k
      have HL : Hid ((drawB code at' k).length = k) := drawB_length code at' k
      generalize hx : nxt code (at' + k) 256 = x at *
      have HOW : Hid (OwnB wr w.heap.size 5 (.slice (some ⟨og, 0, none⟩) k oc) (drawB code at' k)) := ho
      have HCH : Hid (Chg p (p + 1) w wr) := hch
      clear ho hch hcv hs hx
      go_wp2_with fail
      refine hN.mono ?_
      rintro e w1 ⟨rfl, hs1, hc1⟩
      clear hN
      have hs1' : Hid (SrcAt w1 p cv (at' + k + 1) sz) := hs1
      have ho1 := HOW.out.chg hc1 (fun g hg => by have := HOW.out.lt g hg; omega)
      have HC1 : Hid (Chg p (p + 1) w w1) := HCH.out.trans hc1
      have sz1 := hc1.size
      have sz0 := HCH.out.size
      clear hs1 hc1 HOW HCH
      have ho2 := ho1.chg (Chg.alloc (Chg.refl 0 0 w1) (.cells #[.int .u8 x] 5)) (by intro g _; omega)
      have HO2 : Hid ((w1.alloc (.cells #[.int .u8 x] 5)).ownsRow w.heap.size 5 1 (.slice (some ⟨og, 0, none⟩) k oc) k ((drawB code at' k).map (Value.int .u8))) := by
        have := ho2; unfold OwnB at this; rw [HL.out] at this; exact this
      have hgb := fun g hg => (ho1.lt g hg).1
      have Hgb : Hid (∀ g, (Value.slice (some ⟨og, 0, none⟩) k oc).ownBlock = some g → w.heap.size ≤ g) := hgb
      have hnews : ∀ j u, [Value.int .u8 x][j]? = some u → (w1.alloc (.cells #[.int .u8 x] 5)).cell? ((⟨w1.heap.size, 0, none⟩ : Addr).add j) = some u := by
        intro j u hj
        have hj0 : j = 0 := by have := (List.getElem?_eq_some_iff.1 hj).1; simp at this; exact this
        subst hj0
        simp at hj
        subst hj
        simp [Addr.add]
      have HNW : Hid _ := hnews
      have bs : Hid (w.heap.size ≤ (w1.alloc (.cells #[.int .u8 x] 5)).heap.size) := by show _ ≤ _; simp; omega
      clear ho1 ho2 hgb hnews
      go_wp2_with (at_builtin; refine wpList_append_own _ rfl (.tmp 13) (.tmp 17) 22 rfl w.heap.size 5 ti (.int .u8 0) 1 1 Try.underlying22 hti hz0 hz1 hz2 rfl (by decide) _ k ((drawB code at' k).map (Value.int .u8)) rfl HO2.out ⟨w1.heap.size, 0, none⟩ 1 1 [.int .u8 x] rfl rfl HNW.out (by simp [Value.oneCell']) (by unfold maxLen; omega) (by omega) bs.out ?_)
      intro v' w3 hown hgrow hnn
      have HV : Hid (∃ g cap, v' = .slice (some ⟨g, 0, none⟩) (k + 1) cap) := by
        show ∃ g cap, _
        rcases hown.2 with ⟨e, h0⟩ | ⟨g', cap', cur, e, _⟩
        · omega
        · exact ⟨g', cap', e⟩
      have HO3 : Hid (OwnB w3 w.heap.size 5 v' (drawB code at' (k + 1))) := by
        show OwnB _ _ _ _ _
        unfold OwnB
        rw [drawB_length, HD.out, List.map_append]
        exact hown
      have G : Chg w.heap.size (w1.heap.size + 1) (w1.alloc (.cells #[.int .u8 x] 5)) w3 := Chg.ofGrown hgrow (fun g hg hlt => ⟨Hgb.out g hg, by simpa using hlt⟩)
      have HC3 : Hid (Chg p (p + 1) w w3) := (HC1.out.alloc _).step G (Or.inr (Or.inl (Nat.le_refl _)))
      have HS3 : Hid (SrcAt w3 p cv (at' + (k + 1)) sz) := (hs1'.out.chg (Chg.alloc (Chg.refl 0 0 w1) _) (by omega)).chg G (Or.inl hps)
      clear hown hgrow G HNW HO2 bs HC1 hnn
      go_wp2
      go_roundw
      case rel => exact ⟨k + 1, by omega, by go_num, HV.out, HO3.out, HS3.out, HC3.out⟩
      case measure => simp [intOf]; omega
    · obtain rfl : k = m := by omega
      have HO : Hid (OwnB wr w.heap.size 5 _ (drawB code at' k)) := ho
      have HS : Hid (SrcAt wr p cv (at' + k) sz) := hs
      clear ho hs
      go_wp2
      go_ret
      exact ⟨_, rfl, ⟨_, _, rfl⟩, HO.out, HS.out, hch⟩

end Go.Proofs.Ytiaaogklfkcbeae
