/- Several short texts in one: ImplPcs, JIdx. -/
import Derived.Test.YteligghapkleaaaGreatDoorRows
import Derived.Test.YteligghapkleaaaGreatDoorImplPieces
import Derived.Test.YteligghapkleaaaGreatDoorJBody
namespace Go.Proofs.YteligghapkleaaaGreatDoor
open Go.RowKit Go.Shelf
attribute [local go_sem] Oper.semAt_some

/-- How many pieces; where piece x ends. -/
def pcN (L m : Nat) : Nat := (L + m - 1) / m
def pcE (L m x : Nat) : Nat := min (m * x + m) L
theorem pc_lt {L m x : Nat} (hm : 0 < m) (h : x < pcN L m) : m * x < L := by
  unfold pcN at h
  have := (Nat.lt_div_iff_mul_lt hm).1 h
  rw [Nat.mul_comm] at this
  omega
theorem pc_ge {L m : Nat} (hm : 0 < m) : L ≤ m * pcN L m := by
  unfold pcN
  have := Nat.lt_mul_div_succ (L + m - 1) hm
  rw [Nat.mul_add] at this
  omega
/-- Piece x. -/
def encPi (S b off cap L m : Nat) {K : Nat} (x : Fin K) : Array Value := #[.slice (some ⟨b, off + m * x.val * S, none⟩) (pcE L m x.val - m * x.val) (cap - m * x.val)]

set_option maxHeartbeats 1000000 in
theorem piecesI_calls (w : World) (ao : Option Addr) (n cap : Nat) (m : Int) :
    Calls Tryz.prog 56 #[.slice ao n cap, .int .i64 m] w fun e w' =>
      e = .returned (.func (.func 69) #[] #[.pointer (some ⟨w.heap.size, 0, none⟩), .pointer (some ⟨w.heap.size + 1, 0, none⟩)]) ∧ w' = (w.alloc (.cells #[.slice ao n cap] 23)).alloc (.cells #[.int .i64 m] 3) := by
  go_enter Tryz.func56, Tryz.ntmps56
  go_wp2
  go_ret
  exact ⟨rfl, rfl⟩

set_option maxRecDepth 100000 in
set_option maxHeartbeats 2000000 in
theorem piecesI_seq (Bd Bn b off cap L : Nat) (ao : Option Addr) (w : World) (hL : L ≤ 100000) (hcap : L ≤ cap) (hao : 0 < L → ao = some ⟨b, off, none⟩)
    (hd : w.cell? ⟨Bd, 0, none⟩ = some (.slice ao L cap)) (hn : w.cell? ⟨Bn, 0, none⟩ = some (.int .i64 26)) :
    SeqT Tryz.prog 69 #[.pointer (some ⟨Bd, 0, none⟩), .pointer (some ⟨Bn, 0, none⟩)] (encPi 1 b off cap L 26 (K := pcN L 26)) (fun _ => KeepS fun k => k = Bd ∨ k = Bn)
      (fun xs => xs.map Fin.val = List.range (pcN L 26)) (fun pre => pre.map Fin.val = List.range pre.length) (pcN L 26) w := fun l J Jx W hW hJ hJx hY h0 => by
  have hd2 : W.cell? ⟨Bd, 0, none⟩ = some (.slice ao L cap) := (hW.cell (p := ⟨Bd, 0, none⟩) (lt_of_cell hd)).trans hd
  have hn2 : W.cell? ⟨Bn, 0, none⟩ = some (.int .i64 26) := (hW.cell (p := ⟨Bn, 0, none⟩) (lt_of_cell hn)).trans hn
  have hJ0 := h0 W (Below.refl _ _)
  have HAo : Hid (0 < L → ao = some ⟨b, off, none⟩) := hao
  clear h0 hd hn hW hJ hJx hao
  refine callsIn_of_wp Tryz.func69 rfl trivial ?_ rfl
  simp only [Tryz.ntmps69, List.size_toArray, List.length_cons, List.length_nil, Nat.reduceAdd, Nat.reduceSub, Array.replicate_succ, Array.replicate_zero, List.push_toArray, List.append_toArray, List.nil_append, List.cons_append]
  gi_wp2
  gi_loopw [4] (fun x wr => ∃ (i : Nat) (pre : List (Fin (pcN L 26))), x = .int .i64 ((26 * i : Nat) : Int) ∧ i ≤ pcN L 26 ∧ pre.map Fin.val = List.range i ∧ W.heap.size ≤ wr.heap.size ∧ wr.cell? ⟨Bd, 0, none⟩ = some (.slice ao L cap) ∧ wr.cell? ⟨Bn, 0, none⟩ = some (.int .i64 26) ∧ J pre wr)
    (fun x _ => L + 26 - (intOf x).toNat)
  case atStart => exact ⟨0, [], rfl, Nat.zero_le _, rfl, Nat.le_refl _, hd2, hn2, hJ0⟩
  case round =>
    clear hd2 hn2 hJ0
    obtain ⟨i, pre, rfl, hi, hpre, hsz, hd, hn, hJp⟩ := hrel
    have hplen : pre.length = i := by have := congrArg List.length hpre; simpa using this
    by_cases hlt : i < pcN L 26
    · have hqL := pc_lt (m := 26) (by omega) hlt
      obtain rfl := HAo.out (by omega)
      obtain ⟨fn, tmps, assign, body, hy, hR⟩ := hY pre ⟨i, hlt⟩ wr hsz hJp (by omega)
      unfold encPi at hy
      simp only [Nat.mul_one] at hy
      have Hpre : Hid (pre.map Fin.val = List.range i) := hpre
      obtain ⟨q, hq⟩ : ∃ q, q = 26 * i := ⟨_, rfl⟩
      have Hq : Hid (q = 26 * i) := hq
      obtain ⟨E, hE⟩ : ∃ E, E = pcE L 26 i := ⟨_, rfl⟩
      have eM : (if (L : Int) < (q : Int) + 26 then (L : Int) else (q : Int) + 26) = (E : Int) := by rw [hE, hq]; unfold pcE; split <;> omega
      have hEq : q < E := by rw [hE, hq]; unfold pcE; omega
      have hEL : E ≤ L := by rw [hE]; unfold pcE; omega
      rw [← hE, ← hq] at hy
      rw [← hq] at hqL ⊢
      have e1 : (q : Int) < (L : Int) := by omega
      have e2 : (q : Int) ≤ (E : Int) := by omega
      have e3 : (E : Int) ≤ (cap : Int) := by omega
      have e4 : ¬ cap = q := by omega
      have e5 : ¬ cap < E := by omega
      have e6 : ¬ E < q := by omega
      clear hY hpre hq hE hi hplen HAo
      gi_wp2
      refine ⟨rfl, hR.mono ?_⟩
      rintro e V ⟨⟨hkm, hkp⟩, (⟨rfl, hJ3⟩ | ⟨rfl, hJx3⟩)⟩
      · have hd3 : V.cell? ⟨Bd, 0, none⟩ = some (.slice (some ⟨b, off, none⟩) L cap) := (hkp.cell (p := ⟨Bd, 0, none⟩) (Or.inl rfl)).trans hd
        have hn3 : V.cell? ⟨Bn, 0, none⟩ = some (.int .i64 26) := (hkp.cell (p := ⟨Bn, 0, none⟩) (Or.inr rfl)).trans hn
        have hs3 := Nat.le_trans hsz hkm
        clear hR hy hd hn hkm hkp hJp hsz eM
        gi_wp2
        go_roundw
        case rel => exact ⟨i + 1, pre ++ [⟨i, hlt⟩], by have := Hq.out; congr 1; omega, hlt, by rw [List.map_append, Hpre.out, List.range_succ]; rfl, hs3, hd3, hn3, hJ3⟩
        case measure => simp [intOf]; omega
      · gi_wp2
        refine bodyPost_ret (results_none rfl _ _ _) rfl ?_
        refine ⟨⟨_, rfl⟩, .inr ⟨pre ++ [⟨i, hlt⟩], ?_, hJx3⟩⟩
        have hl : pre.length = i := by have := congrArg List.length Hpre.out; simpa using this
        rw [List.map_append, Hpre.out, List.length_append, hl]
        exact List.range_succ.symm
    · obtain rfl : i = pcN L 26 := by omega
      have Hpre : Hid (pre.map Fin.val = List.range (pcN L 26)) := hpre
      have hge := pc_ge (L := L) (m := 26) (by omega)
      have e1 : ¬ (((26 * pcN L 26 : Nat) : Int) < (L : Int)) := by omega
      generalize 26 * pcN L 26 = Q at *
      clear hY hpre hplen
      gi_wp2
      go_end0
      exact ⟨⟨_, rfl⟩, .inl ⟨pre, Hpre.out, hJp⟩⟩

set_option maxHeartbeats 1000000 in
theorem piecesH_calls (w : World) (ao : Option Addr) (n cap : Nat) (m : Int) :
    Calls Tryz.prog 59 #[.slice ao n cap, .int .i64 m] w fun e w' =>
      e = .returned (.func (.func 70) #[] #[.pointer (some ⟨w.heap.size, 0, none⟩), .pointer (some ⟨w.heap.size + 1, 0, none⟩)]) ∧ w' = (w.alloc (.cells #[.slice ao n cap] 28)).alloc (.cells #[.int .i64 m] 3) := by
  go_enter Tryz.func59, Tryz.ntmps59
  go_wp2
  go_ret
  exact ⟨rfl, rfl⟩

set_option maxRecDepth 100000 in
set_option maxHeartbeats 2000000 in
theorem piecesH_seq (Bd Bn b off cap L : Nat) (ao : Option Addr) (w : World) (hL : L ≤ 100000) (hcap : L ≤ cap) (hao : 0 < L → ao = some ⟨b, off, none⟩)
    (hd : w.cell? ⟨Bd, 0, none⟩ = some (.slice ao L cap)) (hn : w.cell? ⟨Bn, 0, none⟩ = some (.int .i64 17)) :
    SeqT Tryz.prog 70 #[.pointer (some ⟨Bd, 0, none⟩), .pointer (some ⟨Bn, 0, none⟩)] (encPi 2 b off cap L 17 (K := pcN L 17)) (fun _ => KeepS fun k => k = Bd ∨ k = Bn)
      (fun xs => xs.map Fin.val = List.range (pcN L 17)) (fun pre => pre.map Fin.val = List.range pre.length) (pcN L 17) w := fun l J Jx W hW hJ hJx hY h0 => by
  have hd2 : W.cell? ⟨Bd, 0, none⟩ = some (.slice ao L cap) := (hW.cell (p := ⟨Bd, 0, none⟩) (lt_of_cell hd)).trans hd
  have hn2 : W.cell? ⟨Bn, 0, none⟩ = some (.int .i64 17) := (hW.cell (p := ⟨Bn, 0, none⟩) (lt_of_cell hn)).trans hn
  have hJ0 := h0 W (Below.refl _ _)
  have HAo : Hid (0 < L → ao = some ⟨b, off, none⟩) := hao
  clear h0 hd hn hW hJ hJx hao
  refine callsIn_of_wp Tryz.func70 rfl trivial ?_ rfl
  simp only [Tryz.ntmps70, List.size_toArray, List.length_cons, List.length_nil, Nat.reduceAdd, Nat.reduceSub, Array.replicate_succ, Array.replicate_zero, List.push_toArray, List.append_toArray, List.nil_append, List.cons_append]
  gi_wp2
  gi_loopw [4] (fun x wr => ∃ (i : Nat) (pre : List (Fin (pcN L 17))), x = .int .i64 ((17 * i : Nat) : Int) ∧ i ≤ pcN L 17 ∧ pre.map Fin.val = List.range i ∧ W.heap.size ≤ wr.heap.size ∧ wr.cell? ⟨Bd, 0, none⟩ = some (.slice ao L cap) ∧ wr.cell? ⟨Bn, 0, none⟩ = some (.int .i64 17) ∧ J pre wr)
    (fun x _ => L + 17 - (intOf x).toNat)
  case atStart => exact ⟨0, [], rfl, Nat.zero_le _, rfl, Nat.le_refl _, hd2, hn2, hJ0⟩
  case round =>
    clear hd2 hn2 hJ0
    obtain ⟨i, pre, rfl, hi, hpre, hsz, hd, hn, hJp⟩ := hrel
    have hplen : pre.length = i := by have := congrArg List.length hpre; simpa using this
    by_cases hlt : i < pcN L 17
    · have hqL := pc_lt (m := 17) (by omega) hlt
      obtain rfl := HAo.out (by omega)
      obtain ⟨fn, tmps, assign, body, hy, hR⟩ := hY pre ⟨i, hlt⟩ wr hsz hJp (by omega)
      unfold encPi at hy
      simp only at hy
      have Hpre : Hid (pre.map Fin.val = List.range i) := hpre
      obtain ⟨q, hq⟩ : ∃ q, q = 17 * i := ⟨_, rfl⟩
      have Hq : Hid (q = 17 * i) := hq
      obtain ⟨E, hE⟩ : ∃ E, E = pcE L 17 i := ⟨_, rfl⟩
      have eM : (if (L : Int) < (q : Int) + 17 then (L : Int) else (q : Int) + 17) = (E : Int) := by rw [hE, hq]; unfold pcE; split <;> omega
      have hEq : q < E := by rw [hE, hq]; unfold pcE; omega
      have hEL : E ≤ L := by rw [hE]; unfold pcE; omega
      rw [← hE, ← hq] at hy
      rw [← hq] at hqL ⊢
      have e1 : (q : Int) < (L : Int) := by omega
      have e2 : (q : Int) ≤ (E : Int) := by omega
      have e3 : (E : Int) ≤ (cap : Int) := by omega
      have e4 : ¬ cap = q := by omega
      have e5 : ¬ cap < E := by omega
      have e6 : ¬ E < q := by omega
      clear hY hpre hq hE hi hplen HAo
      gi_wp2
      refine ⟨rfl, hR.mono ?_⟩
      rintro e V ⟨⟨hkm, hkp⟩, (⟨rfl, hJ3⟩ | ⟨rfl, hJx3⟩)⟩
      · have hd3 : V.cell? ⟨Bd, 0, none⟩ = some (.slice (some ⟨b, off, none⟩) L cap) := (hkp.cell (p := ⟨Bd, 0, none⟩) (Or.inl rfl)).trans hd
        have hn3 : V.cell? ⟨Bn, 0, none⟩ = some (.int .i64 17) := (hkp.cell (p := ⟨Bn, 0, none⟩) (Or.inr rfl)).trans hn
        have hs3 := Nat.le_trans hsz hkm
        clear hR hy hd hn hkm hkp hJp hsz eM
        gi_wp2
        go_roundw
        case rel => exact ⟨i + 1, pre ++ [⟨i, hlt⟩], by have := Hq.out; congr 1; omega, hlt, by rw [List.map_append, Hpre.out, List.range_succ]; rfl, hs3, hd3, hn3, hJ3⟩
        case measure => simp [intOf]; omega
      · gi_wp2
        refine bodyPost_ret (results_none rfl _ _ _) rfl ?_
        refine ⟨⟨_, rfl⟩, .inr ⟨pre ++ [⟨i, hlt⟩], ?_, hJx3⟩⟩
        have hl : pre.length = i := by have := congrArg List.length Hpre.out; simpa using this
        rw [List.map_append, Hpre.out, List.length_append, hl]
        exact List.range_succ.symm
    · obtain rfl : i = pcN L 17 := by omega
      have Hpre : Hid (pre.map Fin.val = List.range (pcN L 17)) := hpre
      have hge := pc_ge (L := L) (m := 17) (by omega)
      have e1 : ¬ (((17 * pcN L 17 : Nat) : Int) < (L : Int)) := by omega
      generalize 17 * pcN L 17 = Q at *
      clear hY hpre hplen
      gi_wp2
      go_end0
      exact ⟨⟨_, rfl⟩, .inl ⟨pre, Hpre.out, hJp⟩⟩

end Go.Proofs.YteligghapkleaaaGreatDoor

namespace Go.Proofs.YteligghapkleaaaGreatDoor
open Go.RowKit

theorem pc_drop {L m : Nat} (hm : 0 < m) (h : 0 < L) : pcN L m = pcN (L - m) m + 1 := by
  unfold pcN
  by_cases hl : m ≤ L
  · rw [show L + m - 1 = (L - m + m - 1) + m by omega, Nat.add_div_right _ hm]
  · rw [show L - m = 0 by omega, Nat.div_eq_of_lt (show 0 + m - 1 < m by omega), show L + m - 1 = (L - 1) + m by omega, Nat.add_div_right _ hm, Nat.div_eq_of_lt (by omega)]
theorem pc_zero {m : Nat} (hm : 0 < m) : pcN 0 m = 0 := by unfold pcN; exact Nat.div_eq_of_lt (by omega)
theorem chunk_len {α : Type} (n : Nat) (xs : List α) : (chunk n xs).length = pcN xs.length n := chunk_length n xs
theorem pcE_len {α : Type} (m x : Nat) (xs : List α) : ((xs.drop (m * x)).take m).length = pcE xs.length m x - m * x := by
  rw [List.length_take, List.length_drop]; unfold pcE; omega
theorem pcE_le {L m x : Nat} : pcE L m x - m * x ≤ m := by unfold pcE; omega

theorem flat_lengthJ (q : Int) (n : Nat) : ∀ (hs : List Wr), hs.length ≤ n → ((chunk 17 hs).flatMap (descBs q)).length = hs.length + pcN hs.length 17 := by
  induction n with
  | zero =>
    intro hs h
    obtain rfl : hs = [] := List.eq_nil_of_length_eq_zero (by omega)
    rw [chunk_nil 17 (by omega), List.length_nil, pc_zero (by omega)]; rfl
  | succ n ih =>
    intro hs h
    by_cases h0 : 0 < hs.length
    · rw [chunk_cons 17 (by omega) h0, List.flatMap_cons, List.length_append, ih (hs.drop 17) (by rw [List.length_drop]; omega), pc_drop (by omega) h0, List.length_drop]
      unfold descBs
      rw [List.length_cons, List.length_map, List.length_take]; omega
    · obtain rfl : hs = [] := List.eq_nil_of_length_eq_zero (by omega)
      rw [chunk_nil 17 (by omega), List.length_nil, pc_zero (by omega)]; rfl
theorem BL_len (q : Int) (hs : List Wr) (rs : List Int) : (BL q hs rs).length = pcN rs.length 26 + (hs.length + pcN hs.length 17) := by
  unfold BL
  rw [List.length_append, List.length_map, chunk_len, flat_lengthJ q hs.length hs (Nat.le_refl _)]
theorem BL_rev_at (q : Int) (hs : List Wr) (rs : List Int) {x : Nat} (hx : x < pcN rs.length 26) : (BL q hs rs).getD x [] = revB q ((rs.drop (26 * x)).take 26) := by
  unfold BL
  rw [List.getD_eq_getElem?_getD, List.getElem?_append_left (by rw [List.length_map, chunk_len]; exact hx), List.getElem?_map]
  unfold chunk
  have hx' : x < (rs.length + 26 - 1) / 26 := hx
  rw [List.getElem?_map, List.getElem?_range hx']
  rfl
theorem flat_at (q : Int) (x : Nat) : ∀ (hs : List Wr) {j : Nat}, x < pcN hs.length 17 → j ≤ pcE hs.length 17 x - 17 * x → ((chunk 17 hs).flatMap (descBs q)).getD (18 * x + j) [] = (descBs q ((hs.drop (17 * x)).take 17)).getD j [] := by
  induction x with
  | zero =>
    intro hs j hx hj
    have h0 := pc_lt (m := 17) (by omega) hx
    rw [chunk_cons 17 (by omega) (by omega), List.flatMap_cons, List.getD_eq_getElem?_getD, List.getD_eq_getElem?_getD, List.getElem?_append_left]
    · simp
    · unfold descBs
      unfold pcE at hj
      rw [List.length_cons, List.length_map, List.length_take]; omega
  | succ x ih =>
    intro hs j hx hj
    have h0 := pc_lt (m := 17) (by omega) hx
    have hd : (descBs q (hs.take 17)).length = 18 := by unfold descBs; rw [List.length_cons, List.length_map, List.length_take]; omega
    have hp := pc_drop (L := hs.length) (m := 17) (by omega) (by omega)
    have := ih (hs.drop 17) (j := j) (by rw [List.length_drop]; omega) (by rw [List.length_drop]; unfold pcE at hj ⊢; omega)
    rw [chunk_cons 17 (by omega) (by omega), List.flatMap_cons, List.getD_eq_getElem?_getD, List.getElem?_append_right (by rw [hd]; omega), hd, show 18 * (x + 1) + j - 18 = 18 * x + j by omega, ← List.getD_eq_getElem?_getD, this, List.drop_drop, show 17 + 17 * x = 17 * (x + 1) by omega]
theorem BL_home_at (q : Int) (hs : List Wr) (rs : List Int) {x j : Nat} (hx : x < pcN hs.length 17) (hj : j ≤ pcE hs.length 17 x - 17 * x) : (BL q hs rs).getD (pcN rs.length 26 + 18 * x + j) [] = (descBs q ((hs.drop (17 * x)).take 17)).getD j [] := by
  unfold BL
  rw [List.getD_eq_getElem?_getD, List.getElem?_append_right (by rw [List.length_map, chunk_len]; omega), List.length_map, chunk_len, show pcN rs.length 26 + 18 * x + j - pcN rs.length 26 = 18 * x + j by omega, ← List.getD_eq_getElem?_getD]
  exact flat_at q x hs hx hj
theorem idx_lt {H K1 x j : Nat} (hx : x < pcN H 17) (hj : j ≤ pcE H 17 x - 17 * x) : K1 + 18 * x + j < K1 + (H + pcN H 17) := by
  have h0 := pc_lt (m := 17) (by omega) hx
  unfold pcE at hj
  omega

/-- The places of the blocks of piece x. -/
def plc (K1 H x : Nat) : List Nat := (List.range (pcE H 17 x - 17 * x + 1)).map (K1 + 18 * x + ·)
theorem range_more (a b : Nat) : List.range a ++ (List.range b).map (a + ·) = List.range (a + b) := (List.range_add).symm
theorem plc_sum {K1 H : Nat} (m : Nat) (hm : m ≤ pcN H 17) : List.range K1 ++ (List.range m).flatMap (plc K1 H) = List.range (K1 + min (18 * m) (H + pcN H 17)) := by
  induction m with
  | zero => simp
  | succ m ih =>
    have h0 := pc_lt (m := 17) (by omega) (show m < pcN H 17 by omega)
    have hge := pc_ge (L := H) (m := 17) (by omega)
    rw [List.range_succ, List.flatMap_append, ← List.append_assoc, ih (by omega), List.flatMap_cons, List.flatMap_nil, List.append_nil]
    have e1 : min (18 * m) (H + pcN H 17) = 18 * m := by omega
    rw [e1]
    unfold plc
    rw [show K1 + 18 * m = K1 + 18 * m from rfl, range_more]
    congr 1
    unfold pcE
    have : m + 1 < pcN H 17 → 17 * (m + 1) < H := fun h => pc_lt (by omega) h
    by_cases hl : m + 1 < pcN H 17
    · have := this hl; omega
    · have : m + 1 = pcN H 17 := by omega
      omega
theorem plc_all {K1 H : Nat} : List.range K1 ++ (List.range (pcN H 17)).flatMap (plc K1 H) = List.range (K1 + (H + pcN H 17)) := by
  have hge := pc_ge (L := H) (m := 17) (by omega)
  rw [plc_sum _ (Nat.le_refl _)]
  congr 1; omega
theorem plc_part {K1 H x k : Nat} (hx : x < pcN H 17) (hk : k ≤ pcE H 17 x - 17 * x + 1) : List.range K1 ++ (List.range x).flatMap (plc K1 H) ++ (plc K1 H x).take k = List.range (K1 + 18 * x + k) := by
  have h0 := pc_lt (m := 17) (by omega) hx
  rw [plc_sum _ (by omega), show min (18 * x) (H + pcN H 17) = 18 * x by omega]
  unfold plc
  rw [← List.map_take, List.take_range, Nat.min_eq_left hk, range_more]

theorem View.keep {w w' : World} {lo hi : Nat} {k : IntKind} {v : Value} {xs : List Int} (h : View w lo hi k v xs) (hk : ∀ b, lo ≤ b → b < hi → w'.heap[b]? = w.heap[b]?) : View w' lo hi k v xs := by
  obtain ⟨ao, cap, hv, hl, hc, h⟩ := h
  refine ⟨ao, cap, hv, hl, hc, ?_⟩
  rcases h with h | ⟨b, off, ha, h1, h2, h3⟩
  · exact Or.inl h
  · exact Or.inr ⟨b, off, ha, h1, h2, fun i hi => (World.cell?_of_block (a := ⟨b, off + i, none⟩) (hk b h1 h2)).trans (h3 i hi)⟩
theorem PView.keep {w w' : World} {lo hi : Nat} {v : Value} {ps : List Wr} (h : PView w lo hi v ps) (hk : ∀ b, lo ≤ b → b < hi → w'.heap[b]? = w.heap[b]?) : PView w' lo hi v ps := by
  obtain ⟨ao, cap, hv, hl, hc, h⟩ := h
  refine ⟨ao, cap, hv, hl, hc, ?_⟩
  rcases h with h | ⟨b, off, ha, h1, h2, h3⟩
  · exact Or.inl h
  · refine Or.inr ⟨b, off, ha, h1, h2, fun i hi => ?_⟩
    obtain ⟨dv, c1, c2, vw⟩ := h3 i hi
    exact ⟨dv, (World.cell?_of_block (a := ⟨b, off + i * 2, none⟩) (hk b h1 h2)).trans c1, (World.cell?_of_block (a := ⟨b, off + i * 2 + 1, none⟩) (hk b h1 h2)).trans c2, vw.keep hk⟩

/-- What rounds keep: these blocks; all blocks of certain types; all that is no cells, from a block on. -/
def tyA (t : TypeId) : Prop := t = 98 ∨ t = 23 ∨ t = 28 ∨ t = 3 ∨ t = 116
theorem tyA_b : tyA 98 := Or.inl rfl
theorem tyA_i : tyA 23 := Or.inr (Or.inl rfl)
theorem tyA_h : tyA 28 := Or.inr (Or.inr (Or.inl rfl))
theorem tyA_n : tyA 3 := Or.inr (Or.inr (Or.inr (Or.inl rfl)))
theorem tyA_f : tyA 116 := Or.inr (Or.inr (Or.inr (Or.inr rfl)))
def KeepT (V V' : World) : Prop := ∀ (k : Nat) (cs : Array Value) (t : TypeId) (fr : Nat × Nat), tyA t → V.heap[k]? = some (Obj.cells cs t fr) → V'.heap[k]? = V.heap[k]?
def KeepN (b : Nat) (V V' : World) : Prop := ∀ (k : Nat) (o : Obj), b ≤ k → V.heap[k]? = some o → o.isCells = false → V'.heap[k]? = V.heap[k]?
def KpT (K : Nat → Prop) (b : Nat) (V V' : World) : Prop := KeepS K V V' ∧ KeepT V V' ∧ KeepN b V V'
theorem KeepT.trans {A B C : World} (h : KeepT A B) (k : KeepT B C) : KeepT A C := fun i cs t fr ht e => (k i cs t fr ht ((h i cs t fr ht e).trans e)).trans (h i cs t fr ht e)
theorem KeepN.trans {b : Nat} {A B C : World} (h : KeepN b A B) (k : KeepN b B C) : KeepN b A C := fun i o hb e ho => (k i o hb ((h i o hb e ho).trans e) ho).trans (h i o hb e ho)
theorem KpT.trans {K : Nat → Prop} {b : Nat} {A B C : World} (h : KpT K b A B) (k : KpT K b B C) : KpT K b A C := ⟨h.1.trans k.1, h.2.1.trans k.2.1, h.2.2.trans k.2.2⟩
theorem KpT.up {K : Nat → Prop} {b b' : Nat} {A B : World} (h : KpT K b A B) (hb : b ≤ b') : KpT K b' A B := ⟨h.1, h.2.1, fun k o hk => h.2.2 k o (by omega)⟩
/-- Where only blocks of other types are turned. -/
theorem KpT.chg {K : Nat → Prop} {b : Nat} {V V' : World} {l r : Nat} (c : Chg l r V V') (hK : ∀ k, K k → k < V.heap.size ∧ (k < l ∨ r ≤ k)) (h : ∀ (k : Nat), l ≤ k → k < r → ∃ (cs : Array Value) (t : TypeId) (fr : Nat × Nat), V.heap[k]? = some (Obj.cells cs t fr) ∧ ¬ tyA t) : KpT K b V V' := by
  have key : ∀ (k : Nat) (o : Obj), V.heap[k]? = some o → (∀ cs t fr, o = Obj.cells cs t fr → tyA t) → V'.heap[k]? = V.heap[k]? := fun k o e ho => by
    refine c.block k (Array.getElem?_eq_some_iff.1 e).1 ?_
    rcases Nat.lt_or_ge k l with h1 | h1
    · exact Or.inl h1
    · rcases Nat.lt_or_ge k r with h2 | h2
      · obtain ⟨cs, t, fr, e', hn⟩ := h k h1 h2
        rw [e] at e'
        cases e'
        exact absurd (ho cs t fr rfl) hn
      · exact Or.inr h2
  exact ⟨fun k hk => c.block k (hK k hk).1 (hK k hk).2, fun k cs t fr ht e => key k _ e (fun _ _ _ e' => by cases e'; exact ht), fun k o _ e ho => key k o e (fun _ _ _ e' => by rw [e'] at ho; cases ho)⟩
theorem KpT.chg0 {K : Nat → Prop} {b : Nat} {V V' : World} {l : Nat} (c : Chg l l V V') (hK : ∀ k, K k → k < V.heap.size) : KpT K b V V' := KpT.chg c (fun k hk => ⟨hK k hk, by omega⟩) (fun k h1 h2 => by omega)
theorem KpT.put {K : Nat → Prop} {W : World} {B b : Nat} (o : Obj) {r : Loop} (hb : W.heap[B]? = some (.loop r)) (hK : ∀ k, K k → k ≠ B) (hB : B < b) : KpT K b W (W.putObj B o) :=
  ⟨fun k hk => World.putObj_heap_other (hK k hk), fun k cs t fr _ e => World.putObj_heap_other (fun h => by rw [h, hb] at e; cases e), fun k o hk _ _ => World.putObj_heap_other (by omega)⟩

end Go.Proofs.YteligghapkleaaaGreatDoor
