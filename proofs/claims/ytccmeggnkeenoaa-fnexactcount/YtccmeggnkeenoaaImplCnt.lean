/- Count of the program. -/
import Derived.Test.YtccmeggnkeenoaaCntMap
import Derived.Test.YtccmeggnkeenoaaIsWithin
namespace Go.Proofs.Ytccmeggnkeenoaa
open Go.RowKit

theorem look_atN {W : World} {bm n : Nat} {D : DataW Unit} {T : List (Int × Int)} (h : W.ownsMap Try.prog 2 (plainElem Try.prog 2) bm n D) (hs : SaysN D T) {x : Int} (hx : (Lit.int .i64 x).wf = true) :
    ∃ c, (Instr.lookup 39 (.map (some bm)) (.int .i64 x) true).run Try.prog W = .ok (.tuple #[.int .i64 c, .bool (decide (x ∈ T.map Prod.fst))]) W := by
  have K := Maps.int_keyed (P := Try.prog) (k := 2) Try.underlying2
  obtain ⟨v, ps, hrun, hv⟩ := h.look_ok K Try.underlying39 (z := .int .i64 0) (by kernel_rfl) (plainElem_int Try.underlying2 (by decide)) (keyI_of hx)
  obtain ⟨c, rfl, _, _⟩ := plainElem_int_inv Try.underlying2 hv
  rw [hs.has x] at hrun
  exact ⟨c, hrun⟩
theorem grown_chg {w W X : World} {bm : Nat} (hc : Chg 0 0 w W) (hg : W.grownBy X (some bm)) (hb : w.heap.size ≤ bm) : Chg 0 0 w X :=
  hc.step (Chg.ofGrown (lo := bm) (hi := bm + 1) hg (fun k e _ => by cases e; omega)) (by omega)

set_option maxRecDepth 20000 in
set_option maxHeartbeats 1000000 in
theorem implCount_big (w : World) (n : Nat) (ao : Option Addr) (cap : Nat) (h : 10000 < n) (hl : n ≤ 9223372036854775807) :
    Calls Try.prog 7 #[.slice ao n cap] w fun e w' => e = .returned (.agg #[.int .i64 0, .int .i64 0]) ∧ Chg 0 0 w w' := by
  have h' : (10000 : Int) < (n : Int) := by omega
  have HC : ∀ o1, Chg 0 0 w (w.alloc o1) := fun o1 => Chg.alloc (Chg.refl 0 0 w) _
  go_enter Try.func7, Try.ntmps7
  go_wp2
  exact bodyPost_ret (v := .agg #[.int .i64 0, .int .i64 0]) (by simp [results, Try.results7, go_sem, *]) rfl ⟨rfl, by first | exact HC _ | exact ((HC _).setCell (Or.inr (Nat.le_refl _)) _).setCell (Or.inr (Nat.le_refl _)) _⟩

set_option maxRecDepth 20000 in
set_option maxHeartbeats 2000000 in
theorem implCount_in (w : World) (ts : List Nod) (ao : Option Addr) (cap : Nat) (hl : ts.length ≤ 10000) (hz : SizedN ts)
    (h1 : ts = [] ∨ ∃ b off, ao = some ⟨b, off, none⟩ ∧ ∀ i, i < ts.length → NAt w b (off + i * 7) (ts.getD i Nod.none)) :
    Calls Try.prog 7 #[.slice ao ts.length cap] w fun e w' => e = .returned (.agg #[.int .i64 (cntU ts).1, .int .i64 (cntU ts).2]) ∧ Chg 0 0 w w' := by
  have K := Maps.int_keyed (P := Try.prog) (k := 2) Try.underlying2
  have HU : Hid (cntU ts = ((((cuL ts).1.length : Nat) : Int), (cuL ts).2)) := by show _ = _; unfold cntU; rw [if_neg (by omega)]
  have h' : ¬ (10000 : Int) < (ts.length : Int) := by omega
  have hmk : ∀ x : World, (Instr.makeMap 39 none).run Try.prog x = .ok (.map (some x.heap.size)) (x.alloc (.map #[] 0)) := fun _ => rfl
  obtain ⟨z2, a0, _⟩ := alloc2 w (.cells #[.int .i64 0, .int .i64 0] 25) (.map #[] 0)
  have hM0 := World.ownsMap_made (w.alloc (.cells #[.int .i64 0, .int .i64 0] 25)) Try.prog 2 (plainElem (H := Unit) Try.prog 2)
  have z1 : (w.alloc (.cells #[.int .i64 0, .int .i64 0] 25)).heap.size = w.heap.size + 1 := by simp
  rw [z1] at hM0
  have hC0 : Chg 0 0 w ((w.alloc (.cells #[.int .i64 0, .int .i64 0] 25)).alloc (.map #[] 0)) := (Chg.alloc (Chg.refl 0 0 w) _).alloc _
  go_enter Try.func7, Try.ntmps7
  go_wp2
  generalize ((w.alloc (.cells #[.int .i64 0, .int .i64 0] 25)).alloc (.map #[] 0)) = w1 at *
  go_loopw [18] (fun x wr => ∃ (k n : Nat) (D : DataW Unit), k ≤ ts.length ∧ x = .int .i64 k ∧ wr.ownsMap Try.prog 2 (plainElem Try.prog 2) (w.heap.size + 1) n D ∧ n ≤ 2 * k ∧ SaysN D (tabL (ts.take k)) ∧ wr.heap[w.heap.size]? = some (.cells #[.int .i64 0, .int .i64 0] 25 (0, 0)) ∧ Chg 0 0 w wr) (fun x _ => ts.length - (intOf x).toNat)
  case atStart => exact ⟨0, 0, _, Nat.zero_le _, rfl, hM0, Nat.le_refl _, SaysN.nil, a0, hC0⟩
  case round =>
    clear hM0 a0 hC0
    obtain ⟨k, n, D, hk, rfl, hm, hn, hs, hr, hc⟩ := hrel
    by_cases hlt : k < ts.length
    · obtain ⟨b, off, rfl, hce⟩ := h1.resolve_left (fun h => by rw [h] at hlt; exact absurd hlt (Nat.not_lt_zero k))
      obtain ⟨c0, c1, c2, c3, c4, c5, c6⟩ := ((hce k hlt).chg hc (by omega)).all
      have hi : (k : Int) < (ts.length : Int) := by omega
      have HS := tabL_succ ts hlt
      have hok := hz k hlt
      generalize ts.getD k Nod.none = t at *
      have hwi := hok.i
      clear hok hce h1 hz
      have CA : Chg 0 0 wr (wr.alloc (.cells #[.string t.p, .int .i64 t.k, .int .i64 t.i, .int .i64 t.l, .int .i64 t.z, .int .i64 t.b, .string t.d] 37)) := Chg.alloc (Chg.refl 0 0 wr) _
      have hnew := heap_new wr (.cells #[.string t.p, .int .i64 t.k, .int .i64 t.i, .int .i64 t.l, .int .i64 t.z, .int .i64 t.b, .string t.d] 37)
      have hsA : (wr.alloc (.cells #[.string t.p, .int .i64 t.k, .int .i64 t.i, .int .i64 t.l, .int .i64 t.z, .int .i64 t.b, .string t.d] 37)).heap.size = wr.heap.size + 1 := by simp
      have hmA := hm.alloc (.cells #[.string t.p, .int .i64 t.k, .int .i64 t.i, .int .i64 t.l, .int .i64 t.z, .int .i64 t.b, .string t.d] 37)
      have hrl := (Array.getElem?_eq_some_iff.1 hr).1
      have hml := hm.lt
      have hrA := (CA.block _ hrl (by omega)).trans hr
      have hcA := hc.trans CA
      obtain ⟨cv, hlk⟩ := look_atN hmA hs hwi
      clear CA hm hr hc
      generalize hWA : wr.alloc (.cells #[.string t.p, .int .i64 t.k, .int .i64 t.i, .int .i64 t.l, .int .i64 t.z, .int .i64 t.b, .string t.d] 37) = wA at *
      have e2 : wA.cell? ⟨wr.heap.size, 2, none⟩ = some (.int .i64 t.i) := by simp [World.cell?, hnew]
      have e5 : wA.cell? ⟨wr.heap.size, 5, none⟩ = some (.int .i64 t.b) := by simp [World.cell?, hnew]
      by_cases hin : t.i ∈ (tabL (ts.take k)).map Prod.fst
      · have HS2 : Hid (tabL (ts.take (k + 1)) = tabL (ts.take k)) := by show _ = _; rw [HS]; unfold tabS; rw [if_pos hin]
        rw [decide_eq_true hin] at hlk
        have HM : Hid (wA.ownsMap Try.prog 2 (plainElem Try.prog 2) (w.heap.size + 1) n D) := hmA
        clear hin HS hmA
        subst hWA
        go_wp2
        go_roundw
        case rel => exact ⟨k + 1, n, D, by omega, by go_num, HM.out, by omega, by rw [HS2.out]; exact hs, hrA, hcA⟩
        case measure => simp [intOf]; omega
      · have HS2 : Hid (tabL (ts.take (k + 1)) = tabL (ts.take k) ++ [(t.i, bkN t.b)]) := by show _ = _; rw [HS]; unfold tabS; rw [if_neg hin]
        rw [decide_eq_false hin] at hlk
        have hsN := hs.new 0 hin
        have hv0 := plainElem_int (H := Unit) Try.underlying2 (a := 0) (by decide)
        clear hin HS hs
        have hI := fun W => isWithin_calls W t.b 0 2048
        have hne : wr.heap.size ≠ w.heap.size + 1 := by omega
        have HM : Hid (wA.ownsMap Try.prog 2 (plainElem Try.prog 2) (w.heap.size + 1) n D) := hmA
        have HN : Hid (wA.heap[wr.heap.size]? = some (.cells #[.string t.p, .int .i64 t.k, .int .i64 t.i, .int .i64 t.l, .int .i64 t.z, .int .i64 t.b, .string t.d] 37 (0, 0))) := hnew
        clear hmA hnew
        subst hWA
        go_wp2_with (first
          | (at_mapUpdate; refine wpList_mapUpdate_own _ rfl _ _ _ 39 rfl 2 2 K Try.underlying39 _ (w.heap.size + 1) n D rfl HM.out (by unfold maxLen; omega) _ _ (keyI t.i) rfl rfl (keyI_of hwi) (.lit (.int .i64 0)) [] hv0 ?_))
        intro w2 hm2 hg2
        have hc2 := grown_chg hcA hg2 (by omega)
        have hr2 := (hg2.block _ (by omega) (by intro e; injection e with e; omega)).trans hrA
        have hn2 := (hg2.block _ (by omega) (by intro e; injection e with e; omega)).trans HN.out
        have d2 : w2.cell? ⟨wr.heap.size, 2, none⟩ = some (.int .i64 t.i) := by simp [World.cell?, hn2]
        have d5 : w2.cell? ⟨wr.heap.size, 5, none⟩ = some (.int .i64 t.b) := by simp [World.cell?, hn2]
        have hs2 := hg2.size
        clear hcA hg2 hrA HM HN hlk
        by_cases g : 0 ≤ t.b ∧ t.b ≤ 2048
        · have Hbk : Hid (bkN t.b = t.b) := if_pos g
          rw [decide_eq_true g.1, decide_eq_true g.2] at hI
          have hsB := hsN.again t.b
          have hvb := plainElem_int (H := Unit) Try.underlying2 (a := t.b) (by
            show (decide (IntKind.i64.min ≤ t.b) && decide (t.b ≤ IntKind.i64.max)) = true
            rw [decide_eq_true (show IntKind.i64.min ≤ t.b from Int.le_trans (by decide : IntKind.i64.min ≤ 0) g.1), decide_eq_true (show t.b ≤ IntKind.i64.max from Int.le_trans g.2 (by decide))]
            rfl)
          have HM2 : Hid (w2.ownsMap Try.prog 2 (plainElem Try.prog 2) (w.heap.size + 1) (n + 1) (D.put (keyI t.i) (.lit (.int .i64 0)))) := hm2
          clear hm2 hsN g
          go_wp2_with (first
            | (go_at_call 13; refine (hI _).mono ?_; rintro e w3 ⟨rfl, hw3⟩; obtain rfl := hw3.symm)
            | (at_mapUpdate; refine wpList_mapUpdate_own _ rfl _ _ _ 39 rfl 2 2 K Try.underlying39 _ (w.heap.size + 1) (n + 1) (D.put (keyI t.i) (.lit (.int .i64 0))) rfl HM2.out (by unfold maxLen; omega) _ _ (keyI t.i) rfl rfl (keyI_of hwi) (.lit (.int .i64 t.b)) [] hvb ?_))
          intro w4 hm4 hg4
          have HM4 : Hid (w4.ownsMap Try.prog 2 (plainElem Try.prog 2) (w.heap.size + 1) (n + 1 + 1) ((D.put (keyI t.i) (.lit (.int .i64 0))).put (keyI t.i) (.lit (.int .i64 t.b)))) := hm4
          have hc4 := grown_chg hc2 hg4 (by omega)
          have hr4 := (hg4.block _ (by omega) (by intro e; injection e with e; omega)).trans hr2
          clear hm4 hg4 hc2 hr2
          go_wp2
          go_roundw
          case rel => exact ⟨k + 1, n + 1 + 1, _, by omega, by go_num, HM4.out, by omega, by rw [HS2.out, Hbk.out]; exact hsB, hr4, hc4⟩
          case measure => simp [intOf]; omega
        · have Hbk : Hid (bkN t.b = 0) := if_neg g
          have hI2 : ∀ W, Calls Try.prog 13 #[.int .i64 t.b, .int .i64 0, .int .i64 2048] W fun e w' => e = .returned (.bool false) ∧ w' = W := fun W => by
            have := hI W
            rw [show (decide (0 ≤ t.b) && decide (t.b ≤ 2048)) = false by rw [← Bool.not_eq_true, Bool.and_eq_true, decide_eq_true_eq, decide_eq_true_eq]; exact g] at this
            exact this
          have HM2 : Hid (w2.ownsMap Try.prog 2 (plainElem Try.prog 2) (w.heap.size + 1) (n + 1) (D.put (keyI t.i) (.lit (.int .i64 0)))) := hm2
          clear hI g hm2
          go_wp2_with (go_at_call 13; refine (hI2 _).mono ?_; rintro e w3 ⟨rfl, hw3⟩; obtain rfl := hw3.symm)
          go_roundw
          case rel => exact ⟨k + 1, n + 1, _, by omega, by go_num, HM2.out, by omega, by rw [HS2.out, Hbk.out]; exact hsN, hr2, hc2⟩
          case measure => simp [intOf]; omega
    · obtain rfl : k = ts.length := by omega
      have htc := tab_cu ts ts.length (Nat.le_refl _)
      rw [List.take_length] at htc hs
      generalize tabL ts = T at *
      obtain ⟨t1, t2, t3⟩ := htc
      have HTl : Hid ((cuL ts).1.length = T.length) := by show _ = _; rw [← t1, List.length_map]
      have HT2 : Hid (sumP (fun _ => true) T = (cuL ts).2) := t2
      have hTb : T.length ≤ 10000 := by have := (cuL_bd ts ts.length (Nat.le_refl _)).1; rw [List.take_length] at this; have := HTl.out; omega
      clear t1 t2
      have hlen : (Builtin.len_ #[39] 3 #[.map (some (w.heap.size + 1))]).run Try.prog wr = .ok (.int .i64 (Maps.size D)) wr := World.ownsMap.len hm Try.underlying39 _
      rw [hs.len] at hlen
      have hrl := (Array.getElem?_eq_some_iff.1 hr).1
      have CA : Chg 0 0 wr (wr.alloc (.cells #[.int .i64 (T.length : Int), .int .i64 0] 25)) := Chg.alloc (Chg.refl 0 0 wr) _
      have hmA := hm.alloc (.cells #[.int .i64 (T.length : Int), .int .i64 0] 25)
      have hnew := heap_new wr (.cells #[.int .i64 (T.length : Int), .int .i64 0] 25)
      have hrA := (CA.block _ hrl (by omega)).trans hr
      have hcA := hc.trans CA
      have hsA : (wr.alloc (.cells #[.int .i64 (T.length : Int), .int .i64 0] 25)).heap.size = wr.heap.size + 1 := by simp
      have hml := hm.lt
      have HM : Hid ((wr.alloc (.cells #[.int .i64 (T.length : Int), .int .i64 0] 25)).ownsMap Try.prog 2 (plainElem Try.prog 2) (w.heap.size + 1) n D) := hmA
      clear hm hr hc CA hmA h1 hz
      go_wp2_with (at_range; refine wpList_range_own _ rfl _ 39 rfl 2 2 K Try.underlying39 _ (w.heap.size + 1) n D rfl HM.out ?_)
      intro w5 hrg5 hg5 hs5
      have hc5 : Chg 0 0 w w5 := hcA.trans (Chg.ofGrown (lo := 0) (hi := 0) hg5 (by simp))
      have hu5 := (hg5.block _ (by omega) (by simp)).trans hnew
      have hr5 := (hg5.block _ (by omega) (by simp)).trans hrA
      have hlf : ∀ kl, Maps.has D kl = true → Maps.has D kl = true := fun _ h => h
      have hac : sumP (fun x => !Maps.has D (keyI x)) T = 0 := sumP_none fun q hq => by rw [hs.has, decide_eq_true (List.mem_map.2 ⟨q, hq, rfl⟩)]; rfl
      have HRG : Hid (w5.ranges Try.prog 2 (plainElem Try.prog 2) (w.heap.size + 1) (wr.heap.size + 1) n D (Maps.has D) (Maps.size D)) := hrg5
      clear hrg5 hg5 hcA hnew hrA HM hlen
      have hRb : w.heap.size + 1 < wr.heap.size := hml
      generalize wr.heap.size = R at *
      go_wp2
      go_loopw [10] (fun _ wq => ∃ (left : Lit → Bool) (cnt : Nat), wq.ranges Try.prog 2 (plainElem Try.prog 2) (w.heap.size + 1) (R + 1) n D left cnt ∧ (∀ kl, left kl = true → Maps.has D kl = true) ∧ wq.heap[R]? = some (.cells #[.int .i64 (T.length : Int), .int .i64 (sumP (fun x => !left (keyI x)) T)] 25 (0, 0)) ∧ wq.heap[w.heap.size]? = some (.cells #[.int .i64 0, .int .i64 0] 25 (0, 0)) ∧ Chg 0 0 w wq) (fun _ wq => wq.rangeLeft (w.heap.size + 1) (R + 1))
      case atStart => exact ⟨_, _, HRG.out, hlf, by rw [hac]; exact hu5, hr5, hc5⟩
      case round =>
        clear hlf hac HRG hu5 hr5 hc5
        obtain ⟨left, cnt, hrg, hlf, hu, hr, hc⟩ := hrel
        obtain ⟨m0, m1, f0, f1⟩ := duoU hu
        have hsb := sumP_bd (p := fun x => !left (keyI x)) t3
        have HRG : Hid (wr.ranges Try.prog 2 (plainElem Try.prog 2) (w.heap.size + 1) (R + 1) n D left cnt) := hrg
        have hli := hrg.left_eq
        clear hrg
        go_wp2_with (at_next; refine wpList_next_ranges_ii _ rfl _ rfl 2 2 .i64 .i64 K Try.underlying2 Try.underlying2 (w.heap.size + 1) (R + 1) n D left cnt rfl HRG.out ?_ ?_)
        · intro hc0 hl0
          have HSum : Hid (sumP (fun x => !left (keyI x)) T = (cuL ts).2) := by
            show _ = _
            rw [← HT2.out]
            exact sumP_congr fun q _ => by rw [hl0]; rfl
          obtain ⟨n0, n1, g0, g1⟩ := duoU hr
          have HC : Hid (Chg 0 0 w wr) := hc
          clear hr hc hu hlf HRG hc0 hl0
          go_wp2
          exact bodyPost_ret (v := .agg #[.int .i64 (T.length : Int), .int .i64 (sumP (fun x => !left (keyI x)) T)]) (by simp [results, Try.results7, go_sem, *]) rfl ⟨by rw [HU.out, HTl.out, ← HSum.out], by first | exact HC.out | exact (HC.out.setCell (Or.inr (Nat.le_refl _)) _).setCell (Or.inr (Nat.le_refl _)) _⟩
        · intro x c w6 cnt6 hwx hwc hlx hat hrg6 hlt6 hg6 hs6 hen
          have hxm : x ∈ T.map Prod.fst := by
            have := hlf _ hlx
            have h2 := hs.has x
            unfold keyI at h2
            rw [this] at h2
            exact of_decide_eq_true h2.symm
          obtain ⟨q, hq, rfl⟩ := List.mem_map.1 hxm
          have hqc : q.2 = c := by
            have := hs.at' q hq
            unfold keyI at this
            rw [hat] at this
            injection this with this
            injection this with _ this
            exact this.symm
          subst hqc
          have hqb := t3 q hq
          have HStep : Hid (sumP (fun y => !(fun z : Lit => left z && !z.sameKey (.int .i64 q.1)) (keyI y)) T = sumP (fun y => !left (keyI y)) T + q.2) := by
            refine sumP_step hs.nodup hq (by show (!left (keyI q.1)) = false; unfold keyI; rw [hlx]; rfl) (fun y => ?_)
            show (!(left (keyI y) && !(keyI y).sameKey (.int .i64 q.1))) = (!left (keyI y) || y == q.1)
            by_cases e : y = q.1
            · subst e
              have : (keyI q.1).sameKey (.int .i64 q.1) = true := WideAt.sameKey_self (keyI_key q.1)
              rw [this]
              simp
            · have : (keyI y).sameKey (.int .i64 q.1) = false := Maps.sameKey_ne (fun h => e (keyI_inj h))
              have he : (y == q.1) = false := by simpa using e
              rw [this, he]
              simp
          have hu6 := (hg6.block _ (Array.getElem?_eq_some_iff.1 hu).1 (by intro e; injection e with e; omega)).trans hu
          have hr6 := (hg6.block _ (Array.getElem?_eq_some_iff.1 hr).1 (by intro e; injection e with e; omega)).trans hr
          have hc6 := grown_chg hc hg6 (by omega)
          clear hu hr hc hg6 hat hwx hwc hxm m0 m1 f0 f1
          obtain ⟨m0, m1, f0, f1⟩ := duoU hu6
          generalize hZ : sumP (fun y => !left (keyI y)) T = Z at *
          have HZ : Hid (sumP (fun y => !left (keyI y)) T = Z) := hZ
          clear hZ
          have hwr : IntKind.i64.wrap (Z + q.2) = Z + q.2 := by rw [IntKind.wrap_i64]; omega
          have HU7 : Hid ((w6.setCell ⟨R, 1, none⟩ (.int .i64 (Z + q.2))).heap[R]? = some (.cells #[.int .i64 (T.length : Int), .int .i64 (Z + q.2)] 25 (0, 0))) := duoU_set1 hu6
          have HR7 : Hid ((w6.setCell ⟨R, 1, none⟩ (.int .i64 (Z + q.2))).heap[w.heap.size]? = some (.cells #[.int .i64 0, .int .i64 0] 25 (0, 0))) := (Below.heap_setCell _ _ _ _ (by simp only; omega)).trans hr6
          have HC7 : Hid (Chg 0 0 w (w6.setCell ⟨R, 1, none⟩ (.int .i64 (Z + q.2)))) := hc6.setCell (Or.inr (by simp only; omega)) _
          have HG7 : Hid ((w6.setCell ⟨R, 1, none⟩ (.int .i64 (Z + q.2))).ranges Try.prog 2 (plainElem Try.prog 2) (w.heap.size + 1) (R + 1) n D (fun z => left z && !z.sameKey (.int .i64 q.1)) cnt6) := hrg6.kept (row := some R) ⟨rfl, rfl, rfl, by simp [World.setCell], fun k hk hne => Below.heap_setCell _ _ _ _ (fun e => hne (by rw [e]))⟩ (by intro e; injection e with e; omega) (by intro e; injection e with e; omega)
          have HL7 : Hid (∀ kl, (fun z : Lit => left z && !z.sameKey (.int .i64 q.1)) kl = true → Maps.has D kl = true) := fun kl h => hlf kl (by simp at h; exact h.1)
          clear hu6 hr6 hc6 hrg6 hlf
          go_wp2
          go_roundw
          case rel => exact ⟨_, cnt6, HG7.out, HL7.out, by rw [HStep.out]; exact HU7.out, HR7.out, HC7.out⟩
          case measure => rw [HG7.out.left_eq, hli]; omega

theorem implCount_calls (w : World) {lo hi : Nat} {a : Value} {ts : List Nod} (hz : SizedN ts) (h1 : NView w lo hi a ts) :
    Calls Try.prog 7 #[a] w fun e w' => e = .returned (.agg #[.int .i64 (cntU ts).1, .int .i64 (cntU ts).2]) ∧ Chg 0 0 w w' := by
  obtain ⟨ao, cap, rfl, hl, _, h1⟩ := h1
  by_cases h : 10000 < ts.length
  · rw [show cntU ts = (0, 0) from if_pos h]
    exact implCount_big w ts.length ao cap h hl
  · refine implCount_in w ts ao cap (by omega) hz ?_
    rcases h1 with h1 | ⟨b, off, hao, _, _, h1⟩
    · exact Or.inl h1
    · exact Or.inr ⟨b, off, hao, h1⟩

end Go.Proofs.Ytccmeggnkeenoaa
