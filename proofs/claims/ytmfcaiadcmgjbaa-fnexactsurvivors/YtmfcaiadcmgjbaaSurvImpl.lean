/- What survives, in the program: the revokes taken out. -/
import Derived.Test.YtmfcaiadcmgjbaaSurvLast
namespace Go.Proofs.Ytmfcaiadcmgjbaa
open Go.RowKit

set_option maxRecDepth 20000 in
set_option maxHeartbeats 4000000 in
theorem implSurv_yes (w : World) {lo hi : Nat} {a : Value} {ts : List Tx} (hl : cntTS ts ≤ 1048576) (h1 : TSView w lo hi a ts) (hb : canB ts = true)
    (hwR : ∀ i, i < ts.length → ∀ x ∈ (ts.getD i Tx.none).revs, (Lit.int .i64 x).wf = true) (hwH : ∀ i, i < ts.length → ∀ p ∈ (ts.getD i Tx.none).homes, (Lit.int .i64 p.1).wf = true) :
    Calls Try.prog 7 #[a] w fun e w' => SurvAns w w' (survL ts) e := by
  have K := Maps.int_keyed (P := Try.prog) (k := 2) Try.underlying2
  obtain ⟨_, hL, hN⟩ := survO_yes hb
  have hF := canFold_calls w hl h1
  rw [hb] at hF
  have HT : Hid (TSView w lo hi a ts) := h1
  obtain ⟨ao, cap, rfl⟩ := h1.slice
  clear h1 hb
  go_enter Try.func7, Try.ntmps7
  go_wp2_with fail
  refine hF.mono ?_
  rintro e w1 ⟨rfl, c1⟩
  have HC1 : Hid (Chg 0 0 w w1) := c1
  have s1 := c1.size
  have hC := lastCopies_calls w1 hN hL hwH (HT.out.chg c1 (by omega))
  clear c1 hF
  go_wp2_with fail
  refine hC.mono ?_
  rintro e w2 ⟨rfl, ⟨f, hcm⟩, c2⟩
  have s2 := c2.size
  obtain ⟨hown, hsays, hseen⟩ := hcm
  have HLM : Hid (LefM w2 w1.heap.size f) := hown
  have hml := HLM.out.lt
  have HSA : Hid (∀ x, (f x).map (fun c => (c.1, c.2.2)) = copsL ts x) := hsays
  have HSE : Hid (∀ x c, f x = some c → View w1 lo hi .u8 c.2.1 c.2.2) := hseen
  have HC2 : Hid (Chg 0 0 w w2) := HC1.out.trans c2
  have HC12 : Hid (Chg 0 0 w1 w2) := c2
  have hR := lastRevokes_calls w2 hN hL hwR (HT.out.chg HC2.out (by omega))
  clear hC hown hsays hseen c2
  go_wp2_with fail
  refine hR.mono ?_
  rintro e w3 ⟨rfl, ⟨n, D, hm, hn, hsr⟩, c3⟩
  have s3 := c3.size
  have hrl := hm.lt
  have HC3 : Hid (Chg 0 0 w1 w3) := HC12.out.trans c3
  have HLM3 : Hid (LefM w3 w1.heap.size f) := by
    obtain ⟨nn, DD, q1, q2, q3⟩ := HLM.out
    obtain ⟨es, clock, hb, Ft, hs, hD⟩ := q1
    exact ⟨nn, DD, ⟨es, clock, (c3.block _ hml (by omega)).trans hb, Ft, hs, hD⟩, q2, q3⟩
  have HM : Hid (w3.ownsMap Try.prog 2 (plainElem (H := Unit) Try.prog 3) w2.heap.size n D) := hm
  have HSR : Hid (SaysF (.lit (.int .i64 0)) D (fun x => (revsL ts x).map fun p => .lit (.int .i64 (p : Nat)))) := hsr
  clear hR hm hsr c3
  go_wp2_with (at_range; refine wpList_range_own _ rfl _ 49 rfl 2 3 K Try.underlying49 _ w2.heap.size n D rfl HM.out ?_)
  intro w4 hrg4 hg4 hs4
  have HC4 : Hid (Chg 0 0 w1 w4) := HC3.out.trans (Chg.ofGrown (lo := 0) (hi := 0) hg4 (by simp))
  have HLM4 : Hid (LefM w4 w1.heap.size (leftC f (revsL ts) (fun x => !Maps.has D (kI x)))) := (HLM3.out.kept hg4 (by simp)).congr (fun x => by
    unfold leftC
    cases hf : f x with
    | none => rfl
    | some c =>
      have : ¬ ((!Maps.has D (kI x)) = true ∧ ∃ q, revsL ts x = some q ∧ c.1 < q) := by
        rintro ⟨h1, q, h2, _⟩
        rw [HSR.out.has x, h2] at h1
        cases h1
      exact (if_neg this).symm)
  have HRG : Hid (w4.ranges Try.prog 2 (plainElem Try.prog 3) w2.heap.size w3.heap.size n D (Maps.has D) (Maps.size D)) := hrg4
  clear hrg4 hg4 HM HLM HLM3
  go_wp2
  go_loopw [4, 5, 7] (fun _ _ _ wr => ∃ (left : Lit → Bool) (cnt : Nat), wr.ranges Try.prog 2 (plainElem Try.prog 3) w2.heap.size w3.heap.size n D left cnt ∧ (∀ kl, left kl = true → Maps.has D kl = true) ∧ LefM wr w1.heap.size (leftC f (revsL ts) (fun x => !left (kI x))) ∧ Chg 0 0 w1 wr) (fun _ _ _ wr => wr.rangeLeft w2.heap.size w3.heap.size)
  case atStart => exact ⟨_, _, HRG.out, fun _ h => h, HLM4.out, HC4.out⟩
  case round =>
    clear HRG HLM4 HC4 HC3 HC2 HC12 hs4
    obtain ⟨left, cnt, hrg, hlf, hlm, hch⟩ := hrel
    have HRG : Hid (wr.ranges Try.prog 2 (plainElem Try.prog 3) w2.heap.size w3.heap.size n D left cnt) := hrg
    have hli := hrg.left_eq
    have HLM : Hid (LefM wr w1.heap.size (leftC f (revsL ts) (fun x => !left (kI x)))) := hlm
    have HC : Hid (Chg 0 0 w1 wr) := hch
    clear hrg hlm hch
    go_wp2_with (at_next; refine wpList_next_ranges_ii _ rfl _ rfl 2 3 .i64 .i64 K Try.underlying2 Try.underlying3 w2.heap.size w3.heap.size n D left cnt rfl HRG.out ?_ ?_)
    · intro hc0 hl0
      have HLK : Hid (LefM wr w1.heap.size (leftC f (revsL ts) (fun _ => true))) := by
        have e : (fun x => !left (kI x)) = (fun _ : Int => true) := funext fun x => by rw [hl0]; rfl
        rw [← e]; exact HLM.out
      clear HRG HLM hlf hli hl0 hc0 HSR
      obtain ⟨n5, D5, m5, l5, y5⟩ := HLK.out
      have hml5 := m5.lt
      have hKeys := keys_calls (some w1.heap.size) wr
      have hSort := sorted_calls m5 l5
      have HY5 : Hid (SaysF zC D5 (fun y => (leftC f (revsL ts) (fun _ => true) y).map cpD)) := y5
      have HM5 : Hid (wr.ownsMap Try.prog 2 rC w1.heap.size n5 D5) := m5
      clear m5 y5 HLK
      go_wp2_with fail
      refine hKeys.mono ?_
      rintro e w7 ⟨rfl, rfl⟩
      clear hKeys
      go_wp2_with fail
      refine hSort.mono ?_
      rintro e w8 ⟨v, ks, rfl, ⟨k1, k2, k3, k4⟩, hrow, c8⟩
      have s8 := c8.size
      have HC8 : Hid (Chg 0 0 w1 w8) := HC.out.trans c8
      have HM8 : Hid (w8.ownsMap Try.prog 2 rC w1.heap.size n5 D5) := by
        obtain ⟨es, clock, hb, Ft, hs, hD⟩ := HM5.out
        exact ⟨es, clock, (c8.block _ hml5 (by omega)).trans hb, Ft, hs, hD⟩
      have HK : Hid (survL ts = ks.map fun b => (b, (keptL ts b).getD [])) := surv_keys ts k1 (fun b => by
        rw [k2, HY5.out.has b, ← leftC_all HSA.out (S := fun _ => true) (fun _ _ => rfl) b]
        cases leftC f (revsL ts) (fun _ => true) b <;> simp)
      have HKF : Hid (∀ b, b ∈ ks → ∃ c, leftC f (revsL ts) (fun _ => true) b = some c ∧ (keptL ts b).getD [] = c.2.2 ∧ View w1 lo hi .u8 c.2.1 c.2.2 ∧ c.2.2.length ≤ 1048576) := fun b hb => by
        have hh := (k2 b).1 hb
        rw [HY5.out.has b] at hh
        have hk := leftC_all HSA.out (S := fun _ => true) (fun _ _ => rfl) b
        cases hc : leftC f (revsL ts) (fun _ => true) b with
        | none => rw [hc] at hh; simp at hh
        | some c =>
          rw [hc] at hk
          have hf : f b = some c := by
            unfold leftC at hc
            cases hfb : f b with
            | none => rw [hfb] at hc; cases hc
            | some c' =>
              rw [hfb] at hc
              simp only at hc
              split at hc
              · cases hc
              · exact hc
          have hco := HSA.out b
          rw [hf] at hco
          exact ⟨c, rfl, by rw [← hk]; rfl, HSE.out b c hf, Nat.le_trans (copsL_len hco.symm) hl⟩
      have HW : Hid (∀ x ∈ ks, (Lit.int .i64 x).wf = true) := k4
      have HRow : Hid (w8.ownsRow (wr.heap.size + 1) 2 1 v ks.length (ks.map (Value.int .i64))) := hrow
      obtain ⟨va, vc, rfl⟩ : ∃ a c, v = .slice a ks.length c := by
        rcases hrow.2 with ⟨rfl, h0⟩ | ⟨g, cap, cur, rfl, _⟩
        · exact ⟨_, _, by rw [h0]⟩
        · exact ⟨_, _, rfl⟩
      clear hSort k1 k2 k4 hrow c8 HM5 HSA HSE HC
      go_wp2
      go_loopw [43, 8, 10] (fun x hv _ wq => ∃ (k : Nat) (es : List Hv), k ≤ ks.length ∧ x = .int .i64 k ∧ OwnHs wq w8.heap.size hv es ∧ es.map (fun e => (e.1, e.2.2)) = (ks.take k).map (fun b => (b, (keptL ts b).getD [])) ∧ Chg 0 0 w8 wq) (fun x _ _ _ => ks.length - (RowKit.intOf x).toNat)
      case atStart => exact ⟨0, [], Nat.zero_le _, rfl, OwnHs.zero _ _, rfl, Chg.refl 0 0 _⟩
      case round =>
        obtain ⟨k, es, hk, rfl, hO, hE, hc⟩ := hrel
        obtain ⟨ha, hn', hcp, rfl⟩ := hO.slice
        have hel : es.length = k := by have := congrArg List.length hE; simpa [Nat.min_eq_left hk] using this
        have HO : Hid (OwnHs wr w8.heap.size (.slice ha hn' hcp) es) := hO
        have HE : Hid (es.map (fun e => (e.1, e.2.2)) = (ks.take k).map (fun b => (b, (keptL ts b).getD []))) := hE
        have HC : Hid (Chg 0 0 w8 wr) := hc
        have sr := hc.size
        clear hO hE hc
        by_cases hlt : k < ks.length
        · obtain ⟨g, rfl⟩ : ∃ g, va = some ⟨g, 0, none⟩ := by
            rcases HRow.out.2 with ⟨_, h0⟩ | ⟨g, cap, cur, e, _⟩
            · omega
            · injection e with e1 _ _; exact ⟨g, e1⟩
          have hk' : (k : Int) < (ks.length : Int) := by omega
          have hgl := (World.ownsRow.lt HRow.out g rfl)
          have c0 : wr.cell? ⟨g, k, none⟩ = some (.int .i64 (ks.getD k 0)) := HC.out.cell (by
            rw [World.ownsRow.cellAt HRow.out k (by simpa using hlt)]
            simp [List.getD_eq_getElem?_getD, hlt]) (by omega)
          have hmem : ks.getD k 0 ∈ ks := by rw [List.getD_eq_getElem?_getD, List.getElem?_eq_getElem hlt]; exact List.getElem_mem hlt
          have HTk : Hid (ks.take (k + 1) = ks.take k ++ [ks.getD k 0]) := by
            show _ = _
            rw [List.take_succ_eq_append_getElem hlt, List.getD_eq_getElem?_getD, List.getElem?_eq_getElem hlt]; rfl
          have hwx := HW.out _ hmem
          obtain ⟨⟨pc, dv, xs⟩, e1, e2, e3, e4⟩ := HKF.out _ hmem
          generalize ks.getD k 0 = b at *
          simp only at e2 e3 e4
          have hmr : wr.ownsMap Try.prog 2 rC w1.heap.size n5 D5 := by
            obtain ⟨es, clock, hb, Ft, hs, hD⟩ := HM8.out
            exact ⟨es, clock, (HC.out.block _ (by omega) (by omega)).trans hb, Ft, hs, hD⟩
          have hlk := look_one hmr HY5.out hwx e1
          have hcl := clone_calls wr e4 (e3.chg (HC8.out.trans HC.out) (by omega))
          obtain ⟨da, dc, rfl⟩ := e3.slice
          have HE2 : Hid ((keptL ts b).getD [] = xs) := e2
          have hfd := field_copy wr (pc : Nat) da xs.length dc
          clear e1 e2 e3 hmr hmem
          go_wp2_with fail
          refine hcl.mono ?_
          rintro e w9 ⟨cv, rfl, hd9, c9⟩
          obtain ⟨ca, cn, cc, rfl⟩ : ∃ a n c, cv = .slice a n c := by
            rcases hd9.2 with ⟨rfl, _⟩ | ⟨g, cap, cur, rfl, _⟩
            · exact ⟨_, _, _, rfl⟩
            · exact ⟨_, _, _, rfl⟩
          have s9 := c9.size
          have HO9 : Hid (OwnHs w9 w8.heap.size (.slice ha hn' hcp) es) := HO.out.chg c9 (by omega)
          have HC9 : Hid (Chg 0 0 wr w9) := c9
          have HD9 : Hid (OwnB w9 wr.heap.size 5 (.slice ca cn cc) xs) := hd9
          clear hcl hlk hfd c9 hd9 c0
          go_wp2_with (at_builtin; refine wpList_app_h1 xs rfl (.tmp 47) (.tmp 55) rfl w8.heap.size _ es rfl HO9.out.row (by omega) rfl (by omega) ⟨_, _, _, rfl⟩ ?_)
          intro g5 cp5 w10 r5 ho5 hc5 hk5
          have HO10 : Hid (OwnHs w10 w8.heap.size (.slice (some ⟨g5, 0, none⟩) (k + 1) cp5) (es ++ [((b, Value.slice ca cn cc, xs) : Hv)])) := HO.out.more (by omega) HD9.out HC9.out ho5 hc5 hk5
          have HC10 : Hid (Chg 0 0 w8 w10) := ((HC.out.trans HC9.out).alloc _).step hc5 (Or.inr (Or.inl (Nat.le_refl _)))
          have HE10 : Hid ((es ++ [((b, Value.slice ca cn cc, xs) : Hv)]).map (fun e : Hv => (e.1, e.2.2)) = (ks.take (k + 1)).map (fun b => (b, (keptL ts b).getD []))) := by
            show _ = _
            rw [HTk.out, List.map_append, List.map_append, HE.out]
            simp only [List.map_cons, List.map_nil, HE2.out]
          clear ho5 hc5 hk5 HO9 HC9 HD9 HTk HE2 HE
          go_wp2
          go_roundw
          case rel => exact ⟨k + 1, es ++ [((b, Value.slice ca cn cc, xs) : Hv)], by omega, by go_num, HO10.out, HE10.out, HC10.out⟩
          case measure => simp [RowKit.intOf]; omega
        · obtain rfl : k = ks.length := by omega
          have hk' : ¬ ((ks.length : Int) < (ks.length : Int)) := by omega
          have HR : Hid (OwnHs wr w.heap.size (.slice ha hn' hcp) es) := HO.out.low (by omega)
          have HC9 : Hid (Chg 0 0 w wr) := HC1.out.trans (HC8.out.trans HC.out)
          have HE2 : Hid (es.map (fun e => (e.1, e.2.2)) = survL ts) := by
            have := HE.out
            rw [List.take_length, ← HK.out] at this
            exact this
          have hel2 : es.length ≤ 20000 := by omega
          clear HE hel HO
          go_wp2
          go_ret
          exact ⟨_, es, rfl, HR.out, HE2.out, hel2, HC9.out⟩
    · intro x c w6 cnt6 hwx hwc hlx hat hrg6 hlt6 hg6 hs6 hen
      obtain ⟨q, hq, rfl⟩ := rev_at HSR.out (hlf _ hlx) hat
      have hlm6 := HLM.out.kept hg6 (by intro e; injection e with e; omega)
      have HC6 : Hid (Chg 0 0 w1 w6) := grown_chg HC.out hg6 (by omega)
      have HRG6 : Hid (w6.ranges Try.prog 2 (plainElem Try.prog 3) w2.heap.size w3.heap.size n D (fun z => left z && !z.sameKey (.int .i64 x)) cnt6) := hrg6
      have HL6 : Hid (∀ kl, (fun z : Lit => left z && !z.sameKey (.int .i64 x)) kl = true → Maps.has D kl = true) := fun kl h => hlf kl (by simp at h; exact h.1)
      have HSt : Hid (∀ y, (!(fun z : Lit => left z && !z.sameKey (.int .i64 x)) (kI y)) = ((!left (kI y)) || y == x)) := left_step left x
      obtain ⟨n6, D6, m6, l6, y6⟩ := hlm6
      have hlk := look_atC m6 y6 hwx
      rw [leftC_new (S := fun x => !left (kI x)) (by show (!left (kI x)) = false; unfold kI; rw [hlx]; rfl)] at hlk
      have HM6 : Hid (w6.ownsMap Try.prog 2 rC w1.heap.size n6 D6) := m6
      have HY6 : Hid (SaysF zC D6 (fun y => (leftC f (revsL ts) (fun x => !left (kI x)) y).map cpD)) := y6
      have hA : ∀ o : Obj, Chg 0 0 w6 (w6.alloc o) := fun o => Chg.alloc (Chg.refl 0 0 w6) o
      have sA : ∀ o : Obj, (w6.alloc o).heap.size = w6.heap.size + 1 := fun o => by simp
      clear hlf hrg6 hg6 hat hwc m6 y6 HLM HC HRG
      cases hf : f x with
      | none =>
        rw [hf] at hlk
        have HLN : ∀ o : Obj, Hid (LefM (w6.alloc o) w1.heap.size (leftC f (revsL ts) (fun y => !(fun z : Lit => left z && !z.sameKey (.int .i64 x)) (kI y)))) := fun o =>
          (LefM.kept ⟨n6, D6, HM6.out, l6, HY6.out⟩ (World.grownBy_alloc w6 o none) (by simp)).congr fun y => (leftC_stay (fun c q h => by rw [hf] at h; cases h) HSt.out y).symm
        clear hf hq
        go_wp2
        go_roundw
        case rel => exact ⟨_, cnt6, HRG6.out.alloc _, HL6.out, (HLN _).out, HC6.out.alloc _⟩
        case measure => rw [(HRG6.out.alloc _).left_eq, hli]; omega
      | some cc =>
        obtain ⟨pc, dv, xs⟩ := cc
        rw [hf] at hlk
        obtain ⟨da, dl, dc, rfl⟩ : ∃ a l c, dv = .slice a l c := by obtain ⟨a, c, e⟩ := (HSE.out x _ hf).slice; exact ⟨_, _, _, e⟩
        simp only [Option.isSome_some] at hlk
        by_cases hcq : pc < q
        · have hcq' : (pc : Int) < (q : Int) := by omega
          have HLN : Hid (∀ y, leftC f (revsL ts) (fun y => !(fun z : Lit => left z && !z.sameKey (.int .i64 x)) (kI y)) y = if y = x then none else leftC f (revsL ts) (fun y => !left (kI y)) y) := leftC_drop hf hq hcq HSt.out
          have HMA : ∀ o : Obj, Hid ((w6.alloc o).ownsMap Try.prog 2 rC w1.heap.size n6 D6) := fun o => HM6.out.alloc o
          clear hf hq
          go_wp2_with (at_delete; refine wpList_delete_own _ rfl _ _ 47 2 rfl 52 K Try.underlying47 rC w1.heap.size n6 D6 rfl (HMA _).out _ (kI x) rfl (kI_of hwx) ?_)
          intro w7 hm7 ht7
          have hg7 := ht7.grown
          have HM7 : Hid (LefM w7 w1.heap.size (leftC f (revsL ts) (fun y => !(fun z : Lit => left z && !z.sameKey (.int .i64 x)) (kI y)))) := (LefM.drop n6 D6 l6 HY6.out hm7).congr fun y => (HLN.out y).symm
          have HC7 : Hid (Chg 0 0 w1 w7) := grown_chg (HC6.out.alloc _) hg7 (by omega)
          have HRG7 : Hid (w7.ranges Try.prog 2 (plainElem Try.prog 3) w2.heap.size w3.heap.size n D (fun z => left z && !z.sameKey (.int .i64 x)) cnt6) := (HRG6.out.alloc _).kept hg7 (by intro e; injection e with e; omega) (by intro e; injection e with e; omega)
          clear hm7 ht7 hg7 HMA HLN
          go_wp2
          go_roundw
          case rel => exact ⟨_, cnt6, HRG7.out, HL6.out, HM7.out, HC7.out⟩
          case measure => rw [HRG7.out.left_eq, hli]; omega
        · have hcq' : ¬ (pc : Int) < (q : Int) := by omega
          have HLN : ∀ o : Obj, Hid (LefM (w6.alloc o) w1.heap.size (leftC f (revsL ts) (fun y => !(fun z : Lit => left z && !z.sameKey (.int .i64 x)) (kI y)))) := fun o =>
            (LefM.kept ⟨n6, D6, HM6.out, l6, HY6.out⟩ (World.grownBy_alloc w6 o none) (by simp)).congr fun y => (leftC_stay (fun c q h h2 => by rw [hf] at h; rw [hq] at h2; cases h; cases h2; exact hcq) HSt.out y).symm
          clear hf hq
          go_wp2
          go_roundw
          case rel => exact ⟨_, cnt6, HRG6.out.alloc _, HL6.out, (HLN _).out, HC6.out.alloc _⟩
          case measure => rw [(HRG6.out.alloc _).left_eq, hli]; omega

/-- Survivors of the program. -/
theorem implSurv_calls (w : World) {lo hi : Nat} {a : Value} {ts : List Tx} (hl : cntTS ts ≤ 1048576) (h1 : TSView w lo hi a ts)
    (hwR : ∀ i, i < ts.length → ∀ x ∈ (ts.getD i Tx.none).revs, (Lit.int .i64 x).wf = true) (hwH : ∀ i, i < ts.length → ∀ p ∈ (ts.getD i Tx.none).homes, (Lit.int .i64 p.1).wf = true) :
    Calls Try.prog 7 #[a] w fun e w' => SurvAns w w' (survO ts) e := by
  cases hb : canB ts with
  | true =>
    rw [(survO_yes hb).1]
    exact implSurv_yes w hl h1 hb hwR hwH
  | false =>
    rw [survO_no hb]
    refine (implSurv_no w hl h1 hb).mono ?_
    rintro e w' ⟨rfl, c⟩
    exact ⟨_, [], rfl, OwnHs.zero _ _, rfl, by simp, c⟩

end Go.Proofs.Ytmfcaiadcmgjbaa
