/- SplitPath of the program. -/
import Derived.Test.YtlepbhekcpdddaaImplParts
import Derived.Test.YtlepbhekcpdddaaImplName
namespace Go.Proofs.Ytlepbhekcpdddaa
open Go.RowKit Go.Shelf
attribute [local go_sem] Oper.semAt_some

/-- The code of a part that is no name. -/
def ncode (p : ByteArray) : Int := if setB p = true ∧ 13 < p.size then 31 else 30

set_option maxRecDepth 20000 in
set_option maxHeartbeats 1000000 in
theorem noNameCode_calls (w : World) (p : ByteArray) :
    Calls Try.prog 13 #[.string p] w fun e w' => e = .returned (.int .i64 (ncode p)) ∧ Chg 0 0 w w' := by
  have hN := hasOnlyMarks_calls w p
  by_cases h1 : 13 < p.size
  · have e1 : (13 : Int) < (p.size : Int) := by omega
    cases hb : setB p with
    | true =>
      have Hn : Hid (ncode p = 31) := if_pos ⟨hb, h1⟩
      rw [hb] at hN
      go_enter Try.func13, Try.ntmps13
      go_wp2_with (go_at_call 18; refine hN.mono ?_; rintro e w2 ⟨rfl, hc2⟩)
      go_ret
      exact ⟨by rw [Hn.out]; rfl, hc2⟩
    | false =>
      have Hn : Hid (ncode p = 30) := if_neg (fun h => by rw [hb] at h; cases h.1)
      rw [hb] at hN
      go_enter Try.func13, Try.ntmps13
      go_wp2_with (go_at_call 18; refine hN.mono ?_; rintro e w2 ⟨rfl, hc2⟩)
      go_ret
      exact ⟨by rw [Hn.out]; rfl, hc2⟩
  · have e1 : ¬ (13 : Int) < (p.size : Int) := by omega
    have Hn : Hid (ncode p = 30) := if_neg (fun h => h1 h.2)
    go_enter Try.func13, Try.ntmps13
    go_wp2
    go_ret
    exact ⟨by rw [Hn.out]; rfl, Chg.refl _ _ _⟩

theorem badCode_pre : ∀ (pre : List ByteArray) (x : ByteArray) (r : List ByteArray), (∀ p ∈ pre, nameB p = true) → nameB x = false → badCode (pre ++ x :: r) = ncode x
  | [], x, r, _, h => by show (if nameB x = true then _ else _) = _; rw [if_neg (by rw [h]; simp)]; rfl
  | p :: pre, x, r, hp, h => by
    show (if nameB p = true then _ else _) = _
    rw [if_pos (hp p (by simp))]
    exact badCode_pre pre x r (fun q hq => hp q (by simp [hq])) h
theorem badCode_ok : ∀ (pre : List ByteArray), (∀ p ∈ pre, nameB p = true) → badCode pre = 0
  | [], _ => rfl
  | p :: pre, hp => by
    show (if nameB p = true then _ else _) = _
    rw [if_pos (hp p (by simp))]
    exact badCode_ok pre (fun q hq => hp q (by simp [hq]))
theorem ncode_ne (x : ByteArray) : ncode x ≠ 0 := by unfold ncode; split <;> omega

set_option maxHeartbeats 1000000 in
theorem partsOf_calls (w : World) (s : ByteArray) :
    Calls Try.prog 12 #[.string s] w fun e w' =>
      e = .returned (.func (.func 22) #[] #[.pointer (some ⟨w.heap.size, 0, none⟩)]) ∧ w' = w.alloc (.cells #[.string s] 9) := by
  go_enter Try.func12, Try.ntmps12
  go_wp2
  go_ret
  exact ⟨rfl, rfl⟩

/-- The result's two cells. -/
abbrev resV (w : World) (c : Int) (v : Value) (b : Nat) : Prop := w.heap[b]? = some (.cells #[.int .i64 c, v] 26 (0, 0))
theorem res_put {w : World} {b : Nat} {c c' : Int} {v v' : Value} (h : resV w c v b) : resV ((w.setCell ⟨b, 0, none⟩ (.int .i64 c')).setCell ⟨b, 1, none⟩ v') c' v' b := by
  have h' : w.heap[b]? = some (.cells #[.int .i64 c, v] 26 (0, 0)) := h
  show _ = _
  simp [World.setCell, Array.getElem?_modify, h']

theorem cell_of_duo {w : World} {b : Nat} {c : Int} {v : Value} (h : resV w c v b) : w.cell? ⟨b, 0, none⟩ = some (.int .i64 c) ∧ w.cell? ⟨b, 1, none⟩ = some v := by
  have h' : w.heap[b]? = some (.cells #[.int .i64 c, v] 26 (0, 0)) := h
  constructor <;> simp [World.cell?, h']

set_option maxRecDepth 100000 in
set_option maxHeartbeats 4000000 in
theorem splitPath_in (w : World) (s : ByteArray) (hl : s.size ≤ 240) (h2 : 2 ≤ s.size) (h47 : chr s 0 = 47) :
    Calls Try.prog 5 #[.string s] w fun e w' => ∃ nv, e = .returned (.agg #[.int .i64 (pathD s).1, nv]) ∧ OwnS w' w.heap.size 9 nv (pathD s).2 ∧ Chg 0 0 w w' := by
  obtain ⟨ti, hti, hz0, hz1, hz2⟩ := info_parts Try.infoStr
  have HD : Hid (pathD s = if badCode (partsL s) ≠ 0 then (badCode (partsL s), []) else if 16 < (partsL s).length then (30, []) else (0, partsL s)) := by
    show _ = _
    unfold pathD
    rw [if_neg (by omega), if_neg (fun h => by rw [ByteArray.toList_eq] at h; have h3 := congrArg List.length h; have h4 : s.data.toList.length = s.size := rfl; rw [h4] at h3; simp at h3; omega), parts_cut s (by omega)]
  have hlen : (partsL s).length ≤ 240 := by
    rw [← parts_cut s (by omega)]
    have := cutD_cnt (s.extract 1 s.size) 47
    rw [ByteArray.size_extract] at this
    omega
  have hS0 := fun w1 k1 => parts_stops 4 (by omega) (w.heap.size + 1 + 1) s (by omega) (by omega) h47 w1 k1
  have e47 : (s[0]'(by omega)).toNat = 47 := by rw [← chr_lt]; exact h47
  have hix : ∀ x : World, (Instr.index 9 (.string s) (.int .i64 0)).run Try.prog x = .ok (.int .u8 47) x := by
    intro x
    have h0 : s[0]? = some s[0] := getElem?_pos s 0 (by omega)
    simp [Instr.index, run_underlying Try.underlying9, asIntOf, h0, go_sem]
    exact_mod_cast e47
  refine (callsIn_wide (n := 5)).1 ?_
  refine (CallsIn.mono (R := fun e w' => ∃ nv, e = .returned (.agg #[.int .i64 (pathD s).1, nv]) ∧ OwnS w' w.heap.size 9 nv (pathD s).2 ∧ Below w.heap.size w w') ?_ fun e w' h => by obtain ⟨v, h1, h2, h4⟩ := h; exact ⟨v, h1, h2, Chg.ofBelow h4 0 0⟩)
  generalize partsL s = R at *
  have q1 : ((s.size : Int) == 0) = false := by rw [beq_eq_false_iff_ne]; omega
  have q2 : ¬ (240 : Int) < (s.size : Int) := by omega
  have q3 : ((s.size : Int) == 1) = false := by rw [beq_eq_false_iff_ne]; omega
  refine callsIn_of_wp_marks Try.func5 rfl trivial ?_ rfl
  simp only [Try.ntmps5, List.size_toArray, List.length_cons, List.length_nil, Nat.reduceAdd, Nat.reduceSub, Array.replicate_succ, Array.replicate_zero, List.push_toArray, List.append_toArray, List.nil_append, List.cons_append]
  have hR := partsOf_calls ((w.alloc (.cells #[.int .i64 0, .slice none 0 0] 26)).alloc (.cells #[.slice none 0 0] 24)) s
  gi_wp2_with (refine ⟨trivial, ?_⟩; gi_at_call 12; refine (callsIn_wide.2 hR).mono ?_; rintro e w1 ⟨rfl, rfl⟩)
  clear hR
  obtain ⟨hz, hr0, hn0, hp0⟩ := alloc3 w (.cells #[.int .i64 0, .slice none 0 0] 26) (.cells #[.slice none 0 0] 24) (.cells #[.string s] 9)
  have hB0 : Below w.heap.size w (((w.alloc (.cells #[.int .i64 0, .slice none 0 0] 26)).alloc (.cells #[.slice none 0 0] 24)).alloc (.cells #[.string s] 9)) := (Chg.alloc (Chg.alloc (Chg.alloc (Chg.refl 0 0 w) _) _) _).below (Or.inl (Nat.le_refl _))
  generalize (((w.alloc (.cells #[.int .i64 0, .slice none 0 0] 26)).alloc (.cells #[.slice none 0 0] 24)).alloc (.cells #[.string s] 9)) = w1 at *
  have hS := hS0 w1 (Boxed.cell hp0)
  refine wpIn_rangeFunc_ownH rfl (by omega) (gf := 22) (lb := #[.pointer (some ⟨w.heap.size + 1 + 1, 0, none⟩)]) rfl trivial (enters_of Try.func22 (by kernel_rfl) rfl)
    hS KeepPt.trans (KeepPt.put (by omega)) (Below.refl _ _) (fun _ => rfl)
    (fun pre W => ((∃ v, Boxed W (w.heap.size + 1) 24 v ∧ OwnS W (w.heap.size + 3) 9 v pre) ∧ resV W 0 (.slice none 0 0) w.heap.size ∧ w.heap.size + 3 ≤ W.heap.size ∧ ∀ p ∈ pre, nameB p = true) ∧ Below w.heap.size w W)
    (fun c pre W => (c = .ret ∧ ∃ pre' x, pre = pre' ++ [x] ∧ (∀ p ∈ pre', nameB p = true) ∧ nameB x = false ∧ resV W (ncode x) (.slice none 0 0) w.heap.size) ∧ Below w.heap.size w W)
    ?hI ?hIx ⟨⟨⟨_, hn0, ⟨rfl, Or.inl ⟨rfl, rfl⟩⟩⟩, hr0, by omega, by simp⟩, hB0⟩
    (fun x a' W => a' = { tmps := #[.string s, undef, .pointer (some ⟨w.heap.size, 0, none⟩), .pointer (some ⟨w.heap.size + 1, 0, none⟩), .string x, .string s, .int .i64 (s.size : Int), .bool false, .bool false, .string s, .int .i64 (s.size : Int), .bool false, .bool false, .bool false, .string s, .int .u8 47, .bool false, .bool false, undef, .string s, .int .i64 (s.size : Int), .bool false, undef, .string s,
        .func (.func 22) #[] #[.pointer (some ⟨w.heap.size + 1 + 1, 0, none⟩)], .string x, undef, undef, undef, undef, undef, undef, undef, undef, undef, undef, undef, undef, undef, undef, undef, undef], defers := [] })
    ?hAx ?assign ?body ?done ?stop
  case hI => exact OwnFrom.and (Own.from (fun s A B row hs hg hr => by
      obtain ⟨⟨v, h1, h2⟩, h3, h4, h5⟩ := hs
      refine ⟨⟨v, cells_keep h1 hg hr, ⟨h2.1, ?_⟩⟩, cells_keep h3 hg hr, Nat.le_trans h4 hg.size, h5⟩
      rcases h2.2 with h2 | ⟨g, cap, cur, hv, hg', hh, r⟩
      · exact Or.inl h2
      · exact Or.inr ⟨g, cap, cur, hv, hg', cells_keep hh hg hr, r⟩) _) (ownFrom_below (Nat.le_refl _) (by omega))
  case hIx => exact fun c => OwnFrom.and (Own.from (fun s A B row hs hg hr => by obtain ⟨h1, p', x, h2, h3, h4, h5⟩ := hs; exact ⟨h1, p', x, h2, h3, h4, cells_keep h5 hg hr⟩) _) (ownFrom_below (Nat.le_refl _) (by omega))
  case hAx => exact fun x a' => Own.from (fun s A B row hs hg hr => hs) _
  case assign =>
    rintro l pre x W K h hK
    simp only [encPt]
    gi_wp2
    exact hK _ _ ((KeepsOthers.refl _).from _) ⟨rfl, KeepsWalks.refl _⟩ h rfl
  case body =>
    rintro l pre x a' W hl2 ⟨r, hr⟩ ⟨⟨⟨v, hb, ho⟩, hres, hsW, hpn⟩, hB⟩ rfl hpl
    have hN := validName_any W x
    cases hx : nameB x with
    | true =>
      rw [hx] at hN
      gi_wp2_with (first
        | (refine ⟨trivial, ?_⟩; gi_at_call 7; refine ((callsIn_wide.2 hN).inRound l).mono ?_; rintro e w2 ⟨rfl, hc2⟩; clear hN; have hlb := (Array.getElem?_eq_some_iff.1 hb).1; have hb2 : Boxed w2 (w.heap.size + 1) 24 v := (hc2.block _ hlb (by omega)).trans hb; have c2 := Boxed.cell hb2; have hbA := Boxed.alloc hb2 (.cells #[.string x] 9);
            have hoA : OwnS (w2.alloc (.cells #[.string x] 9)) (w.heap.size + 3) 9 v pre := (ho.chg hc2 (by intro g _; omega)).chg (Chg.alloc (Chg.refl 0 0 w2) _) (by intro g _; omega);
            have hnew : ∀ j u, [Value.string x][j]? = some u → (w2.alloc (.cells #[.string x] 9)).cell? ((⟨w2.heap.size, 0, none⟩ : Addr).add j) = some u := by
              intro j u hj
              have hn := heap_new w2 (.cells #[.string x] 9)
              rw [Go.WideShapes.add_plain, Nat.zero_add]
              simp only [World.cell?, hn]
              simpa using hj
            )
        | (gi_at_builtin; refine wpListIn_append_own _ rfl (.tmp 32) (.tmp 34) 24 rfl (w.heap.size + 3) 9 ti (.string ⟨#[]⟩) 1 16 Try.underlying24 hti hz0 hz1 hz2 rfl (by decide) v pre.length _ rfl hoA ⟨w2.heap.size, 0, none⟩ 1 1 [.string x] rfl rfl hnew (by simp [Value.oneCell']) (by unfold maxLen; omega) (by omega) (by simp; have := hc2.size; omega) ?_; intro v' w3 hown hgrow _; obtain ⟨g', cap', rfl⟩ := ownsRow_succ hown; have hgne : ∀ k, v.ownBlock = some k → w.heap.size + 3 ≤ k := fun k hk => (ho.lt k hk).1; have hb3 : Boxed w3 (w.heap.size + 1) 24 v := hbA.kept hgrow (fun e => by have := hgne _ e.symm; omega); have d2 := Boxed.cell hb3; have d3 := Boxed.frozen hb3))
      have hs2 := hc2.size
      have hs3 := hgrow.size
      have hsA : (w2.alloc (.cells #[.string x] 9)).heap.size = w2.heap.size + 1 := by simp
      have hg4 : w.heap.size + 3 ≤ g' := by
        rcases hown.2 with ⟨h, _⟩ | ⟨g, cap, cur, hv, hg, _⟩
        · cases h
        · cases hv; exact hg
      have hO : KeepsOthers W (w3.setCell ⟨w.heap.size + 1, 0, none⟩ (.slice (some ⟨g', 0, none⟩) (pre.length + 1) cap')) := by
        refine (((KeepsOthers.of_grownBy hc2.grown0 (by simp)).trans (KeepsOthers.alloc _ _)).trans (KeepsOthers.of_grownBy hgrow ?_)).trans (KeepsOthers.setCell _ _ _)
        intro j o hj ho'
        rcases hoA.2 with ⟨h, _⟩ | ⟨g, cap, cur, hv, hg, hh, _⟩
        · rw [h] at hj; cases hj
        · rw [hv] at hj; cases hj
          rw [hh] at ho'; cases ho'; rfl
      have hold : ∀ k, k < w.heap.size + 3 → k ≠ w.heap.size + 1 → (w3.setCell ⟨w.heap.size + 1, 0, none⟩ (.slice (some ⟨g', 0, none⟩) (pre.length + 1) cap')).heap[k]? = W.heap[k]? := fun k hk hne =>
        (Below.heap_setCell _ _ _ _ (by simp only; omega)).trans ((hgrow.block k (by omega) (fun e => by have := hgne _ e.symm; omega)).trans ((Below.heap_alloc _ _ _ (by omega)).trans (hc2.block k (by omega) (by omega))))
      refine ⟨hO.from _, ⟨hold _ (by omega) (by omega), hO.walks⟩, ⟨⟨_, Boxed.set _ hb3, ?_⟩, (hold _ (by omega) (by omega)).trans hres, by simp only [World.setCell, Array.size_modify]; omega, ?_⟩, ?_⟩
      · have hF : OwnS w3 (w.heap.size + 3) 9 (.slice (some ⟨g', 0, none⟩) (pre.length + 1) cap') (pre ++ [x]) := by
          unfold OwnS
          rw [List.map_append, List.length_append]
          exact hown
        exact hF.chg (Chg.setCell (Chg.refl (w.heap.size + 1) (w.heap.size + 1 + 1) w3) (p := ⟨w.heap.size + 1, 0, none⟩) (Or.inl ⟨Nat.le_refl _, Nat.lt_succ_self _⟩) _) (fun g hg => by simp [Value.ownBlock] at hg; omega)
      · intro p hp
        rcases List.mem_append.1 hp with hp | hp
        · exact hpn p hp
        · rw [List.mem_singleton.1 hp]; exact hx
      · exact (((hB.trans ((hc2.below (Or.inl (Nat.le_refl _))).mono (by omega))).alloc (by omega) _).trans ((Below.refl _ _).grown hgrow (by omega) (fun k e => by have := hgne k e; omega))).setCell (p := ⟨w.heap.size + 1, 0, none⟩) (by simp only; omega) _
    | false =>
      have hN2 := fun W' => noNameCode_calls W' x
      rw [hx] at hN
      have hNc := ncode_ne x
      have Hx : Hid (nameB x = false) := hx
      gi_wp2_with (first
        | (refine ⟨trivial, ?_⟩; gi_at_call 7; refine ((callsIn_wide.2 hN).inRound l).mono ?_; rintro e w2 ⟨rfl, hc2⟩; clear hN)
        | (refine ⟨trivial, ?_⟩; gi_at_call 13; refine ((callsIn_wide.2 (hN2 w2)).inRound l).mono ?_; rintro e w3 ⟨rfl, hc3⟩; clear hN2; have hlb := (Array.getElem?_eq_some_iff.1 hres).1; have hres3 : resV w3 0 (.slice none 0 0) w.heap.size := ((hc2.trans hc3).block _ hlb (by omega)).trans hres; have k0 : w3.cell? ⟨w.heap.size, 0, none⟩ = some (.int .i64 0) := (by simp [World.cell?, hres3]); have k1 : w3.cell? ⟨w.heap.size, 1, none⟩ = some (.slice none 0 0) := (by simp [World.cell?, hres3]); have f0 : w3.frozen? ⟨w.heap.size, 0, none⟩ = false := (by simp [World.frozen?, hres3]); have f1 : w3.frozen? ⟨w.heap.size, 1, none⟩ = false := (by simp [World.frozen?, hres3])))
      have hO : KeepsOthers W ((w3.setCell ⟨w.heap.size, 0, none⟩ (.int .i64 (ncode x))).setCell ⟨w.heap.size, 1, none⟩ (.slice none 0 0)) :=
        ((KeepsOthers.of_grownBy (hc2.trans hc3).grown0 (by simp)).trans (KeepsOthers.setCell _ _ _)).trans (KeepsOthers.setCell _ _ _)
      exact ⟨hO.from _, ⟨rfl, pre, x, rfl, hpn, Hx.out, res_put hres3⟩, ((hB.trans (((hc2.trans hc3).below (Or.inl (Nat.le_refl _))).mono (by omega))).setCell (p := ⟨w.heap.size, 0, none⟩) (Nat.le_refl _) _).setCell (p := ⟨w.heap.size, 1, none⟩) (Nat.le_refl _) _⟩
  case done =>
    rintro D ys' W hD rfl ⟨⟨⟨v, hb, ho⟩, hres, hsW, hpn⟩, hB⟩ hK
    have c2 := Boxed.cell hb
    have k0 : W.cell? ⟨w.heap.size, 0, none⟩ = some (.int .i64 0) := by simp [World.cell?, hres]
    have k1 : W.cell? ⟨w.heap.size, 1, none⟩ = some (.slice none 0 0) := by simp [World.cell?, hres]
    have f0 : W.frozen? ⟨w.heap.size, 0, none⟩ = false := by simp [World.frozen?, hres]
    have f1 : W.frozen? ⟨w.heap.size, 1, none⟩ = false := by simp [World.frozen?, hres]
    have hbk := badCode_ok ys' hpn
    obtain ⟨va, vl, vc, rfl⟩ : ∃ va vl vc, v = .slice va vl vc := by
      rcases ho.2 with ⟨h, _⟩ | ⟨g, cap, cur, hv, _⟩
      · exact ⟨_, _, _, h⟩
      · exact ⟨_, _, _, hv⟩
    have hvl : vl = ys'.length := by
      rcases ho.2 with ⟨h, h0⟩ | ⟨g, cap, cur, hv, _⟩
      · cases h; exact h0.symm
      · cases hv; rfl
    subst hvl
    have fin : ∀ (c : Int) (u : Value) (L : List ByteArray), pathD s = (c, L) → OwnS W w.heap.size 9 u L → ∀ (W' : World), W' = (W.setCell ⟨w.heap.size, 0, none⟩ (.int .i64 c)).setCell ⟨w.heap.size, 1, none⟩ u → (∀ g, u.ownBlock = some g → w.heap.size + 3 ≤ g) →
        W'.heap[D]? = some (.deferred (some [])) ∧ resV (W'.putObj D (.deferred none)) c u w.heap.size ∧ OwnS (W'.putObj D (.deferred none)) w.heap.size 9 u L ∧ Below w.heap.size w (W'.putObj D (.deferred none)) := by
      intro c u L _ hoL W' hW' hug
      have hK' : W'.heap[D]? = some (.deferred (some [])) := by
        rw [hW']
        exact (KeepsOthers.setCell _ ⟨w.heap.size, 1, none⟩ u).same D _ ((KeepsOthers.setCell W ⟨w.heap.size, 0, none⟩ (.int .i64 c)).same D _ hK rfl) rfl
      have hres' : resV W' c u w.heap.size := by rw [hW']; exact res_put hres
      have hDne : w.heap.size ≠ D := by intro e; subst e; rw [hres'] at hK'; cases hK'
      refine ⟨hK', (World.putObj_heap_other hDne).trans hres', ?_, ?_⟩
      · have hoW : OwnS W' w.heap.size 9 u L := by
          rw [hW']
          refine hoL.chg (l := w.heap.size) (r := w.heap.size + 1) (Chg.setCell (Chg.setCell (Chg.refl _ _ _) (p := ⟨w.heap.size, 0, none⟩) (Or.inl ⟨Nat.le_refl _, Nat.lt_succ_self _⟩) _) (p := ⟨w.heap.size, 1, none⟩) (Or.inl ⟨Nat.le_refl _, Nat.lt_succ_self _⟩) _) (fun g hg => by have := hug g hg; omega)
        exact ownsRow_putObj hoW _ hK' rfl
      · have hB' : Below w.heap.size w W' := by rw [hW']; exact (hB.setCell (p := ⟨w.heap.size, 0, none⟩) (Nat.le_refl _) _).setCell (p := ⟨w.heap.size, 1, none⟩) (Nat.le_refl _) _
        exact hB'.trans (belowK_b (w := w) (Nat.le_refl _) W' D _ _ (by omega) hK' rfl rfl)
    by_cases h16 : 16 < ys'.length
    · have Hp : Hid (pathD s = (30, [])) := by show _ = _; rw [HD.out, if_neg (by rw [hbk]; simp), if_pos h16]
      have e16 : (16 : Int) < (ys'.length : Int) := by omega
      obtain ⟨fK, fR, fO, fB⟩ := fin 30 (.slice none 0 0) [] Hp.out (OwnS.none _ _ _) _ rfl (fun g hg => by cases hg)
      gi_wp2
      refine ⟨by simp, .inl ⟨_, _, rfl, run_takeDeferred fK, ?_⟩⟩
      have m0 := cell_of_duo fR
      refine ⟨.agg #[.int .i64 30, .slice none 0 0], ?_, .slice none 0 0, by rw [Hp.out], by rw [Hp.out]; exact fO, fB⟩
      simp [results, Try.f5, go_sem, m0.1, m0.2]
    · have Hp : Hid (pathD s = (0, ys')) := by show _ = _; rw [HD.out, if_neg (by rw [hbk]; simp), if_neg h16]
      have e16 : ¬ (16 : Int) < (ys'.length : Int) := by omega
      obtain ⟨fK, fR, fO, fB⟩ := fin 0 (.slice va ys'.length vc) ys' Hp.out (ho.low (by omega)) _ rfl (fun g hg => (ho.lt g hg).1)
      gi_wp2
      refine ⟨by simp, .inl ⟨_, _, rfl, run_takeDeferred fK, ?_⟩⟩
      have m0 := cell_of_duo fR
      refine ⟨.agg #[.int .i64 0, .slice va ys'.length vc], ?_, .slice va ys'.length vc, by rw [Hp.out], by rw [Hp.out]; exact fO, fB⟩
      simp [results, Try.f5, go_sem, m0.1, m0.2]
  case stop =>
    rintro D c pre W hD hpre ⟨⟨rfl, pre', x, rfl, hpn, hx, hres⟩, hB⟩ hK
    obtain ⟨rest, hrest⟩ := hpre
    have hbc : badCode R = ncode x := by rw [← hrest, List.append_assoc]; exact badCode_pre pre' x rest hpn hx
    have Hp : Hid (pathD s = (ncode x, [])) := by show _ = _; rw [HD.out, if_pos (by rw [hbc]; exact ncode_ne x), hbc]
    have hDne : w.heap.size ≠ D := by intro e; subst e; rw [hres] at hK; cases hK
    have fR : resV (W.putObj D (.deferred none)) (ncode x) (.slice none 0 0) w.heap.size := (World.putObj_heap_other hDne).trans hres
    have m0 := cell_of_duo fR
    gi_wp2
    refine ⟨by simp, .inl ⟨_, _, rfl, run_takeDeferred hK, ?_⟩⟩
    refine ⟨.agg #[.int .i64 (ncode x), .slice none 0 0], ?_, .slice none 0 0, by rw [Hp.out], by rw [Hp.out]; exact OwnS.none _ _ _, hB.trans (belowK_b (w := w) (Nat.le_refl _) W D _ _ (by omega) hK rfl rfl)⟩
    simp [results, Try.f5, go_sem, m0.1, m0.2]

theorem res_new (w : World) : resV (w.alloc (.cells #[.int .i64 0, .slice none 0 0] 26)) 0 (.slice none 0 0) w.heap.size := heap_new w _

set_option maxRecDepth 20000 in
set_option maxHeartbeats 1000000 in
theorem splitPath_out (w : World) (s : ByteArray) (h : s.size < 1 ∨ 240 < s.size ∨ chr s 0 ≠ 47) :
    Calls Try.prog 5 #[.string s] w fun e w' => e = .returned (.agg #[.int .i64 30, .slice none 0 0]) ∧ Chg 0 0 w w' := by
  have hC : ∀ u v, Chg 0 0 w (((w.alloc (.cells #[.int .i64 0, .slice none 0 0] 26)).setCell ⟨w.heap.size, 0, none⟩ u).setCell ⟨w.heap.size, 1, none⟩ v) := fun u v => ((Chg.alloc (Chg.refl 0 0 w) _).setCell (Or.inr (Nat.le_refl _)) _).setCell (Or.inr (Nat.le_refl _)) _
  have hC1 : ∀ c v, Chg 0 0 w (w.alloc (.cells #[.int .i64 c, v] 26)) := fun c v => Chg.alloc (Chg.refl 0 0 w) _
  by_cases h0 : s.size < 1
  · have q1 : ((s.size : Int) == 0) = true := by rw [beq_iff_eq]; omega
    go_enter Try.func5, Try.ntmps5
    go_wp2
    exact bodyPost_ret (v := .agg #[.int .i64 30, .slice none 0 0]) (by simp [results, Try.results5, go_sem, *]) rfl ⟨rfl, by first | exact hC _ _ | exact hC1 _ _⟩
  · have q1 : ((s.size : Int) == 0) = false := by rw [beq_eq_false_iff_ne]; omega
    by_cases h1 : 240 < s.size
    · have q2 : (240 : Int) < (s.size : Int) := by omega
      go_enter Try.func5, Try.ntmps5
      go_wp2
      exact bodyPost_ret (v := .agg #[.int .i64 30, .slice none 0 0]) (by simp [results, Try.results5, go_sem, *]) rfl ⟨rfl, by first | exact hC _ _ | exact hC1 _ _⟩
    · have q2 : ¬ (240 : Int) < (s.size : Int) := by omega
      have h2 : chr s 0 ≠ 47 := by rcases h with h | h | h; exact absurd h h0; exact absurd h h1; exact h
      have hix : ∀ x : World, (Instr.index 9 (.string s) (.int .i64 0)).run Try.prog x = .ok (.int .u8 ((chr s 0 : Nat) : Int)) x := by
        intro x
        have h0' : s[0]? = some (s[0]'(by omega)) := getElem?_pos s 0 (by omega)
        rw [chr_lt (show 0 < s.size by omega)]
        simp [Instr.index, run_underlying Try.underlying9, asIntOf, h0', go_sem]
      have q4 : (((chr s 0 : Nat) : Int) != 47) = true := by rw [bne_iff_ne]; omega
      clear h h0 h1 h2
      generalize chr s 0 = c at *
      go_enter Try.func5, Try.ntmps5
      go_wp2
      exact bodyPost_ret (v := .agg #[.int .i64 30, .slice none 0 0]) (by simp [results, Try.results5, go_sem, *]) rfl ⟨rfl, by first | exact hC _ _ | exact hC1 _ _⟩

set_option maxRecDepth 20000 in
set_option maxHeartbeats 1000000 in
theorem splitPath_root (w : World) (s : ByteArray) (h1 : s.size = 1) (h47 : chr s 0 = 47) :
    Calls Try.prog 5 #[.string s] w fun e w' => e = .returned (.agg #[.int .i64 0, .slice none 0 0]) ∧ Chg 0 0 w w' := by
  have hC : ∀ u v, Chg 0 0 w (((w.alloc (.cells #[.int .i64 0, .slice none 0 0] 26)).setCell ⟨w.heap.size, 0, none⟩ u).setCell ⟨w.heap.size, 1, none⟩ v) := fun u v => ((Chg.alloc (Chg.refl 0 0 w) _).setCell (Or.inr (Nat.le_refl _)) _).setCell (Or.inr (Nat.le_refl _)) _
  have hC1 : ∀ c v, Chg 0 0 w (w.alloc (.cells #[.int .i64 c, v] 26)) := fun c v => Chg.alloc (Chg.refl 0 0 w) _
  have hix : ∀ x : World, (Instr.index 9 (.string s) (.int .i64 0)).run Try.prog x = .ok (.int .u8 47) x := by
    intro x
    have h0' : s[0]? = some (s[0]'(by omega)) := getElem?_pos s 0 (by omega)
    have e47 : (s[0]'(by omega)).toNat = 47 := by rw [← chr_lt]; exact h47
    simp [Instr.index, run_underlying Try.underlying9, asIntOf, h0', go_sem]
    exact_mod_cast e47
  have q1 : ((s.size : Int) == 0) = false := by rw [beq_eq_false_iff_ne]; omega
  have q2 : ¬ (240 : Int) < (s.size : Int) := by omega
  have q3 : ((s.size : Int) == 1) = true := by rw [beq_iff_eq]; omega
  clear h1 h47
  go_enter Try.func5, Try.ntmps5
  go_wp2
  exact bodyPost_ret (v := .agg #[.int .i64 0, .slice none 0 0]) (by simp [results, Try.results5, go_sem, *]) rfl ⟨rfl, by first | exact hC _ _ | exact hC1 _ _⟩

theorem implSplitPath_calls (w : World) (s : ByteArray) (_hl : s.size ≤ 1048576) :
    Calls Try.prog 5 #[.string s] w fun e w' => ∃ nv, e = .returned (.agg #[.int .i64 (pathD s).1, nv]) ∧ OwnS w' w.heap.size 9 nv (pathD s).2 ∧ Chg 0 0 w w' := by
  by_cases h : s.size < 1 ∨ 240 < s.size ∨ chr s 0 ≠ 47
  · have e : pathD s = (30, []) := by unfold pathD; rw [if_pos h]
    rw [e]
    refine (splitPath_out w s h).mono ?_
    rintro e w' ⟨rfl, hc⟩
    exact ⟨_, rfl, OwnS.none _ _ _, hc⟩
  · have h47 : chr s 0 = 47 := Classical.not_not.1 (fun h' => h (Or.inr (Or.inr h')))
    by_cases h1 : s.size = 1
    · have e : pathD s = (0, []) := by
        unfold pathD
        rw [if_neg h, if_pos]
        rw [ByteArray.toList_eq]
        have h3 : s.data.toList.length = 1 := h1
        match hd : s.data.toList, h3 with
        | [x], _ =>
          have hc : chr s 0 = x.toNat := by
            rw [chr_lt (by omega)]
            congr 1
            have : s.data[0]'(by show 0 < s.size; omega) = x := by rw [← Array.getElem_toList]; simp [hd]
            exact this
          rw [hc] at h47
          congr 1
          exact UInt8.toNat_inj.1 h47
      rw [e]
      refine (splitPath_root w s h1 h47).mono ?_
      rintro e w' ⟨rfl, hc⟩
      exact ⟨_, rfl, OwnS.none _ _ _, hc⟩
    · exact splitPath_in w s (by omega) (by omega) h47

end Go.Proofs.Ytlepbhekcpdddaa
