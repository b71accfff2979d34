/- readDirectory and DecodeDir of the program. -/
import Derived.Test.YtilnlphkkbflaaaDirRead
import Derived.Deep.MidRow
namespace Go.Proofs.Ytilnlphkkbflaaa
open Go.RowKit Go.Shelf
attribute [local go_sem] Oper.semAt_some

/-- A load of a row amid a block, at the wide fence. -/
theorem wpListIn_load_mid {F : Fence} {n : Nat} {P : Program} {ops : Array Oper} {rest : List Oper} {op : Oper} {a : Act} {w : World} {Q : Exit → Act → World → Prop} (hgd : op.guard = none) (ty : TypeId) (x : Operand) (ho : op.op = .load ty x)
    (b o : Nat) (hx : a.eval x = .pointer (some ⟨b, o, none⟩)) (cs : List Value) (d : TypeDesc) (hc : w.rangeAt b o cs)
    (hu : P.underlying ty = some d) (hd : d.isRow = true) (hi : (P.info? ty).map (·.size) = some cs.length)
    (h : wpListIn F n P ops Q rest (a.put op.dst (.agg cs.toArray)) w) : wpListIn F n P ops Q (op :: rest) a w := by
  refine wpListIn_plain hgd fun K hK' => ?_
  unfold Oper.wpIn
  refine ⟨?_, ?_⟩
  · simp [Oper.about, ho]
  · rw [Oper.semAt_plain F _ _ (by rw [ho]; intro c hc'; cases hc')]
    simp only [execOp, ho, hx, Instr.loadAt, Instr.sureAddr, Sem.run_bind, Sem.run_pure, Result.andThen_ok, run_loadVar_mid w b o ty cs d hc hu hd hi]
    exact hK' _ _ h

theorem ent_pre (xs : List Int) {K : Nat} {ys : List (Fin K)} (h : ys.map Fin.val = List.range K) : ys.map (fun i => entAt xs i.val) = entsTo xs K := by
  unfold entsTo
  rw [← h, List.map_map]
  rfl

theorem DirO.grownF {base B : Nat} {W W' : World} {row : Option Nat} {bd bm : Nat} {v : Value} {D : DataW Unit} {ts : List Ent} (h : DirO base W bd bm v D ts) (hg : W.grownBy W' row) (hr : ∀ r, row = some r → B ≤ r ∧ ∃ o : Obj, W.heap[r]? = some o ∧ o.isCells = false) (hm : bm < B) : DirO base W' bd bm v D ts := by
  have hr2 : ∀ r, row = some r → ∃ o : Obj, W.heap[r]? = some o ∧ o.isCells = false := fun r e => (hr r e).2
  refine ⟨cells_keep h.cells hg hr2, h.lo, ?_, ?_, h.says⟩
  · refine ⟨h.own.1, ?_⟩
    rcases h.own.2 with h1 | ⟨g, cap, cur, hv, hg', hh, r⟩
    · exact Or.inl h1
    · exact Or.inr ⟨g, cap, cur, hv, hg', cells_keep hh hg hr2, r⟩
  · have hlt := h.map.lt
    obtain ⟨es, clock, hh, rest⟩ := h.map
    exact ⟨es, clock, (hg.block bm hlt (fun e => by have := (hr bm e.symm).1; omega)).trans hh, rest⟩
theorem DirO.putObj {base : Nat} {W : World} {bd bm l : Nat} {o o' : Obj} {v : Value} {D : DataW Unit} {ts : List Ent} (h : DirO base W bd bm v D ts) (hl : W.heap[l]? = some o) (ho : o.isCells = false) (hm : bm < l) : DirO base (W.putObj l o') bd bm v D ts :=
  h.grownF (B := l) (grownBy_putObj' W l o') (fun r e => by cases e; exact ⟨Nat.le_refl _, o, hl, ho⟩) hm
theorem DirO.setRes {base : Nat} {W : World} {bd bm k : Nat} {u : Value} {v : Value} {D : DataW Unit} {ts : List Ent} (h : DirO base W bd bm v D ts) (hk : k < base) : DirO base (W.setCell ⟨k, 0, none⟩ u) bd bm v D ts :=
  h.chg (Chg.setCell (Chg.refl k (k + 1) W) (p := ⟨k, 0, none⟩) (Or.inl ⟨Nat.le_refl _, Nat.lt_succ_self _⟩) u) (by omega)

theorem eT_eS5 {xs : List Int} (h : entG xs = true) : eT xs = eS xs := by
  unfold entG at h
  simp only [Bool.and_eq_true, decide_eq_true_eq] at h
  unfold eS eT lenN
  rw [Nat.min_eq_left (by omega)]
theorem piece_range {w W : World} {xs : List Int} {b off K k : Nat} (hx : ∀ i, i < xs.length → w.cell? ⟨b, off + i, none⟩ = some (.int .u8 (xs.getD i 0))) (hB : Below w.heap.size w W) (hK : xs.length = 16 * K) (hk : k < K) :
    W.rangeAt b (off + 16 * k) ((recAt xs k).map (Value.int .u8)) := by
  intro j v hj
  have hjl : j < (recAt xs k).length := by simpa using (List.getElem?_eq_some_iff.1 hj).1
  rw [recAt_len (by omega)] at hjl
  have h1 := hx (16 * k + j) (by omega)
  rw [Nat.add_assoc, hB.cell (p := ⟨b, off + (16 * k + j), none⟩) (lt_of_cell h1), h1, ← hj]
  have h2 : 16 * k + j < xs.length := by omega
  unfold recAt
  simp [List.getElem?_drop, hjl, List.getD_eq_getElem?_getD, h2]
theorem eS_size {xs : List Int} (h : xs.length = 16) (hg : entG xs = true) : (eS xs).size ≤ 1048576 := by
  rw [← eT_eS5 hg, eT_size h]
  unfold lenN
  omega

/-- What is no entries stays through a round. -/
theorem round_oth {base : Nat} {W w4 w6 : World} {bd bm : Nat} {v : Value} {D : DataW Unit} {ts : List Ent} {o5 : Obj} (hd : DirO base W bd bm v D ts) (hc4 : Chg 0 0 W w4) (hc6 : ChgD base bd bm v (w4.alloc o5) w6)
    {k : Nat} {o : Obj} (hk : W.heap[k]? = some o) (h1 : k ≠ bd) (h2 : k ≠ bm) (h3 : ∀ cur, o ≠ .cells cur 34 (0, 0)) : w6.heap[k]? = some o := by
  have hlt := (Array.getElem?_eq_some_iff.1 hk).1
  have h4 : w4.heap[k]? = some o := (hc4.block k hlt (by omega)).trans hk
  have h5 : (w4.alloc o5).heap[k]? = some o := (Below.heap_alloc _ _ _ (Array.getElem?_eq_some_iff.1 h4).1).trans h4
  refine (hc6.oth k (Array.getElem?_eq_some_iff.1 h5).1 h1 h2 (fun e => ?_)).trans h5
  obtain ⟨cur, hcur⟩ := rowE_at hd.own e.symm
  rw [hk] at hcur
  cases hcur
  exact h3 cur rfl

set_option maxRecDepth 100000 in
set_option maxHeartbeats 4000000 in
theorem readDir_in (w : World) (xs : List Int) (ao : Option Addr) (b off cap K : Nat) (hao : K = 0 ∨ ao = some ⟨b, off, none⟩) (hB : Byt xs) (hK : xs.length = 16 * K) (hl : K ≤ 160) (hcap : 16 * K ≤ cap) (hc2 : cap ≤ 9223372036854775807)
    (hx : ∀ i, i < xs.length → w.cell? ⟨b, off + i, none⟩ = some (.int .u8 (xs.getD i 0))) :
    Calls Try.prog 14 #[.slice ao xs.length cap] w fun e w' =>
      (dirG xs = true ∧ ∃ bd bm v D, e = .returned (.tuple #[.pointer (some ⟨bd, 0, none⟩), .bool true]) ∧ DirO w.heap.size w' bd bm v D (entsTo xs K) ∧ Chg 0 0 w w') ∨
      (dirG xs = false ∧ ∃ p, e = .returned (.tuple #[.pointer p, .bool false]) ∧ Chg 0 0 w w') := by
  have HG : Hid ((∀ k, k < K → entG (recAt xs k) = true) → okD (entsTo xs K) = dirG xs) := dirG_okD (by omega) hK
  have HGn : Hid (∀ k, k < K → entG (recAt xs k) = false → dirG xs = false) := fun k hk hg => dirG_false (fun h => by
    have := h.2.2 k (by omega)
    unfold okAt at this
    rw [hg] at this
    cases this)
  have hS0 := fun w1 Bd Bn k1 k2 => pieces16_stops 4 (by omega) Bd Bn b off cap K ao hao w1 (by omega) hcap hc2 k1 k2
  refine (callsIn_wide (n := 5)).1 ?_
  refine (CallsIn.mono (R := fun e w' => (dirG xs = true ∧ ∃ bd bm v D, e = .returned (.tuple #[.pointer (some ⟨bd, 0, none⟩), .bool true]) ∧ DirO w.heap.size w' bd bm v D (entsTo xs K) ∧ Below w.heap.size w w') ∨
      (dirG xs = false ∧ ∃ p, e = .returned (.tuple #[.pointer p, .bool false]) ∧ Below w.heap.size w w')) ?_ fun e w' h => by
    rcases h with ⟨h1, bd, bm, v, D, h2, h3, h4⟩ | ⟨h1, p, h2, h4⟩
    · exact Or.inl ⟨h1, bd, bm, v, D, h2, h3, Chg.ofBelow h4 0 0⟩
    · exact Or.inr ⟨h1, p, h2, Chg.ofBelow h4 0 0⟩)
  have Hx : Hid (∀ i, i < xs.length → w.cell? ⟨b, off + i, none⟩ = some (.int .u8 (xs.getD i 0))) := hx
  have HK : Hid (xs.length = 16 * K) := hK
  have q1 : ((xs.length : Int) % 16 != 0) = false := by rw [bne_eq_false_iff_eq]; omega
  have q1' : (xs.length : Int) % 16 = 0 := by omega
  have q2 : ¬ (2560 : Int) < (xs.length : Int) := by omega
  clear hx hK
  obtain ⟨L, hL⟩ : ∃ L, L = xs.length := ⟨_, rfl⟩
  have HL : Hid (L = xs.length) := hL
  rw [← hL] at q1 q1' q2 ⊢
  clear hL
  refine callsIn_of_wp_marks Try.func14 rfl trivial ?_ rfl
  simp only [Try.ntmps14, List.size_toArray, List.length_cons, List.length_nil, Nat.reduceAdd, Nat.reduceSub, Array.replicate_succ, Array.replicate_zero, List.push_toArray, List.append_toArray, List.nil_append, List.cons_append]
  have hN := directoryOf_some ((w.alloc (.cells #[.pointer none] 39)).alloc (.cells #[.bool false] 4)) [] none 0 (by simp) (by simp) (Or.inl rfl)
  have hN2 := fun W => pieces_calls W ao L cap 16
  gi_wp2_with (first
    | (refine ⟨trivial, ?_⟩; gi_at_call 21; refine (callsIn_wide.2 hN).mono ?_; rintro e w2 ⟨bd, bm, v0, D0, rfl, hd0, hc0⟩; clear hN)
    | (refine ⟨trivial, ?_⟩; gi_at_call 22; refine (callsIn_wide.2 (hN2 _)).mono ?_; rintro e w3 ⟨rfl, hw3⟩; clear hN2))
  rename_i Q' K' hK'
  subst hw3
  have hz0 : ((w.alloc (.cells #[.pointer none] 39)).alloc (.cells #[.bool false] 4)).heap.size = w.heap.size + 2 := by simp
  rw [hz0] at hd0
  have hbd := (Array.getElem?_eq_some_iff.1 hd0.cells).1
  have hbm := hd0.map.lt
  have hlo := hd0.lo
  have hsz2 := hc0.size
  rw [hz0] at hsz2
  obtain ⟨_, ra0, ra1⟩ := alloc2 w (.cells #[.pointer none] 39) (.cells #[.bool false] 4)
  have rb0 := (hc0.block _ (by omega) (by omega)).trans ra0
  have rb1 := (hc0.block _ (by omega) (by omega)).trans ra1
  obtain ⟨hz3, hx0, hx1, hx2⟩ := alloc3 w2 (.cells #[.pointer (some ⟨bd, 0, none⟩)] 39) (.cells #[.slice ao L cap] 22) (.cells #[.int .i64 16] 3)
  have C3 : Chg 0 0 w2 (((w2.alloc (.cells #[.pointer (some ⟨bd, 0, none⟩)] 39)).alloc (.cells #[.slice ao L cap] 22)).alloc (.cells #[.int .i64 16] 3)) := (Chg.alloc (Chg.alloc (Chg.alloc (Chg.refl 0 0 w2) _) _) _)
  have hB3 : Below w.heap.size w (((w2.alloc (.cells #[.pointer (some ⟨bd, 0, none⟩)] 39)).alloc (.cells #[.slice ao L cap] 22)).alloc (.cells #[.int .i64 16] 3)) := (((Chg.alloc (Chg.alloc (Chg.refl 0 0 w) _) _).trans hc0).trans C3).below (Or.inl (Nat.le_refl _))
  have hd3 := hd0.chg C3 (by omega)
  have rc0 := (C3.block _ (by omega) (by omega)).trans rb0
  have rc1 := (C3.block _ (by omega) (by omega)).trans rb1
  clear hd0 hc0 ra0 ra1 rb0 rb1 C3 hz0
  generalize (((w2.alloc (.cells #[.pointer (some ⟨bd, 0, none⟩)] 39)).alloc (.cells #[.slice ao L cap] 22)).alloc (.cells #[.int .i64 16] 3)) = w3 at *
  have hS := hS0 w3 (w2.heap.size + 1) (w2.heap.size + 1 + 1) (by rw [← HK.out, ← HL.out]; exact Boxed.cell hx1) (Boxed.cell hx2)
  refine wpIn_rangeFunc_ownH rfl (by omega) (gf := 32) (lb := #[.pointer (some ⟨w2.heap.size + 1, 0, none⟩), .pointer (some ⟨w2.heap.size + 1 + 1, 0, none⟩)]) rfl trivial (enters_of Try.func32 (by kernel_rfl) rfl)
    hS KeepK.trans (KeepK.put (by intro k hk; omega)) (Below.refl _ _) (fun _ => rfl)
    (fun pre W => ((∃ v D, DirO (w.heap.size + 2) W bd bm v D (pre.map fun i => entAt xs i.val)) ∧ W.heap[w2.heap.size]? = some (.cells #[.pointer (some ⟨bd, 0, none⟩)] 39 (0, 0)) ∧ W.heap[w2.heap.size + 1]? = some (.cells #[.slice ao L cap] 22 (0, 0)) ∧ W.heap[w2.heap.size + 1 + 1]? = some (.cells #[.int .i64 16] 3 (0, 0)) ∧
        W.heap[w.heap.size]? = some (.cells #[.pointer none] 39 (0, 0)) ∧ W.heap[w.heap.size + 1]? = some (.cells #[.bool false] 4 (0, 0)) ∧ w3.heap.size ≤ W.heap.size ∧ ∀ p ∈ pre, entG (recAt xs p.val) = true) ∧ Below w.heap.size w W)
    (fun c pre W => (c = .ret ∧ ∃ pre' x, pre = pre' ++ [x] ∧ entG (recAt xs x.val) = false ∧ W.heap[w.heap.size]? = some (.cells #[.pointer none] 39 (0, 0)) ∧ W.heap[w.heap.size + 1]? = some (.cells #[.bool false] 4 (0, 0))) ∧ Below w.heap.size w W)
    ?hI ?hIx ⟨⟨⟨v0, D0, hd3⟩, hx0, hx1, hx2, rc0, rc1, Nat.le_refl _, by simp⟩, hB3⟩
    (fun x a' W => a' = { tmps := #[.slice ao L cap, undef, .pointer (some ⟨w.heap.size, 0, none⟩), .pointer (some ⟨w.heap.size + 1, 0, none⟩), .pointer (some ⟨w2.heap.size, 0, none⟩), .slice (some ⟨b, off + 16 * x.val, none⟩) 16 (cap - 16 * x.val), undef, undef, .slice ao L cap, .int .i64 (L : Int), .int .i64 0, .bool false, .bool false, .slice ao L cap, .int .i64 (L : Int), .bool false, .bool false, .pointer (some ⟨bd, 0, none⟩), .slice ao L cap,
        .func (.func 32) #[] #[.pointer (some ⟨w2.heap.size + 1, 0, none⟩), .pointer (some ⟨w2.heap.size + 1 + 1, 0, none⟩)], .slice (some ⟨b, off + 16 * x.val, none⟩) 16 (cap - 16 * x.val), undef, undef, undef, undef, undef, undef, undef, undef, undef, undef, undef, undef, undef, undef, undef], defers := [] })
    ?hAx ?assign ?body ?done ?stop
  case hI => exact OwnFrom.and (fun s A B row hs hg hr => by
      obtain ⟨⟨v, D, h1⟩, h2, h3, h4, h5, h6, h7, h8⟩ := hs
      have hr2 : ∀ r, row = some r → ∃ o : Obj, A.heap[r]? = some o ∧ o.isCells = false := fun r e => (hr r e).2
      exact ⟨⟨v, D, h1.grownF hg hr (by omega)⟩, cells_keep h2 hg hr2, cells_keep h3 hg hr2, cells_keep h4 hg hr2, cells_keep h5 hg hr2, cells_keep h6 hg hr2, Nat.le_trans h7 hg.size, h8⟩) (ownFrom_below (Nat.le_refl _) (by omega))
  case hIx => exact fun c => OwnFrom.and (Own.from (fun s A B row hs hg hr => by obtain ⟨h1, p', x, h2, h3, h4, h5⟩ := hs; exact ⟨h1, p', x, h2, h3, cells_keep h4 hg hr, cells_keep h5 hg hr⟩) _) (ownFrom_below (Nat.le_refl _) (by omega))
  case hAx => exact fun x a' => Own.from (fun s A B row hs hg hr => hs) _
  case assign =>
    rintro l pre x W K h hK
    simp only [encP16]
    gi_wp2
    exact hK _ _ ((KeepsOthers.refl _).from _) (KeepK.refl _ _) h rfl
  case body =>
    rintro l pre x a' W hl2 ⟨r, hr⟩ ⟨⟨⟨v, D, hd⟩, hbx, hbl, hbn, hr0, hr1, hsW, hpn⟩, hBW⟩ rfl hpl
    obtain ⟨y, Hy⟩ : ∃ y, Hid (y = recAt xs x.val) := ⟨_, rfl⟩
    have hxl : x.val < K := x.isLt
    have HR0 := piece_range Hx.out hBW HK.out hxl
    have hy16 : (recAt xs x.val).length = 16 := recAt_len (by have := HK.out; omega)
    have hyB : Byt (recAt xs x.val) := (hB.drop _).take _
    have HE : Hid (entAt xs x.val = (eQ y, eS y)) := by show _ = _; rw [Hy.out]; rfl
    have HPm : Hid ((pre ++ [x]).map (fun i => entAt xs i.val) = pre.map (fun i => entAt xs i.val) ++ [(eQ y, eS y)]) := by show _ = _; rw [List.map_append, List.map_cons, List.map_nil, HE.out]
    have hplen : (pre.map fun i => entAt xs i.val).length ≤ 1048576 := by rw [List.length_map]; omega
    have hN := readEntry_calls W (recAt xs x.val) hy16 hyB
    rw [← Hy.out] at HR0 hy16 hN
    generalize (pre.map fun i => entAt xs i.val) = ts at *
    obtain ⟨Lc, hLc⟩ : ∃ Lc, Lc = y.map (Value.int .u8) := ⟨_, rfl⟩
    have hiL : (Try.prog.info? 55).map (·.size) = some Lc.length := by rw [hLc, List.length_map, hy16]; exact Try.sizeERec
    rw [← hLc] at HR0 hN
    have HR : Hid (W.rangeAt b (off + 16 * x.val) Lc) := HR0
    have har : ∀ z : World, (Instr.arrayAt 55 (.slice (some ⟨b, off + 16 * x.val, none⟩) 16 (cap - 16 * x.val))).run Try.prog z = .ok (.pointer (some ⟨b, off + 16 * x.val, none⟩)) z := fun z => by simp [Instr.arrayAt, run_underlying Try.underlying55]
    have hlW := (Array.getElem?_eq_some_iff.1 hbx).1
    have HLo : Hid (w.heap.size + 2 ≤ w2.heap.size ∧ w3.heap.size = w2.heap.size + 3 ∧ (bd < w2.heap.size ∧ bm < w2.heap.size) ∧ w.heap.size + 2 ≤ bd ∧ w.heap.size + 2 ≤ bm ∧ w3.heap.size ≤ W.heap.size) := ⟨by omega, by omega, ⟨hbd, hbm⟩, hlo.1, hlo.2, hsW⟩
    generalize off + 16 * x.val = offx at *
    generalize cap - 16 * x.val = capx at *
    clear HR0 hLc hS hS0 hd3 hx0 hx1 hx2 rc0 rc1 hB3 hbd hbm hlo hsz2 hz3 hK' hao hcap hc2 q1' q1 q2 hsW
    cases hg : entG y with
    | true =>
      rw [hg, if_pos rfl, eT_eS5 hg] at hN
      have hsS := eS_size hy16 hg
      have Hg : Hid (entG y = true) := hg
      clear hg hy16 hyB
      generalize eQ y = qq at *
      generalize eS y = ss at *
      gi_wp2_with (first
        | (refine wpListIn_load_mid rfl 55 (.tmp 23) rfl b offx rfl Lc _ HR.out Try.underlying55 rfl hiL ?_)
        | (refine ⟨trivial, ?_⟩; gi_at_call 23; refine ((callsIn_wide.2 hN).inRound l).mono ?_; clear hN; rintro e w4 ⟨rfl, hc4⟩; have hd4 := hd.chg hc4 (by omega); have C7 : Chg 0 0 w4 (w4.alloc (.cells (entA qq ss) 34)) := Chg.alloc (Chg.refl 0 0 w4) _; have hN2 := add_sharp (w.heap.size + 2) (w4.alloc (.cells (entA qq ss) 34)) bd bm v D ts (qq, ss) (hd4.chg C7 (by omega)) hsS hplen; have hb4 := (C7.block _ (Nat.lt_of_lt_of_le hlW hc4.size) (by omega)).trans ((hc4.block _ hlW (by omega)).trans hbx); have k0 := Boxed.cell hb4; obtain ⟨e0, e1⟩ := ent_cells (heap_new w4 (.cells (entA qq ss) 34)))
        | (refine ⟨trivial, ?_⟩; gi_at_call 24; refine ((callsIn_wide.2 hN2).inRound l).mono ?_; clear hN2; rintro e w6 ⟨⟨u, rfl⟩, ⟨v', D', hd6⟩, hc6⟩))
      have hl3 := HLo.out
      have hs4 := hc4.size
      have hs6 := hc6.size
      rw [World.size_alloc] at hs6
      refine ⟨⟨by omega, fun k o hBk hk ho => round_oth hd hc4 hc6 hk (by omega) (by omega) (fun cur e => by rw [e] at ho; cases ho)⟩, fun k hk => ?_, ⟨⟨v', D', by rw [HPm.out]; exact hd6⟩, round_oth hd hc4 hc6 hbx (by omega) (by omega) (by intro cur e; cases e), round_oth hd hc4 hc6 hbl (by omega) (by omega) (by intro cur e; cases e), round_oth hd hc4 hc6 hbn (by omega) (by omega) (by intro cur e; cases e), round_oth hd hc4 hc6 hr0 (by omega) (by omega) (by intro cur e; cases e), round_oth hd hc4 hc6 hr1 (by omega) (by omega) (by intro cur e; cases e), by omega, ?_⟩, ?_⟩
      · rcases hk with rfl | rfl
        · rw [hbl]; exact round_oth hd hc4 hc6 hbl (by omega) (by omega) (by intro cur e; cases e)
        · rw [hbn]; exact round_oth hd hc4 hc6 hbn (by omega) (by omega) (by intro cur e; cases e)
      · intro p hp
        rcases List.mem_append.1 hp with hp | hp
        · exact hpn p hp
        · rw [List.mem_singleton.1 hp, ← Hy.out]; exact Hg.out
      · refine hBW.trans ⟨hc6.chg.os.trans (C7.os.trans hc4.os), hc6.chg.tape.trans (C7.tape.trans hc4.tape), hc6.chg.output.trans (C7.output.trans hc4.output), by omega, fun k hk => ?_⟩
        have hkW : k < W.heap.size := by omega
        exact (hc6.chg.block k (by rw [World.size_alloc]; omega) (by omega)).trans ((C7.block k (by omega) (by omega)).trans (hc4.block k hkW (by omega)))
    | false =>
      rw [hg, if_neg (by simp)] at hN
      have Hg : Hid (entG y = false) := hg
      clear hg hy16 hyB HE HPm
      gi_wp2_with (first
        | (refine wpListIn_load_mid rfl 55 (.tmp 23) rfl b offx rfl Lc _ HR.out Try.underlying55 rfl hiL ?_)
        | (refine ⟨trivial, ?_⟩; gi_at_call 23; refine ((callsIn_wide.2 hN).inRound l).mono ?_; clear hN; rintro e w4 ⟨rfl, hc4⟩; have C7 : Chg 0 0 w4 (w4.alloc (.cells (entA 0 ⟨#[]⟩) 34)) := Chg.alloc (Chg.refl 0 0 w4) _; have hl0 := (Array.getElem?_eq_some_iff.1 hr0).1; have hl1 := (Array.getElem?_eq_some_iff.1 hr1).1; have j0 := (C7.block _ (Nat.lt_of_lt_of_le hl0 hc4.size) (by omega)).trans ((hc4.block _ hl0 (by omega)).trans hr0); have j1 := (C7.block _ (Nat.lt_of_lt_of_le hl1 hc4.size) (by omega)).trans ((hc4.block _ hl1 (by omega)).trans hr1); have k0 := Boxed.cell j0; have k1 := Boxed.cell j1; have f0 := Boxed.frozen j0; have f1 := Boxed.frozen j1))
      have hl3 := HLo.out
      have hs4 := hc4.size
      have hO : KeepsOthers W (((w4.alloc (.cells (entA 0 ⟨#[]⟩) 34)).setCell ⟨w.heap.size, 0, none⟩ (.pointer none)).setCell ⟨w.heap.size + 1, 0, none⟩ (.bool false)) :=
        ((KeepsOthers.of_grownBy (hc4.trans C7).grown0 (by simp)).trans (KeepsOthers.setCell _ _ _)).trans (KeepsOthers.setCell _ _ _)
      have hBn : Below w.heap.size w (((w4.alloc (.cells (entA 0 ⟨#[]⟩) 34)).setCell ⟨w.heap.size, 0, none⟩ (.pointer none)).setCell ⟨w.heap.size + 1, 0, none⟩ (.bool false)) :=
        ((hBW.trans (((hc4.trans C7).below (by omega)).mono (by omega))).setCell (p := ⟨w.heap.size, 0, none⟩) (Nat.le_refl _) _).setCell (p := ⟨w.heap.size + 1, 0, none⟩) (Nat.le_succ _) _
      refine ⟨hO.from _, ⟨rfl, pre, x, rfl, by rw [← Hy.out]; exact Hg.out, ?_, ?_⟩, hBn⟩
      · exact (Below.heap_setCell _ _ _ _ (by simp only; omega)).trans (Boxed.set _ j0)
      · exact Boxed.set _ ((Below.heap_setCell _ _ _ _ (by simp only; omega)).trans j1)
  case done =>
    rintro Df ys W hD hys ⟨⟨⟨v, D, hd⟩, hbx, hbl, hbn, hr0, hr1, hsW, hpn⟩, hBW⟩ hKd
    rw [ent_pre xs hys] at hd
    have hgood : ∀ k, k < K → entG (recAt xs k) = true := fun k hk => by
      have : k ∈ ys.map Fin.val := by rw [hys]; exact List.mem_range.2 hk
      obtain ⟨i, hi, rfl⟩ := List.mem_map.1 this
      exact hpn i hi
    have HOk : Hid (okD (entsTo xs K) = dirG xs) := HG.out hgood
    have hlen : (entsTo xs K).length ≤ 1048576 := by rw [entsTo_len]; omega
    refine hK' _ _ ?_
    refine wpIn_wide.2 ?_
    clear hK' hS hS0 hd3 hx0 hx1 hx2 rc0 rc1 hB3 hao hcap hc2 q1' q1 q2 HG HGn hgood hpn hys hbl hbn
    have HD : Hid (DirO (w.heap.size + 2) W.drew bd bm v D (entsTo xs K)) := hd.chg (Chg.drew (Chg.refl 0 0 W)) (by omega)
    have HB : Hid (Below w.heap.size w W.drew) := hBW.drew
    have HKd : Hid (W.drew.heap[Df]? = some (.deferred (some []))) := hKd
    have HR0 : Hid (W.drew.heap[w.heap.size]? = some (.cells #[.pointer none] 39 (0, 0)) ∧ W.drew.heap[w.heap.size + 1]? = some (.cells #[.bool false] 4 (0, 0))) := ⟨hr0, hr1⟩
    have HS : Hid ((fun w' : World => w'.heap[w2.heap.size]? = some (.cells #[.pointer (some ⟨bd, 0, none⟩)] 39 (0, 0))) W.drew) := hbx
    clear hd hBW hKd hr0 hr1 hbx
    have hV := fun x (h : DirO (w.heap.size + 2) x bd bm v D (entsTo xs K)) => isValidD_calls (w.heap.size + 2) x bd bm v D (entsTo xs K) h hlen
    generalize okD (entsTo xs K) = ok at *
    have HQ : Hid (∀ (a : Act) (W' : World), a.defers = { target := .collected Df, args := #[] } :: [] → a.tmps[2]? = some (.pointer (some ⟨w.heap.size, 0, none⟩)) → a.tmps[3]? = some (.pointer (some ⟨w.heap.size + 1, 0, none⟩)) → W'.heap[Df]? = some (.deferred (some [])) → W'.heap[w.heap.size]? = some (.cells #[.pointer (some ⟨bd, 0, none⟩)] 39 (0, 0)) → W'.heap[w.heap.size + 1]? = some (.cells #[.bool ok] 4 (0, 0)) → DirO (w.heap.size + 2) W' bd bm v D (entsTo xs K) → Below w.heap.size w W' → Q' .ret a W') := by
      intro a W' ha hp2 hp3 hKd hr0 hr1 hd hB
      obtain ⟨tm, df⟩ := a
      cases ha
      have hDne : w.heap.size ≠ Df := by intro e; subst e; rw [hr0] at hKd; cases hKd
      have hDne1 : w.heap.size + 1 ≠ Df := by intro e; subst e; rw [hr1] at hKd; cases hKd
      have fR0 : (W'.putObj Df (.deferred none)).heap[w.heap.size]? = some (.cells #[.pointer (some ⟨bd, 0, none⟩)] 39 (0, 0)) := (World.putObj_heap_other hDne).trans hr0
      have fR1 : (W'.putObj Df (.deferred none)).heap[w.heap.size + 1]? = some (.cells #[.bool ok] 4 (0, 0)) := (World.putObj_heap_other hDne1).trans hr1
      have m0 := Boxed.cell fR0
      have m1 := Boxed.cell fR1
      have hBn := hB.trans (belowK_b (w := w) (Nat.le_refl _) W' Df _ (.deferred none) (by omega) hKd rfl rfl)
      refine ⟨by simp, .inl ⟨_, _, rfl, run_takeDeferred hKd, ?_⟩⟩
      refine ⟨.tuple #[.pointer (some ⟨bd, 0, none⟩), .bool ok], ?_, ?_⟩
      · simp [results, Try.f14, go_sem, m0, m1, hp2, hp3]
      · cases hok : ok with
        | true => exact Or.inl ⟨by rw [← HOk.out, hok], bd, bm, v, D, rfl, (hd.low (Nat.le_add_right _ _)).putObj hKd rfl (by omega), hBn⟩
        | false => exact Or.inr ⟨by rw [← HOk.out, hok], _, rfl, hBn⟩
    clear_value Q'
    have hsS : ∀ k : Nat, k ≠ w2.heap.size → ∀ (W' : World) (u : Value), W'.heap[w2.heap.size]? = some (.cells #[.pointer (some ⟨bd, 0, none⟩)] 39 (0, 0)) → (W'.setCell ⟨k, 0, none⟩ u).heap[w2.heap.size]? = some (.cells #[.pointer (some ⟨bd, 0, none⟩)] 39 (0, 0)) := fun k hk W' u h => (Below.heap_setCell _ _ _ _ (by simp only; omega)).trans h
    generalize entsTo xs K = ts at *
    go_upto_region 10 with fail
    refine held_region (fun w' : World => w'.heap[w2.heap.size]? = some (.cells #[.pointer (some ⟨bd, 0, none⟩)] 39 (0, 0))) (by kernel_rfl) ?_
    generalize W.drew = x1 at *
    refine held_take 0 (.pointer (some ⟨bd, 0, none⟩)) rfl (by kernel_rfl) (by kernel_rfl) (by kernel_rfl) (fun _ _ _ h => h) (.inl ⟨by kernel_rfl, fun w' hw' => by have k0 := Boxed.cell hw'; go_simp⟩) HS.out ?_
    go_simp
    refine held_take 1 (.pointer (some ⟨bd, 0, none⟩)) rfl (by kernel_rfl) (by kernel_rfl) (by kernel_rfl) (fun _ _ _ h => h) (.inl ⟨by kernel_rfl, fun w' hw' => by have k0 := Boxed.cell hw'; go_simp⟩) HS.out ?_
    go_simp
    refine held_one 2 rfl rfl (by kernel_rfl) ?_
    refine wp_enter 25 #[.pointer (some ⟨bd, 0, none⟩)] (by first | kernel_rfl | go_simp) (hV x1 HD.out) ?_
    rintro e x2 ⟨rfl, c2⟩
    have HS2 : Hid ((fun w' : World => w'.heap[w2.heap.size]? = some (.cells #[.pointer (some ⟨bd, 0, none⟩)] 39 (0, 0))) x2) := (c2.block _ (Array.getElem?_eq_some_iff.1 HS.out).1 (by omega)).trans HS.out
    have HD2 := HD.out.chg c2 (by omega)
    have hs1 := HB.out.size
    have HB2 := HB.out.trans ((c2.below (by omega)).mono hs1)
    have hKd2 := (c2.block _ (Array.getElem?_eq_some_iff.1 HKd.out).1 (by omega)).trans HKd.out
    have r0 := (c2.block _ (Array.getElem?_eq_some_iff.1 HR0.out.1).1 (by omega)).trans HR0.out.1
    have r1 := (c2.block _ (Array.getElem?_eq_some_iff.1 HR0.out.2).1 (by omega)).trans HR0.out.2
    refine ⟨_, rfl, HS2.out, ?_⟩
    clear c2 HS HD HB HKd HR0 hV
    go_simp
    have Hfin : Hid (∀ (a : Act), a.defers = { target := .collected Df, args := #[] } :: [] → a.tmps[2]? = some (.pointer (some ⟨w.heap.size, 0, none⟩)) → a.tmps[3]? = some (.pointer (some ⟨w.heap.size + 1, 0, none⟩)) → Q' .ret a ((x2.setCell ⟨w.heap.size, 0, none⟩ (.pointer (some ⟨bd, 0, none⟩))).setCell ⟨w.heap.size + 1, 0, none⟩ (.bool ok))) := by
      intro a ha h2 h3
      refine HQ.out a _ ha h2 h3 ?_ ?_ ?_ ?_ ?_
      · exact (KeepsOthers.setCell _ ⟨w.heap.size + 1, 0, none⟩ _).same Df _ ((KeepsOthers.setCell x2 ⟨w.heap.size, 0, none⟩ _).same Df _ hKd2 rfl) rfl
      · exact (Below.heap_setCell _ _ _ _ (by simp only; omega)).trans (Boxed.set _ r0)
      · exact Boxed.set _ ((Below.heap_setCell _ _ _ _ (by simp only; omega)).trans r1)
      · exact (HD2.setRes (by omega)).setRes (by omega)
      · exact (HB2.setCell (p := ⟨w.heap.size, 0, none⟩) (Nat.le_refl _) _).setCell (p := ⟨w.heap.size + 1, 0, none⟩) (Nat.le_succ _) _
    have k0 := Boxed.cell r0
    have f0 := Boxed.frozen r0
    have r1' : (x2.setCell ⟨w.heap.size, 0, none⟩ (.pointer (some ⟨bd, 0, none⟩))).heap[w.heap.size + 1]? = some (.cells #[.bool false] 4 (0, 0)) := (Below.heap_setCell _ _ _ _ (by simp only; omega)).trans r1
    have k1 := Boxed.cell r1'
    have f1 := Boxed.frozen r1'
    have HSa : Hid ((x2.setCell ⟨w.heap.size, 0, none⟩ (.pointer (some ⟨bd, 0, none⟩))).heap[w2.heap.size]? = some (.cells #[.pointer (some ⟨bd, 0, none⟩)] 39 (0, 0))) := hsS w.heap.size (by omega) x2 (.pointer (some ⟨bd, 0, none⟩)) HS2.out
    have HSb : Hid (((x2.setCell ⟨w.heap.size, 0, none⟩ (.pointer (some ⟨bd, 0, none⟩))).setCell ⟨w.heap.size + 1, 0, none⟩ (.bool ok)).heap[w2.heap.size]? = some (.cells #[.pointer (some ⟨bd, 0, none⟩)] 39 (0, 0))) := hsS (w.heap.size + 1) (by omega) _ (.bool ok) HSa.out
    clear HD2 HB2 hKd2 r0 r1 r1' hsS HS2 HQ
    refine held_one 3 rfl rfl (by kernel_rfl) ?_
    go_simp
    refine ⟨HSa.out, ?_⟩
    refine held_one 4 rfl rfl (by kernel_rfl) ?_
    go_simp
    refine ⟨HSb.out, ?_⟩
    refine held_done (by kernel_rfl) (NoPanic.normal ?_)
    go_wp2
    exact Hfin.out _ rfl rfl rfl
  case stop =>
    rintro Df c pre W hD hpre ⟨⟨rfl, pre', x, rfl, hg, hr0, hr1⟩, hBW⟩ hKd
    have Hn : Hid (dirG xs = false) := HGn.out x.val x.isLt hg
    have hDne : w.heap.size ≠ Df := by intro e; subst e; rw [hr0] at hKd; cases hKd
    have hDne1 : w.heap.size + 1 ≠ Df := by intro e; subst e; rw [hr1] at hKd; cases hKd
    have fR0 : (W.putObj Df (.deferred none)).heap[w.heap.size]? = some (.cells #[.pointer none] 39 (0, 0)) := (World.putObj_heap_other hDne).trans hr0
    have fR1 : (W.putObj Df (.deferred none)).heap[w.heap.size + 1]? = some (.cells #[.bool false] 4 (0, 0)) := (World.putObj_heap_other hDne1).trans hr1
    have m0 := Boxed.cell fR0
    have m1 := Boxed.cell fR1
    clear hK' hS hS0 hd3 hx0 hx1 hx2 rc0 rc1 hB3 hao hcap hc2 q1' q1 q2 HG HGn
    gi_wp2
    refine ⟨by simp, .inl ⟨_, _, rfl, run_takeDeferred hKd, ?_⟩⟩
    refine ⟨.tuple #[.pointer none, .bool false], ?_, Or.inr ⟨Hn.out, _, rfl, hBW.trans (belowK_b (w := w) (Nat.le_refl _) W Df _ _ (by omega) hKd rfl rfl)⟩⟩
    simp [results, Try.f14, go_sem, m0, m1]


set_option maxRecDepth 20000 in
set_option maxHeartbeats 400000 in
theorem readDir_out (w : World) (n : Nat) (ao : Option Addr) (cap : Nat) (h : ¬ (n % 16 = 0 ∧ n ≤ 2560)) :
    Calls Try.prog 14 #[.slice ao n cap] w fun e w' => ∃ p, e = .returned (.tuple #[.pointer p, .bool false]) ∧ Chg 0 0 w w' := by
  have HC : Hid (Chg 0 0 w ((w.alloc (.cells #[.pointer none] 39)).alloc (.cells #[.bool false] 4))) := Chg.alloc (Chg.alloc (Chg.refl 0 0 w) _) _
  obtain ⟨_, ra0, ra1⟩ := alloc2 w (.cells #[.pointer none] 39) (.cells #[.bool false] 4)
  have k0 := Boxed.cell ra0
  have k1 := Boxed.cell ra1
  by_cases h1 : n % 16 = 0
  · have q1 : (n : Int) % 16 = 0 := by omega
    have q1b : ((n : Int) % 16 != 0) = false := by rw [bne_eq_false_iff_eq]; exact q1
    have q2 : (2560 : Int) < (n : Int) := by omega
    clear h h1
    go_enter Try.func14, Try.ntmps14
    go_wp2
    refine bodyPost_ret (v := .tuple #[.pointer none, .bool false]) (by simp [results, Try.results14, go_sem, *]) rfl ⟨_, rfl, ?_⟩
    first | exact HC.out | exact (HC.out.setCell (Or.inr (Nat.le_refl _)) _).setCell (Or.inr (Nat.le_succ _)) _
  · have q1 : ¬ (n : Int) % 16 = 0 := by omega
    have q1b : ((n : Int) % 16 != 0) = true := by rw [bne_iff_ne]; exact q1
    clear h h1
    go_enter Try.func14, Try.ntmps14
    go_wp2
    refine bodyPost_ret (v := .tuple #[.pointer none, .bool false]) (by simp [results, Try.results14, go_sem, *]) rfl ⟨_, rfl, ?_⟩
    first | exact HC.out | exact (HC.out.setCell (Or.inr (Nat.le_refl _)) _).setCell (Or.inr (Nat.le_succ _)) _

theorem readDir_calls (w : World) {lo hi : Nat} {ao : Option Addr} {cap : Nat} {xs : List Int} (hv : View w lo hi .u8 (.slice ao xs.length cap) xs) (hB : Byt xs) (hcap : cap ≤ 9223372036854775807) :
    Calls Try.prog 14 #[.slice ao xs.length cap] w fun e w' =>
      (dirG xs = true ∧ ∃ bd bm v D, e = .returned (.tuple #[.pointer (some ⟨bd, 0, none⟩), .bool true]) ∧ DirO w.heap.size w' bd bm v D (entsTo xs (xs.length / 16)) ∧ Chg 0 0 w w') ∨
      (dirG xs = false ∧ ∃ p, e = .returned (.tuple #[.pointer p, .bool false]) ∧ Chg 0 0 w w') := by
  by_cases h : xs.length % 16 = 0 ∧ xs.length ≤ 2560
  · obtain ⟨ao', cap', e, _, hc, h1⟩ := hv
    cases e
    have hK : xs.length = 16 * (xs.length / 16) := by omega
    rcases h1 with h0 | ⟨b, off, rfl, _, _, h1⟩
    · have h0' : xs.length / 16 = 0 := by rw [h0]; rfl
      have h0'' : xs.length = 0 := by rw [h0]; rfl
      exact readDir_in w xs ao 0 0 cap (xs.length / 16) (Or.inl h0') hB hK (by omega) (by omega) hcap (fun i hi => by rw [h0''] at hi; exact absurd hi (Nat.not_lt_zero i))
    · exact readDir_in w xs _ b off cap (xs.length / 16) (Or.inr rfl) hB hK (by omega) (by omega) hcap h1
  · refine (readDir_out w xs.length ao cap h).mono ?_
    rintro e w' ⟨p, he, hc⟩
    exact Or.inr ⟨dirG_false (fun h' => h ⟨h'.1, h'.2.1⟩), p, he, hc⟩

set_option maxRecDepth 20000 in
set_option maxHeartbeats 1000000 in
theorem implDecodeDir_calls (w : World) {lo hi : Nat} {ao : Option Addr} {cap : Nat} {xs : List Int} (hv : View w lo hi .u8 (.slice ao xs.length cap) xs) (hB : Byt xs) (hcap : cap ≤ 9223372036854775807) :
    Calls Try.prog 6 #[.slice ao xs.length cap] w fun e w' => ∃ v, e = .returned (.agg #[.bool (dirG xs), v]) ∧ OwnE w' w.heap.size 34 v (dirE xs) ∧ Chg 0 0 w w' := by
  have C0 : Chg 0 0 w (w.alloc (.cells #[.bool false, .slice none 0 0] 25)) := Chg.alloc (Chg.refl 0 0 w) _
  have hb0 := heap_new w (.cells #[.bool false, .slice none 0 0] 25)
  have hN := readDir_calls (w.alloc (.cells #[.bool false, .slice none 0 0] 25)) (hv.here.chg C0 (Or.inr (Or.inr (Nat.le_refl 0)))) hB hcap
  have hsz : (w.alloc (.cells #[.bool false, .slice none 0 0] 25)).heap.size = w.heap.size + 1 := by simp
  have HE : Hid (dirE xs = if dirG xs = true then entsTo xs (xs.length / 16) else []) := rfl
  generalize entsTo xs (xs.length / 16) = ts at *
  generalize dirE xs = es at *
  clear hv hB
  generalize xs.length = L at *
  have HC0 : Hid (Chg 0 0 w (w.alloc (.cells #[.bool false, .slice none 0 0] 25))) := C0
  have HB0 : Hid ((w.alloc (.cells #[.bool false, .slice none 0 0] 25)).heap[w.heap.size]? = some (.cells #[.bool false, .slice none 0 0] 25 (0, 0))) := hb0
  clear C0 hb0
  have HN : Hid (Calls Try.prog 14 #[.slice ao L cap] (w.alloc (.cells #[.bool false, .slice none 0 0] 25)) fun e w' =>
      (dirG xs = true ∧ ∃ bd bm v D, e = .returned (.tuple #[.pointer (some ⟨bd, 0, none⟩), .bool true]) ∧ DirO (w.heap.size + 1) w' bd bm v D ts ∧ Chg 0 0 (w.alloc (.cells #[.bool false, .slice none 0 0] 25)) w') ∨
      (dirG xs = false ∧ ∃ p, e = .returned (.tuple #[.pointer p, .bool false]) ∧ Chg 0 0 (w.alloc (.cells #[.bool false, .slice none 0 0] 25)) w')) := by rw [hsz] at hN; exact hN
  clear hN
  go_enter Try.func6, Try.ntmps6
  go_wp2_with fail
  refine HN.out.mono ?_
  clear HN
  rintro e w2 (⟨hg, bd, bm, v, D, rfl, hd, hc⟩ | ⟨hg, p, rfl, hc⟩)
  · obtain ⟨va, vc, rfl, _⟩ := hd.rows
    have hb2 := (hc.block _ (Array.getElem?_eq_some_iff.1 HB0.out).1 (by omega)).trans HB0.out
    have HC2 : Hid (Chg 0 0 w w2) := HC0.out.trans hc
    have He : Hid (es = ts) := by show _ = _; rw [HE.out, if_pos hg]
    obtain ⟨p0, p1⟩ := dir_cells hd.cells
    have k0 : w2.cell? ⟨w.heap.size, 0, none⟩ = some (.bool false) := by simp [World.cell?, hb2]
    have k1 : w2.cell? ⟨w.heap.size, 1, none⟩ = some (.slice none 0 0) := by simp [World.cell?, hb2]
    have f0 : w2.frozen? ⟨w.heap.size, 0, none⟩ = false := by simp [World.frozen?, hb2]
    have f1 : w2.frozen? ⟨w.heap.size, 1, none⟩ = false := by simp [World.frozen?, hb2]
    have HO : Hid (OwnE ((w2.setCell ⟨w.heap.size, 0, none⟩ (.bool true)).setCell ⟨w.heap.size, 1, none⟩ (.slice va ts.length vc)) w.heap.size 34 (.slice va ts.length vc) ts) := by
      have hlt := fun g hg => (hd.own.lt g hg).1
      refine OwnE.chg (l := w.heap.size) (r := w.heap.size + 1) ?_ (Chg.setCell (Chg.setCell (Chg.refl _ _ _) (p := ⟨w.heap.size, 0, none⟩) (Or.inl ⟨Nat.le_refl _, Nat.lt_succ_self _⟩) _) (p := ⟨w.heap.size, 1, none⟩) (Or.inl ⟨Nat.le_refl _, Nat.lt_succ_self _⟩) _) (fun g hg => Or.inr (hlt g hg))
      exact (hd.low (Nat.le_succ _)).own
    have HCf : Hid (Chg 0 0 w ((w2.setCell ⟨w.heap.size, 0, none⟩ (.bool true)).setCell ⟨w.heap.size, 1, none⟩ (.slice va ts.length vc))) := (HC2.out.setCell (Or.inr (Nat.le_refl _)) _).setCell (Or.inr (Nat.le_refl _)) _
    have Hg : Hid (dirG xs = true) := hg
    clear hc hb2 hd hg
    go_wp2
    exact bodyPost_ret (v := .agg #[.bool true, .slice va ts.length vc]) (by simp [results, Try.results6, go_sem, *]) rfl ⟨_, by rw [Hg.out], by rw [He.out]; exact HO.out, HCf.out⟩
  · have hb2 := (hc.block _ (Array.getElem?_eq_some_iff.1 HB0.out).1 (by omega)).trans HB0.out
    have HC2 : Hid (Chg 0 0 w w2) := HC0.out.trans hc
    have He : Hid (es = []) := by show _ = _; rw [HE.out, if_neg (by rw [hg]; simp)]
    have k0 : w2.cell? ⟨w.heap.size, 0, none⟩ = some (.bool false) := by simp [World.cell?, hb2]
    have k1 : w2.cell? ⟨w.heap.size, 1, none⟩ = some (.slice none 0 0) := by simp [World.cell?, hb2]
    have f0 : w2.frozen? ⟨w.heap.size, 0, none⟩ = false := by simp [World.frozen?, hb2]
    have f1 : w2.frozen? ⟨w.heap.size, 1, none⟩ = false := by simp [World.frozen?, hb2]
    have Hg : Hid (dirG xs = false) := hg
    clear hc hb2 hg
    go_wp2
    exact bodyPost_ret (v := .agg #[.bool false, .slice none 0 0]) (by simp [results, Try.results6, go_sem, *]) rfl ⟨_, by rw [Hg.out], by rw [He.out]; exact OwnE.zero _ _ _, by first | exact HC2.out | exact (HC2.out.setCell (Or.inr (Nat.le_refl _)) _).setCell (Or.inr (Nat.le_refl _)) _⟩

end Go.Proofs.Ytilnlphkkbflaaa
