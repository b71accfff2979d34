/- described of the program: a descriptor and its copies. -/
import Derived.Test.YteligghapkleaaaGreatDoorJBody
import Derived.Test.YteligghapkleaaaGreatDoorSmall
import Derived.Test.YteligghapkleaaaGreatDoorJDescr
import Derived.Test.YteligghapkleaaaGreatDoorTagOwn
import Derived.Test.YteligghapkleaaaGreatDoorSpecBody2
namespace Go.Proofs.YteligghapkleaaaGreatDoor
open Go.RowKit

theorem made_rep (z : Value) (m n : Nat) (hm : 0 < m) : (madeCells (List.replicate m z).toArray n).toList = List.replicate n z := by
  apply List.ext_getElem?
  intro j
  by_cases hj : j < n
  · have : j % m < m := Nat.mod_lt _ hm
    simp [madeCells, hj, this]
  · simp [madeCells, hj]
theorem tagC_append (A B : List (Int × Bool)) : tagC (A ++ B) = tagC A ++ tagC B := by unfold tagC; rw [List.flatMap_append]
theorem tagC_made (n : Nat) : (madeCells #[.int .i64 0, .bool false] (n * 2)).toList = tagC (List.replicate n (0, false)) := by
  apply List.ext_getElem?
  intro j
  by_cases hj : j < n * 2
  · have hn : j / 2 < n := by omega
    obtain ⟨e1, e2⟩ := made2_get (.int .i64 0) (.bool false) n (j / 2) hn
    obtain ⟨f1, f2⟩ := tagC_at (List.replicate n (0, false)) (j / 2) (by simpa using hn)
    have g : (List.replicate n ((0 : Int), false)).getD (j / 2) (0, false) = (0, false) := by simp [List.getD_eq_getElem?_getD, hn]
    rw [g] at f1 f2
    rcases Nat.mod_two_eq_zero_or_one j with h | h
    · rw [show j = j / 2 * 2 by omega, e1, f1]
    · rw [show j = j / 2 * 2 + 1 by omega, e2, f2]
  · rw [List.getElem?_eq_none (by simp [madeCells]; omega), List.getElem?_eq_none (by rw [tagC_length]; simp; omega)]
theorem tagC_put (A : List (Int × Bool)) (m k : Nat) (hk : A.length = k) (x : Int) (e : Bool) : ((tagC (A ++ List.replicate (m + 1) (0, false))).set (k * 2) (.int .i64 x)).set (k * 2 + 1) (.bool e) = tagC (A ++ [(x, e)] ++ List.replicate m (0, false)) := by
  have hl : (tagC A).length = k * 2 := by rw [tagC_length, hk]
  have e1 : tagC (List.replicate (m + 1) ((0 : Int), false)) = .int .i64 0 :: .bool false :: tagC (List.replicate m (0, false)) := by rw [List.replicate_succ]; rfl
  rw [tagC_append, tagC_append, tagC_append, e1, List.set_append_right _ _ (by omega), List.set_append_right _ _ (by omega), hl, Nat.sub_self, Nat.add_sub_cancel_left]
  simp [tagC]

/-- A row of cells, written in its midst. -/
theorem wpList_store_at {P : Program} {ops : Array Oper} {rest : List Oper} {o : Oper} {a : Act} {w : World} {Q : Exit → Act → World → Prop} (hgd : o.guard = none) (T : TypeId) (p v : Operand) (ho : o.op = .store T p v) (hd : o.dst = none) (g off : Nat) (hp : a.eval p = .pointer (some ⟨g, off, none⟩))
    (full L : List Value) (t : TypeId) (hv : a.eval v = .agg full.toArray) (hg : w.heap[g]? = some (.cells L.toArray t (0, 0))) (hl : off + full.length ≤ L.length) (hi : (P.info? T).map (·.size) = some full.length) (h1 : ∀ v ∈ full, v.oneCell' = true)
    (h : ∀ w', Hid (w'.heap[g]? = some (.cells (splice L off full).toArray t (0, 0))) → Chg g (g + 1) w w' → wpList P ops Q rest a w') : wpList P ops Q (o :: rest) a w := by
  have ht : w.there g off full.toArray.size := by
    intro j hj
    have hj' : j < full.length := by simpa using hj
    refine ⟨?_, ?_⟩
    · simp only [World.cell?, hg]; simp; omega
    · simp [World.frozen?, hg]
  refine wpList_plain hgd fun K hK => ?_
  refine wp_store_mid T p v ho g off full.toArray hp hv ht (by simpa using hi) (by rw [Array.all_eq_true_iff_forall_mem]; intro x hx; exact h1 x (by simpa using hx)) ?_
  rw [hd]
  exact hK _ _ (h _ (heap_setCells g t full off w L hg hl) (Chg.setCells g _ off w))

theorem arrayAtD (w : World) (a : Addr) (n cap : Nat) (hn : 64 ≤ n) : (Instr.arrayAt 98 (.slice (some a) n cap)).run Tryz.prog w = .ok (.pointer (some a)) w := by
  have : ¬ n < 64 := by omega
  simp [Instr.arrayAt, run_underlying Tryz.underlying98, this]

theorem Tryz.infoBk : (Tryz.prog.info? 98).map (fun i => (i.zero, i.size, i.bytes)) = some (some (.agg (List.replicate 64 (.int .u8 0)).toArray), 64, 64) := by kernel_rfl

theorem own_arr {w : World} {base g n size : Nat} {e : TypeId} {xs : List Value} (h : w.ownsRow base e size (.slice (some ⟨g, 0, none⟩) n n) n xs) : ArrC w g e xs ∧ base ≤ g := by
  obtain ⟨h1, h2⟩ := h
  rcases h2 with ⟨e, _⟩ | ⟨g', cap, cur, e, hg, hh, hc, hm, hs, ht⟩
  · cases e
  · cases e
    refine ⟨?_, hg⟩
    unfold ArrC
    rw [hh]
    have : xs = cur.toList := by rw [← ht]; exact List.take_of_length_le (by rw [Array.length_toList, hs]; exact Nat.le_refl _)
    rw [this]

/-- The blocks, the first k copies of which are there. -/
def blkC (hs : List Wr) (k : Nat) : List Value := List.replicate 64 (.int .u8 0) ++ (escs (hs.take k)).map (Value.int .u8) ++ List.replicate (64 * (hs.length - k)) (.int .u8 0)
theorem blkC_put {hs : List Wr} (h : ∀ x ∈ hs, x.2.length = 64) {k : Nat} (hk : k < hs.length) : splice (blkC hs k) (64 + 64 * k) ((escL (hs.getD k (0, [])).2).map (Value.int .u8)) = blkC hs (k + 1) := by
  have hd := h _ (List.getElem_mem hk)
  have hx : hs.getD k (0, []) = hs[k] := by simp [List.getD_eq_getElem?_getD, hk]
  rw [← hx] at hd
  unfold blkC
  rw [spliceEnd _ _ _ _ _ (by rw [List.length_append, List.length_map, List.length_replicate, escs_len (fun x hx => h x (List.mem_of_mem_take hx)), List.length_take, Nat.min_eq_left (by omega)]), escs_take hk, List.map_append, List.length_map, escL_length hd, List.append_assoc (List.replicate 64 _)]
  congr 2
  omega
theorem blkC_length {hs : List Wr} (h : ∀ x ∈ hs, x.2.length = 64) {k : Nat} (hk : k ≤ hs.length) : (blkC hs k).length = 64 + 64 * hs.length := by
  unfold blkC
  rw [List.length_append, List.length_append, List.length_map, List.length_replicate, List.length_replicate, escs_len (fun x hx => h x (List.mem_of_mem_take hx)), List.length_take, Nat.min_eq_left (by omega)]
  omega
theorem blkC_zero (hs : List Wr) : blkC hs 0 = List.replicate ((1 + hs.length) * 64) (.int .u8 0) := by
  unfold blkC
  rw [List.take_zero]
  show _ ++ [] ++ _ = _
  rw [List.append_nil, List.replicate_append_replicate]
  congr 1; omega
theorem blkC_last {q : Int} {hs : List Wr} (hd : (desB q hs).length = 64) : splice (blkC hs hs.length) 0 ((desB q hs).map (Value.int .u8)) = ((descBs q hs).flatten).map (Value.int .u8) := by
  unfold blkC
  rw [List.take_length, Nat.sub_self]
  unfold splice
  rw [List.take_zero, List.nil_append, List.length_map, hd, List.append_assoc, List.drop_append, List.drop_eq_nil_of_le (by simp)]
  unfold descBs escs
  simp

set_option maxRecDepth 20000 in
set_option maxHeartbeats 4000000 in
theorem described_calls (w : World) {lo hi : Nat} (q : Int) (hs : List Wr) (b off cap : Nat) (hok : OkT q hs []) (h0 : 1 ≤ hs.length) (hl : hs.length ≤ 17) (hM : Mag w)
    (h1 : ∀ i, i < hs.length → ∃ dv, w.cell? ⟨b, off + i * 2, none⟩ = some (.int .i64 (hs.getD i (0, [])).1) ∧ w.cell? ⟨b, off + i * 2 + 1, none⟩ = some dv ∧ View w lo hi .u8 dv (hs.getD i (0, [])).2) :
    Calls Tryz.prog 60 #[.int .i64 q, .slice (some ⟨b, off, none⟩) hs.length cap] w fun e w' => ∃ g, e = .returned (.slice (some ⟨g, 0, none⟩) (1 + hs.length) (1 + hs.length)) ∧ w.heap.size ≤ g ∧ ArrC w' g 98 ((descBs q hs).flatten.map (Value.int .u8)) ∧ Chg 0 0 w w' := by
  obtain ⟨n, hn⟩ : ∃ n, n = hs.length := ⟨_, rfl⟩
  have Hn : Hid _ := hn
  have HOK : Hid (OkT q hs []) := hok
  have HM : Hid (Mag w) := hM
  have H1 : Hid _ := h1
  rw [← hn] at h0 hl ⊢
  clear hok hM h1 hn
  obtain ⟨it, hit, tz0, tz1, tz2⟩ := info_parts Tryz.infoG
  obtain ⟨ib, hib, bz0, bz1, bz2⟩ := info_parts Tryz.infoBk
  have e1n : IntKind.i64.wrap (1 + (n : Int)) = 1 + (n : Int) := by rw [IntKind.wrap_i64]; omega
  go_enter Tryz.func60, Tryz.ntmps60
  go_wp2_with (at_make; refine wpList_make_full _ rfl _ _ 66 rfl w.heap.size 73 it _ 2 Tryz.underlying66 hit tz0 tz1 _ _ _ _ n rfl rfl rfl rfl (by rw [tz2]; omega) (by unfold maxLen; omega) (by omega) ?_)
  intro w1 hown1 hgr1
  obtain ⟨ha1, _⟩ := own_arr hown1
  have hc1 : Chg 0 0 w w1 := Chg.ofGrown hgr1 (by simp)
  have HA1 : Hid (ArrC w1 w.heap.size 73 (tagC (List.replicate n (0, false)))) := by show ArrC _ _ _ _; rw [← tagC_made]; exact ha1
  have HC1 : Hid _ := hc1
  have s1 := ha1.lt
  clear hown1 hgr1 ha1 hc1
  go_wp2_with (at_make; refine wpList_make_full _ rfl _ _ 124 rfl w.heap.size 98 ib _ 64 Tryz.underlying124 hib bz0 bz1 _ _ _ _ (1 + n) rfl rfl (by omega) (by omega) (by rw [bz2]; omega) (by unfold maxLen; omega) (by omega) ?_)
  intro w2 hown2 hgr2
  obtain ⟨ha2, _⟩ := own_arr hown2
  have hc2 : Chg 0 0 w1 w2 := Chg.ofGrown hgr2 (by simp)
  have HB2 : Hid (ArrC w2 w1.heap.size 98 (blkC hs 0)) := by show ArrC _ _ _ _; rw [blkC_zero, ← Hn.out, ← made_rep (.int .u8 0) 64 ((1 + n) * 64) (by omega)]; exact ha2
  have HA2 : Hid _ := HA1.out.chg hc2 (by omega)
  have HC2 : Hid _ := HC1.out.trans hc2
  have s2 := ha2.lt
  clear hown2 hgr2 ha2 hc2 HA1 HC1
  generalize w1.heap.size = gB at *
  go_wp2
  go_loopw [20] (fun x wr => ∃ k : Nat, k ≤ n ∧ x = .int .i64 k ∧ ArrC wr w.heap.size 73 (tagC ((hs.take k).map tagOf ++ List.replicate (n - k) (0, false))) ∧ ArrC wr gB 98 (blkC hs k) ∧ Chg 0 0 w wr) (fun x _ => n - (intOf x).toNat)
  case atStart => exact ⟨0, Nat.zero_le _, rfl, HA2.out, HB2.out, HC2.out⟩
  case round =>
    clear HA2 HB2 HC2
    obtain ⟨k, hk, rfl, ha, hb, hc⟩ := hrel
    by_cases hlt : k < n
    · have hlx : k < hs.length := by have := Hn.out; omega
      have hi' : (k : Int) < (n : Int) := by omega
      obtain ⟨dv, r1, r2, r3⟩ := H1.out k hlx
      have c1 := hc.cell r1 (by omega)
      have c2 := hc.cell r2 (by omega)
      have v3 := r3.chg hc (by omega)
      have hx : hs.getD k (0, []) = hs[k] := by simp [List.getD_eq_getElem?_getD, hlx]
      have hdat := HOK.out.data _ (List.getElem_mem hlx)
      have hbyt := HOK.out.byt _ (List.getElem_mem hlx)
      rw [← hx] at hdat hbyt
      obtain ⟨xb, xo, xc, rfl, hxr⟩ : ∃ xb xo xc, dv = .slice (some ⟨xb, xo, none⟩) 64 xc ∧ wr.rangeAt xb xo ((hs.getD k (0, [])).2.map (Value.int .u8)) := by
        obtain ⟨ao, xc, e, _, _, h⟩ := v3
        rcases h with h | ⟨xb, xo, rfl, _, _, h3⟩
        · rw [h] at hdat; simp at hdat
        · refine ⟨xb, xo, xc, by rw [e, hdat], fun j v hj => ?_⟩
          have hjl : j < (hs.getD k (0, [])).2.length := by have := (List.getElem?_eq_some_iff.1 hj).1; simpa using this
          rw [h3 j hjl, ← hj]
          simp only [List.getD_eq_getElem?_getD] at hjl ⊢
          simp [hjl]
      have HPut : Hid _ := blkC_put HOK.out.data hlx
      have HBl : Hid ((blkC hs k).length = 64 + 64 * n) := by show _ = _; rw [blkC_length HOK.out.data (by omega), Hn.out]
      have HTg : Hid (((tagC ((hs.take k).map tagOf ++ List.replicate (n - k) (0, false))).set (k * 2) (.int .i64 (hs.getD k (0, [])).1)).set (k * 2 + 1) (.bool (decide ((hs.getD k (0, [])).2.take 4 = mg))) = tagC ((hs.take (k + 1)).map tagOf ++ List.replicate (n - (k + 1)) (0, false))) := by
        show _ = _
        rw [show n - k = n - (k + 1) + 1 by omega, tagC_put _ _ _ (by rw [List.length_map, List.length_take]; omega), tags_take hlx]
        rfl
      have HTl : Hid ((tagC ((hs.take k).map tagOf ++ List.replicate (n - k) (0, false))).length = n * 2) := by
        show _ = _
        rw [tagC_length, List.length_append, List.length_map, List.length_take, List.length_replicate]; omega
      have hM := HM.out.chg hc (by omega)
      have HA : Hid (ArrC wr w.heap.size 73 (tagC ((hs.take k).map tagOf ++ List.replicate (n - k) (0, false)))) := ha
      have HB : Hid (ArrC wr gB 98 (blkC hs k)) := hb
      have HC : Hid _ := hc
      have HEl : Hid _ := escL_length hdat
      have HXl : Hid _ := hdat
      have HXb : Hid _ := hbyt
      have hgB := hb.lt
      have hgw := ha.lt
      generalize tagC ((hs.take k).map tagOf ++ List.replicate (n - k) (0, false)) = tC at *
      generalize blkC hs k = bC at *
      clear r1 r2 r3 v3 hx hdat hbyt ha hb hc
      generalize hs.getD k (0, []) = hk0 at *
      obtain ⟨x, dat⟩ := hk0
      simp only at c1 hxr HPut HTg HEl HXl HXb
      obtain ⟨cs, hcs⟩ : ∃ cs, cs = dat.map (Value.int .u8) := ⟨_, rfl⟩
      have HXr : Hid (wr.rangeAt xb xo cs) := by show wr.rangeAt _ _ _; rw [hcs]; exact hxr
      have hcl : cs.length = 64 := by rw [hcs, List.length_map]; exact HXl.out
      have hics : (Tryz.prog.info? 98).map (·.size) = some cs.length := by rw [hcl]; kernel_rfl
      have hN := fun W (h : Mag W) => escapeM_calls W dat HXl.out HXb.out h
      rw [← hcs] at hN
      obtain ⟨es, hes⟩ : ∃ es, es = (escL dat).map (Value.int .u8) := ⟨_, rfl⟩
      rw [← hes] at hN
      obtain ⟨ee, hee⟩ : ∃ ee, ee = decide (dat.take 4 = mg) := ⟨_, rfl⟩
      rw [← hee] at hN
      have Hes : Hid _ := hes
      have Hee : Hid _ := hee
      have Hesl : Hid (es.length = 64) := by show _ = _; rw [hes, List.length_map]; exact HEl.out
      have HesV : Hid (∀ v ∈ es, v.oneCell' = true) := by show ∀ v ∈ es, v.oneCell' = true; rw [hes]; exact ints_oneCell _ _
      have hies : (Tryz.prog.info? 98).map (·.size) = some es.length := by rw [Hesl.out]; kernel_rfl
      rw [← hes] at HPut
      rw [← hee] at HTg
      clear hcs hes hee hcl
      have har := fun w' => arrayAtD w' ⟨xb, xo, none⟩ 64 xc (by omega)
      have u44 := Tryz.underlying98
      have C3 : Chg 0 0 wr (wr.alloc (.cells #[.int .i64 x, .slice (some ⟨xb, xo, none⟩) 64 xc] 52)) := Chg.alloc (Chg.refl 0 0 wr) _
      have HH3 : Hid ((wr.alloc (.cells #[.int .i64 x, .slice (some ⟨xb, xo, none⟩) 64 xc] 52)).heap[wr.heap.size]? = some (.cells #[.int .i64 x, .slice (some ⟨xb, xo, none⟩) 64 xc] 52 (0, 0))) := heap_new _ _
      have HA3 : Hid (ArrC (wr.alloc (.cells #[.int .i64 x, .slice (some ⟨xb, xo, none⟩) 64 xc] 52)) w.heap.size 73 tC) := HA.out.chg C3 (by omega)
      have HB3 : Hid (ArrC (wr.alloc (.cells #[.int .i64 x, .slice (some ⟨xb, xo, none⟩) 64 xc] 52)) gB 98 bC) := HB.out.chg C3 (by omega)
      have HC3 : Hid _ := HC.out.trans C3
      have HX3 : Hid ((wr.alloc (.cells #[.int .i64 x, .slice (some ⟨xb, xo, none⟩) 64 xc] 52)).rangeAt xb xo cs) := fun j v hj => C3.cell (HXr.out j v hj) (by omega)
      have hM3 := hM.chg C3 (by omega)
      have s3 : (wr.alloc (.cells #[.int .i64 x, .slice (some ⟨xb, xo, none⟩) 64 xc] 52)).heap.size = wr.heap.size + 1 := by simp
      clear C3 HA HB HC HXr hxr hM
      go_upto_region 6 with fail
      clear c1 c2
      generalize wr.alloc (.cells #[.int .i64 x, .slice (some ⟨xb, xo, none⟩) 64 xc] 52) = w3 at *
      obtain ⟨d0, d1, _, _⟩ := two_cells HH3.out
      go_wp2_with (refine wpList_load_mid rfl 98 (.tmp 28) rfl xb xo rfl cs _ HX3.out u44 rfl hics ?_)
      refine (hN w3 hM3).mono ?_
      rintro e w4 ⟨rfl, h4⟩
      have HH4 : Hid _ := (h4.block _ (by omega) (by omega)).trans HH3.out
      have C5 : Chg 0 0 w4 (w4.alloc (.cells Z64.toArray 98)) := Chg.alloc (Chg.refl 0 0 w4) _
      have s4 := h4.size
      have hZ : (w4.alloc (.cells Z64.toArray 98)).heap[w4.heap.size]? = some (.cells Z64.toArray 98 (0, 0)) := heap_new _ _
      rw [← Z64_eq] at hZ
      have HZ : Hid (_ = _) := hZ
      have HA5 : Hid (ArrC (w4.alloc (.cells Z64.toArray 98)) w.heap.size 73 tC) := (HA3.out.chg h4 (by omega)).chg C5 (by omega)
      have HB5 : Hid (ArrC (w4.alloc (.cells Z64.toArray 98)) gB 98 bC) := (HB3.out.chg h4 (by omega)).chg C5 (by omega)
      have HC5 : Hid _ := (HC3.out.trans h4).trans C5
      have HH5 : Hid _ := (C5.block _ (by omega) (by omega)).trans HH4.out
      clear hZ h4 C5 HA3 HB3 HC3 HH3 HH4 HX3 hN d0 d1 hM3
      rw [← Z64_eq] at HA5 HB5 HC5 HH5
      go_upto_region 7 with (refine wpList_store_row rfl 98 (.tmp 9) (.tmp 31) rfl rfl w4.heap.size rfl es _ 98 rfl HZ.out (by rw [Hesl.out]; rfl) hies HesV.out ?_; intro w5 hb5 hc5)
      have HA6 : Hid (ArrC w5 w.heap.size 73 tC) := HA5.out.chg hc5 (by omega)
      have HB6 : Hid (ArrC w5 gB 98 bC) := HB5.out.chg hc5 (by omega)
      have HC6 : Hid _ := HC5.out.step hc5 (by omega)
      have hH6 := (hc5.block _ (Array.getElem?_eq_some_iff.1 HH5.out).1 (by omega)).trans HH5.out
      obtain ⟨d0, d1, _, _⟩ := two_cells hH6
      have HR6 : Hid _ := hb5
      have t0 := HA6.out.cell (k * 2) (List.getElem?_eq_getElem (show k * 2 < tC.length by rw [HTl.out]; omega))
      have t1 := HA6.out.cell (k * 2 + 1) (List.getElem?_eq_getElem (show k * 2 + 1 < tC.length by rw [HTl.out]; omega))
      have f0 := HA6.out.frozen (k * 2)
      have f1 := HA6.out.frozen (k * 2 + 1)
      generalize tC[k * 2]'(by rw [HTl.out]; omega) = tv0 at *
      generalize tC[k * 2 + 1]'(by rw [HTl.out]; omega) = tv1 at *
      clear HZ HA5 HB5 HC5 HH5 hb5 hc5 hH6
      have HA7 : Hid (ArrC ((w5.setCell ⟨w.heap.size, k * 2, none⟩ (.int .i64 x)).setCell ⟨w.heap.size, k * 2 + 1, none⟩ (.bool ee)) w.heap.size 73 (tagC ((hs.take (k + 1)).map tagOf ++ List.replicate (n - (k + 1)) (0, false)))) := by
        show ArrC _ _ _ _
        rw [← HTg.out]
        exact (HA6.out.put (k * 2) _).put (k * 2 + 1) _
      have C7 : Chg w.heap.size (w.heap.size + 1) w5 ((w5.setCell ⟨w.heap.size, k * 2, none⟩ (.int .i64 x)).setCell ⟨w.heap.size, k * 2 + 1, none⟩ (.bool ee)) := Chg.setCell (Chg.setCell (Chg.refl _ _ _) (p := ⟨w.heap.size, k * 2, none⟩) (Or.inl ⟨Nat.le_refl _, Nat.lt_succ_self _⟩) _) (p := ⟨w.heap.size, k * 2 + 1, none⟩) (Or.inl ⟨Nat.le_refl _, Nat.lt_succ_self _⟩) _
      have HB7 : Hid _ := HB6.out.chg C7 (by omega)
      have HC7 : Hid _ := HC6.out.step C7 (by omega)
      have hR7 := (C7.block _ (Array.getElem?_eq_some_iff.1 HR6.out).1 (by omega)).trans HR6.out
      have HR7 : Hid _ := row_rng hR7
      clear C7 HA6 HB6 HC6 HR6 hR7
      go_upto_region 8 with fail
      clear t0 t1 f0 f1 d0 d1
      generalize ((w5.setCell ⟨w.heap.size, k * 2, none⟩ (.int .i64 x)).setCell ⟨w.heap.size, k * 2 + 1, none⟩ (.bool ee)) = w7 at *
      have q1 : IntKind.i64.wrap (1 + (k : Int)) = 1 + (k : Int) := by rw [IntKind.wrap_i64]; omega
      have q2 : 1 + (k : Int) < ((1 + n : Nat) : Int) := by omega
      have q3 : (1 + (k : Int)).toNat * 64 = 64 + 64 * k := by omega
      go_wp2_with (first
        | (refine wpList_load_mid rfl 98 (.tmp 9) rfl w4.heap.size 0 rfl es _ HR7.out u44 rfl hies ?_)
        | (refine wpList_store_at rfl 98 (.tmp 44) (.tmp 43) rfl rfl gB (64 + 64 * k) rfl es bC 98 rfl HB7.out (by rw [HBl.out, Hesl.out]; omega) hies HesV.out ?_; intro w8 hb8 hc8))
      have HB8 : Hid (ArrC w8 gB 98 (blkC hs (k + 1))) := by show ArrC _ _ _ _; rw [← HPut.out]; exact hb8.out
      have HA8 : Hid _ := HA7.out.chg hc8 (by omega)
      have HC8 : Hid _ := HC7.out.step hc8 (by omega)
      clear hb8 hc8 HA7 HB7 HC7 HR7 q1 q2 q3
      go_wp2
      go_roundw
      case rel => exact ⟨k + 1, by omega, by go_num, HA8.out, HB8.out, HC8.out⟩
      case measure => simp [intOf]; omega
    · obtain rfl : k = n := by omega
      have hge : ¬ ((k : Int) < (k : Int)) := by omega
      have ht : hs.take k = hs := List.take_of_length_le (by have := Hn.out; omega)
      rw [ht, Nat.sub_self] at ha
      simp only [List.replicate_zero, List.append_nil] at ha
      have hgB := hb.lt
      have hgw := ha.lt
      have hM := HM.out.chg hc (by omega)
      have hl17 : (hs.map tagOf).length = k := by rw [List.length_map]; exact Hn.out.symm
      have HDl : Hid ((desB q hs).length = 64) := des_64 HOK.out.q0 HOK.out.q1 (by rw [← Hn.out]; omega) HOK.out.homes_in
      have HTC : Hid (∀ W, Chg 0 0 wr W → ∀ i, i < (hs.map tagOf).length → W.cell? ⟨w.heap.size, 0 + i * 2, none⟩ = some (.int .i64 ((hs.map tagOf).getD i (0, false)).1) ∧ W.cell? ⟨w.heap.size, 0 + i * 2 + 1, none⟩ = some (.bool ((hs.map tagOf).getD i (0, false)).2)) := fun W hW i hi => by
        obtain ⟨e1, e2⟩ := tagC_at (hs.map tagOf) i hi
        rw [Nat.zero_add]
        exact ⟨hW.cell (ha.cell _ e1) (by omega), hW.cell (ha.cell _ e2) (by omega)⟩
      have hqq : q ≤ 9223372036854775807 := by have := HOK.out.q1; omega
      have HEnc : Hid (∀ W, Chg 0 0 wr W → Calls Tryz.prog 73 #[.agg #[.int .u8 106, .int .u8 108, .int .u8 111, .int .u8 103, .int .i64 2, .int .i64 (k : Int), .int .i64 q, .slice (some ⟨w.heap.size, 0, none⟩) k k]] W fun e w' => e = .returned (.agg ((desB q hs).map (Value.int .u8)).toArray) ∧ Chg 0 0 W w') := fun W hW => by
        have h := encodedD_calls W k q (hs.map tagOf) w.heap.size 0 k (by omega) hqq (pn2 (by omega) (by omega)) (pn4 (by have := HOK.out.q0; omega) HOK.out.q1) (by rw [hl17]; omega) (fun x hx => by obtain ⟨y, hy, rfl⟩ := List.mem_map.1 hx; exact HOK.out.homes_in y hy) (HTC.out W hW)
        rw [hl17] at h
        unfold desB
        rw [← Hn.out]
        exact h
      have HLast : Hid (splice (blkC hs k) 0 ((desB q hs).map (Value.int .u8)) = ((descBs q hs).flatten).map (Value.int .u8)) := by show _ = _; rw [Hn.out]; exact blkC_last HDl.out
      have HBl : Hid ((blkC hs k).length = 64 + 64 * k) := by show _ = _; rw [blkC_length HOK.out.data (by rw [Hn.out]; omega), ← Hn.out]
      have HB : Hid (ArrC wr gB 98 (blkC hs k)) := hb
      have HC : Hid _ := hc
      obtain ⟨ds, hds⟩ : ∃ ds, ds = (desB q hs).map (Value.int .u8) := ⟨_, rfl⟩
      rw [← hds] at HEnc HLast
      have Hdl : Hid (ds.length = 64) := by show _ = _; rw [hds, List.length_map]; exact HDl.out
      have HdV : Hid (∀ v ∈ ds, v.oneCell' = true) := by show ∀ v ∈ ds, v.oneCell' = true; rw [hds]; exact ints_oneCell _ _
      have hids : (Tryz.prog.info? 98).map (·.size) = some ds.length := by rw [Hdl.out]; kernel_rfl
      have q2 : (0 : Int) < ((1 + k : Nat) : Int) := by omega
      generalize blkC hs k = bC at *
      clear hds ha hb hc hl17 ht
      go_wp2_with fail
      refine (descriptorOf_calls wr q w.heap.size 0 k k (by omega) hM).mono ?_
      rintro e w2 ⟨rfl, h2⟩
      have HC2 : Hid _ := HC.out.trans h2
      have HB2 : Hid (ArrC w2 gB 98 bC) := HB.out.chg h2 (by omega)
      have hN := HEnc.out w2 h2
      clear h2 HB HC
      go_wp2_with fail
      refine hN.mono ?_
      rintro e w3 ⟨rfl, h3⟩
      have HC3 : Hid _ := HC2.out.trans h3
      have HB3 : Hid _ := HB2.out.chg h3 (by omega)
      clear h3 HB2 HC2 hN
      go_wp2_with (refine wpList_store_at rfl 98 (.tmp 52) (.tmp 51) rfl rfl gB 0 rfl ds bC 98 rfl HB3.out (by rw [HBl.out, Hdl.out]; omega) hids HdV.out ?_; intro w4 hb4 hc4)
      have HB4 : Hid (ArrC w4 gB 98 ((descBs q hs).flatten.map (Value.int .u8))) := by show ArrC _ _ _ _; rw [← HLast.out]; exact hb4.out
      have HC4 : Hid _ := HC3.out.step hc4 (by omega)
      have HgB : Hid (w.heap.size ≤ gB) := by show _ ≤ _; omega
      clear hb4 hc4 HB3 HC3
      go_wp2
      go_ret
      exact ⟨_, rfl, HgB.out, HB4.out, HC4.out⟩

end Go.Proofs.YteligghapkleaaaGreatDoor
