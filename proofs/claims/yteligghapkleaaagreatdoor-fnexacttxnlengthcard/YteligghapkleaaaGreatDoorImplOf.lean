/- The blocks of a transaction, of the program: as a function to range over. -/
import Derived.Test.YteligghapkleaaaGreatDoorImplAhead
import Derived.Test.YteligghapkleaaaGreatDoorOnce
import Derived.Test.YteligghapkleaaaGreatDoorJCommit
import Derived.Test.YteligghapkleaaaGreatDoorImplCommit2
import Derived.Test.YteligghapkleaaaGreatDoorTxnImpl2
import Derived.Test.YteligghapkleaaaGreatDoorSpecTxn
namespace Go.Proofs.YteligghapkleaaaGreatDoor
open Go.RowKit Go.Shelf
attribute [local go_sem] Oper.semAt_some

/-- A place, and a block. -/
def encT (tl : List (List Int)) (z : Fin 1000 × Fin tl.length) : Array Value := #[.int .i64 (z.1.val : Int), .agg ((tl.getD z.2.val []).map (Value.int .u8)).toArray]
def diag (n : Nat) : List (Nat × Nat) := (List.range n).map fun i => (i, i)
def vals2 {K : Nat} (zs : List (Fin 1000 × Fin K)) : List (Nat × Nat) := zs.map fun z => (z.1.val, z.2.val)
/-- Blocks with their places. -/
def zO {K K' : Nat} (h : K ≤ K') (pre : List (Fin K)) : List (Fin 1000 × Fin K') := pre.zipIdx.map fun z => (⟨z.2 % 1000, Nat.mod_lt _ (by omega)⟩, ⟨z.1.val, by have := z.1.isLt; omega⟩)
theorem zO_snoc {K K' : Nat} (h : K ≤ K') (pre : List (Fin K)) (x : Fin K) : zO h (pre ++ [x]) = zO h pre ++ [(⟨pre.length % 1000, Nat.mod_lt _ (by omega)⟩, ⟨x.val, by have := x.isLt; omega⟩)] := by
  unfold zO
  rw [List.zipIdx_append, List.map_append]
  simp
theorem zO_length {K K' : Nat} (h : K ≤ K') (pre : List (Fin K)) : (zO h pre).length = pre.length := by unfold zO; simp
theorem zO_vals {K K' : Nat} (h : K ≤ K') (pre : List (Fin K)) (hl : pre.length ≤ 1000) (hp : pre.map Fin.val = List.range pre.length) : vals2 (zO h pre) = diag pre.length := by
  unfold vals2 zO diag
  apply List.ext_getElem
  · simp
  · intro i h1 h2
    have hi : i < pre.length := by simpa using h2
    have hx : pre[i].val = i := by
      have := congrArg (fun l => l[i]?) hp
      simpa [hi] using this
    simp [hx, Nat.mod_eq_of_lt (show i < 1000 by omega)]

set_option maxHeartbeats 1000000 in
theorem blocksAhead_calls (w : World) (x y z : Value) :
    Calls Tryz.prog 42 #[.agg #[x, y, z]] w fun e w' => e = .returned (.func (.func 55) #[] #[.pointer (some ⟨w.heap.size, 0, none⟩)]) ∧ w' = w.alloc (.cells #[x, y, z] 30) := by
  go_enter Tryz.func42, Tryz.ntmps42
  go_wp2
  go_ret
  exact ⟨rfl, rfl⟩
set_option maxHeartbeats 1000000 in
theorem blocksOf_calls (w : World) (x y z : Value) :
    Calls Tryz.prog 24 #[.agg #[x, y, z]] w fun e w' => e = .returned (.func (.func 40) #[] #[.pointer (some ⟨w.heap.size, 0, none⟩)]) ∧ w' = w.alloc (.cells #[x, y, z] 30) := by
  go_enter Tryz.func24, Tryz.ntmps24
  go_wp2
  go_ret
  exact ⟨rfl, rfl⟩

/-- The sum of some blocks. -/
def sumN (bs : List (List Int)) : Nat := 4294967295 - reg 4294967295 (nb bs.flatten)
theorem sumN_snoc (bs : List (List Int)) (b : List Int) : 4294967295 - reg (4294967295 - sumN bs) (nb b) = sumN (bs ++ [b]) := by
  unfold sumN
  have h := reg_lt (nb bs.flatten) 4294967295 (by omega)
  rw [show 4294967295 - (4294967295 - reg 4294967295 (nb bs.flatten)) = reg 4294967295 (nb bs.flatten) by omega, List.flatten_append, List.flatten_cons, List.flatten_nil, List.append_nil]
  unfold nb
  rw [List.map_append, reg_append]
theorem sumN_crc (bs : List (List Int)) : ((sumN bs : Nat) : Int) = crcV bs.flatten := by
  unfold sumN crcV
  have h := reg_lt (nb bs.flatten) 4294967295 (by omega)
  omega
theorem sumN_lt (bs : List (List Int)) : sumN bs ≤ 4294967295 := by unfold sumN; omega

theorem Sm.keep {w w' : World} {b : Nat} {d z : Int} {k : Nat} (h : Sm w b d z k) (hb : w'.heap[b]? = w.heap[b]?) : Sm w' b d z k :=
  ⟨(World.cell?_of_block (a := ⟨b, 0, none⟩) hb).trans h.c0, (World.cell?_of_block (a := ⟨b, 1, none⟩) hb).trans h.c1, fun o => (World.frozen?_of_block (a := ⟨b, o, none⟩) hb).trans (h.fr o),
    fun i hi => let ⟨x, hx⟩ := h.ex i hi; ⟨x, (World.cell?_of_block (a := ⟨b, 3 + i, none⟩) hb).trans hx⟩, fun i hi => (World.cell?_of_block (a := ⟨b, 3 + i, none⟩) hb).trans (h.tab i hi), let ⟨cs, hc⟩ := h.ty; ⟨cs, hb.trans hc⟩⟩

theorem sumN_nil : sumN [] = 0 := by
  unfold sumN nb
  rw [List.flatten_nil, List.map_nil]
  show 4294967295 - 4294967295 = 0
  omega
theorem SmR.keep {w w' : World} {b : Nat} (h : SmR w b) (hb : w'.heap[b]? = w.heap[b]?) : SmR w' b := h.elim (fun h => Or.inl (Sm.keep h hb)) (fun h => Or.inr (Sm.keep h hb))
theorem SmR.ty {w : World} {b : Nat} (h : SmR w b) : ∃ cs : Array Value, w.heap[b]? = some (.cells cs 94 (0, 0)) := h.elim (fun h => h.ty) (fun h => h.ty)

/-- What the loop over the blocks ahead keeps. -/
structure ofI (W : World) (l Bt lo hi s M : Nat) (t : Tx) (po : Option Addr) (pcap : Nat) (ao : Option Addr) (cap : Nat) (hKK : (BL t.seq t.homes t.revs).length ≤ (TL t).length) (J : Nat → List (Fin 1000 × Fin (TL t).length) → World → Prop) (pre : List (Fin (BL t.seq t.homes t.revs).length)) (V : World) : Prop where
  j : J M (zO hKK pre) V
  yb : V.heap[W.heap.size]? = some (.cells #[.func (.yield l) #[] #[]] 79 (0, 0))
  ks : KeepS (KA Bt lo hi) W V
  sr : SmR V s
  sm : V.heap[s + 1]? = some (.cells #[.int .u32 (sumN (pre.map fun x => (BL t.seq t.homes t.revs).getD x.val []) : Nat)] 83 (0, 0))
  ct : V.heap[s + 1 + 1]? = some (.cells #[.int .i64 (pre.length : Int)] 2 (0, 0))
  bt : V.heap[s + 3]? = some (.cells #[.int .i64 t.seq, .slice po t.homes.length pcap, .slice ao t.revs.length cap] 30 (0, 0))
def ofX {t : Tx} (M : Nat) (hKK : (BL t.seq t.homes t.revs).length ≤ (TL t).length) (Jx : Nat → List (Fin 1000 × Fin (TL t).length) → World → Prop) (c : Code) (pre : List (Fin (BL t.seq t.homes t.revs).length)) (V : World) : Prop := c = .ret ∧ Jx M (zO hKK pre) V

set_option maxRecDepth 100000 in
set_option maxHeartbeats 4000000 in
theorem of_seq (Bt lo hi : Nat) (t : Tx) (hv rv : Value) (w : World) (hl : cntT t ≤ 1048576) (hby : ∀ x ∈ t.homes, Byt x.2) (hM : Mag w) (hBt : w.heap[Bt]? = some (.cells #[.int .i64 t.seq, hv, rv] 30 (0, 0)))
    (h1 : PView w lo hi hv t.homes) (h2 : View w lo hi .i64 rv t.revs) (hhi : hi ≤ w.heap.size) :
    SeqM Tryz.prog 40 #[.pointer (some ⟨Bt, 0, none⟩)] (encT (TL t)) (KpT (KA Bt lo hi))
      (fun zs => vals2 zs = diag (TL t).length) (fun zs => vals2 zs = diag zs.length) 500 w := fun l J Jx W hW hJ hJx hJF hJxF hY h0 => by
  have hBtl := (Array.getElem?_eq_some_iff.1 hBt).1
  have hMl := hM.lt
  have hszW := hW.size
  have hKA : ∀ k, KA Bt lo hi k → k < W.heap.size := fun k hk => by unfold KA at hk; omega
  obtain ⟨po, pcap, rfl⟩ := h1.slice
  obtain ⟨ao, cap, rfl⟩ := h2.slice
  have HBt : Hid (∀ V, KeepS (KA Bt lo hi) W V → V.heap[Bt]? = some (.cells #[.int .i64 t.seq, .slice po t.homes.length pcap, .slice ao t.revs.length cap] 30 (0, 0))) := fun V h => (h Bt (Or.inl rfl)).trans ((hW.block Bt hBtl).trans hBt)
  have HP : Hid (∀ V, KeepS (KA Bt lo hi) W V → PView V lo hi (.slice po t.homes.length pcap) t.homes) := fun V h => h1.keep (fun b hb1 hb2 => (h b (Or.inr (Or.inl ⟨hb1, hb2⟩))).trans (hW.block b (by omega)))
  have HR : Hid (∀ V, KeepS (KA Bt lo hi) W V → View V lo hi .i64 (.slice ao t.revs.length cap) t.revs) := fun V h => h2.keep (fun b hb1 hb2 => (h b (Or.inr (Or.inl ⟨hb1, hb2⟩))).trans (hW.block b (by omega)))
  have HM : Hid (∀ V, KeepS (KA Bt lo hi) W V → Mag V) := fun V h => by
    have hb := (h 0 (Or.inr (Or.inr rfl))).trans (hW.block _ hMl)
    exact ⟨(World.cell?_of_block (a := ⟨0, 0, none⟩) hb).trans hM.m0, (World.cell?_of_block (a := ⟨0, 1, none⟩) hb).trans hM.m1, (World.cell?_of_block (a := ⟨0, 2, none⟩) hb).trans hM.m2, (World.cell?_of_block (a := ⟨0, 3, none⟩) hb).trans hM.m3⟩
  have K0 : KeepS (KA Bt lo hi) W W := fun _ _ => rfl
  have cA : Chg 0 0 W (W.alloc (.cells #[.func (.yield l) #[] #[]] 79)) := Chg.alloc (Chg.refl 0 0 W) _
  have zY := heap_new W (.cells #[.func (.yield l) #[] #[]] 79)
  have sA : (W.alloc (.cells #[.func (.yield l) #[] #[]] 79)).heap.size = W.heap.size + 1 := by simp
  have kA : KeepS (KA Bt lo hi) W (W.alloc (.cells #[.func (.yield l) #[] #[]] 79)) := fun k hk => cA.block k (hKA k hk) (by omega)
  obtain ⟨⟨t0, t1, t2⟩, _⟩ := tri (HBt.out _ kA)
  have hval := implValidTxn_calls (W.alloc (.cells #[.func (.yield l) #[] #[]] 79)) hl (show TView _ lo hi (.agg #[.int .i64 t.seq, .slice po t.homes.length pcap, .slice ao t.revs.length cap]) t from ⟨_, _, rfl, HP.out _ kA, HR.out _ kA⟩)
  have HMl : Hid (0 < W.heap.size) := by show _ < _; omega
  clear hM hBt h1 h2 hMl hBtl
  refine callsIn_of_wp_marks Tryz.func40 rfl trivial ?_ rfl
  simp only [Tryz.ntmps40, List.size_toArray, List.length_cons, List.length_nil, Nat.reduceAdd, Nat.reduceSub, Array.replicate_succ, Array.replicate_zero, List.push_toArray, List.append_toArray, List.nil_append, List.cons_append]
  gi_wp2
  refine ⟨trivial, rfl, (callsIn_wide.2 hval).mono ?_⟩
  generalize W.alloc (.cells #[.func (.yield l) #[] #[]] 79) = wA at *
  rintro e w1 ⟨rfl, cV⟩
  have cAV := cA.trans cV
  have zY1 := (cV.block _ (by omega) (by omega)).trans zY
  have s1 := cV.size
  have k1 : KeepS (KA Bt lo hi) W w1 := fun k hk => cAV.block k (hKA k hk) (by omega)
  obtain ⟨⟨u0, u1, u2⟩, _⟩ := tri (HBt.out _ k1)
  clear hval t0 t1 t2 zY cA cV kA
  by_cases hvt : ValidT t
  case neg =>
    rw [validT_false hvt]
    have hTL : TL t = [] := by unfold TL; rw [validT_false hvt]; rfl
    have hJ0 := h0 w1 (cAV.below (Or.inl (Nat.le_refl _)))
    gi_wp2
    refine ⟨_, results_none rfl _ _ _, ⟨_, rfl⟩, .inl ⟨_, [], by rw [hTL]; rfl, hJ0⟩⟩
  rw [validT_true hvt]
  have zS := zero_sums w1
  have hok := OkT.of hvt hby
  have HTL : Hid (TL t = BL t.seq t.homes t.revs ++ [comB t.seq (BL t.seq t.homes t.revs)]) := by show _ = _; unfold TL; rw [if_pos (validT_true hvt)]
  obtain ⟨⟨_, hs1, hs2⟩, _⟩ := hvt
  have cB : Chg 0 0 w1 (((w1.alloc (.cells ZS 94)).alloc (.cells #[.int .u32 0] 83)).alloc (.cells #[.int .i64 0] 2)) := ((Chg.alloc (Chg.refl 0 0 w1) _).alloc _).alloc _
  obtain ⟨x1, x2, x3, x4⟩ := alloc3 w1 (.cells ZS 94) (.cells #[.int .u32 0] 83) (.cells #[.int .i64 0] 2)
  have hSm0 : Sm (((w1.alloc (.cells ZS 94)).alloc (.cells #[.int .u32 0] 83)).alloc (.cells #[.int .i64 0] 2)) w1.heap.size 0 0 0 := by
    refine Sm.keep (Sm.new w1) ?_
    rw [Below.heap_alloc _ _ _ (by simp; omega), Below.heap_alloc _ _ _ (by simp)]
  have kB : KeepS (KA Bt lo hi) W (((w1.alloc (.cells ZS 94)).alloc (.cells #[.int .u32 0] 83)).alloc (.cells #[.int .i64 0] 2)) := fun k hk => (cB.block k (by have := hKA k hk; omega) (by omega)).trans (k1 k hk)
  obtain ⟨⟨u0, u1, u2⟩, _⟩ := tri (HBt.out _ kB)
  gi_wp2
  refine ⟨trivial, rfl, (callsIn_wide.2 (blocksAhead_calls _ _ _ _)).mono ?_⟩
  rintro e w2 ⟨rfl, rfl⟩
  have cC : Chg 0 0 (((w1.alloc (.cells ZS 94)).alloc (.cells #[.int .u32 0] 83)).alloc (.cells #[.int .i64 0] 2)) ((((w1.alloc (.cells ZS 94)).alloc (.cells #[.int .u32 0] 83)).alloc (.cells #[.int .i64 0] 2)).alloc (.cells #[.int .i64 t.seq, .slice po t.homes.length pcap, .slice ao t.revs.length cap] 30)) := Chg.alloc (Chg.refl 0 0 _) _
  have x5 := heap_new (((w1.alloc (.cells ZS 94)).alloc (.cells #[.int .u32 0] 83)).alloc (.cells #[.int .i64 0] 2)) (.cells #[.int .i64 t.seq, .slice po t.homes.length pcap, .slice ao t.revs.length cap] 30)
  have s5 : ((((w1.alloc (.cells ZS 94)).alloc (.cells #[.int .u32 0] 83)).alloc (.cells #[.int .i64 0] 2)).alloc (.cells #[.int .i64 t.seq, .slice po t.homes.length pcap, .slice ao t.revs.length cap] 30)).heap.size = (((w1.alloc (.cells ZS 94)).alloc (.cells #[.int .u32 0] 83)).alloc (.cells #[.int .i64 0] 2)).heap.size + 1 := by simp
  rw [x1] at x5 s5 ⊢
  clear u0 u1 u2 zS
  generalize (((w1.alloc (.cells ZS 94)).alloc (.cells #[.int .u32 0] 83)).alloc (.cells #[.int .i64 0] 2)) = wB at *
  generalize wB.alloc (.cells #[.int .i64 t.seq, .slice po t.homes.length pcap, .slice ao t.revs.length cap] 30) = wL at *
  obtain ⟨s, hs⟩ : ∃ s, s = w1.heap.size := ⟨_, rfl⟩
  rw [← hs] at x1 x2 x3 x4 x5 s5 hSm0 s1 ⊢
  have cBC := cB.trans cC
  have cL : Chg 0 0 W wL := cAV.trans cBC
  have kL : KeepS (KA Bt lo hi) W wL := fun k hk => cL.block k (hKA k hk) (by omega)
  have z0 := (cBC.block _ (by omega) (by omega)).trans zY1
  have z2 := (cC.block s (by omega) (by omega)).trans x2
  have z3 := (cC.block (s + 1) (by omega) (by omega)).trans x3
  have z4 := (cC.block (s + 1 + 1) (by omega) (by omega)).trans x4
  have hSmL := Sm.keep hSm0 (cC.block s (by omega) (by omega))
  have hKK : (BL t.seq t.homes t.revs).length ≤ (TL t).length := by rw [HTL.out, List.length_append]; omega
  obtain ⟨i1, i2⟩ := BL_64 128 (q := t.seq) (hs := t.homes) (rs := t.revs) (by omega) hok
  have hByt := BL_byt (q := t.seq) t.revs hby
  have hTLx : ∀ x, x < (BL t.seq t.homes t.revs).length → (TL t).getD x [] = (BL t.seq t.homes t.revs).getD x [] := fun x hx => by
    rw [HTL.out]
    simp only [List.getD_eq_getElem?_getD]
    rw [List.getElem?_append_left hx]
  have hseq := ahead_seq (s + 3) lo hi t.seq t.homes t.revs (.slice po t.homes.length pcap) (.slice ao t.revs.length cap) wL hok (by omega) (HM.out wL kL) x5 (HP.out wL kL) (HR.out wL kL) (by omega)
  clear cB cC cBC x2 x3 x4 hSm0 kB k1 zY1 cAV hs
  gi_wp2
  have hI' : OwnFrom wL.heap.size (ofI W l Bt lo hi s wL.heap.size t po pcap ao cap hKK J) := 
    fun pre A C row hi' hg hr => by
      have hne : ∀ k, k < wL.heap.size → some k ≠ row := fun k hk e => by have := (hr _ e.symm).1; omega
      have hal := (Array.getElem?_eq_some_iff.1 hi'.bt).1
      refine ⟨hJ _ _ A C row hi'.j hg (fun r e => ⟨by have := (hr r e).1; omega, (hr r e).2⟩), (hg.block _ (by omega) (hne _ (by omega))).trans hi'.yb, ?_, ?_, (hg.block _ (by omega) (hne _ (by omega))).trans hi'.sm, (hg.block _ (by omega) (hne _ (by omega))).trans hi'.ct, (hg.block _ (by omega) (hne _ (by omega))).trans hi'.bt⟩
      · intro k hk
        have hkl := hKA k hk
        exact (hg.block k (by omega) (hne _ (by omega))).trans (hi'.ks k hk)
      · exact hi'.sr.keep (hg.block s (by omega) (hne _ (by omega)))
  refine range_ownT (n := 0) (Kp := KpT (KA (s + 3) lo hi) (wL.heap.size + 2)) (gf := 55) (lb := #[.pointer (some ⟨s + 3, 0, none⟩)]) rfl (enters_of Tryz.func55 (by kernel_rfl) rfl)
    hseq (fun h => h) (Below.refl _ _) (fun _ => rfl) KpT.trans (fun V o _ hb => KpT.put o hb (fun k hk => by unfold KA at hk; omega) (by omega))
    (ofI W l Bt lo hi s wL.heap.size t po pcap ao cap hKK J) (ofX wL.heap.size hKK Jx)
    ?hI ?hIx ?h0 (fun x a' V => ∃ Bx, wL.heap.size ≤ Bx ∧ V.heap[Bx]? = some (.cells (((BL t.seq t.homes t.revs).getD x.val []).map (Value.int .u8)).toArray 98 (0, 0)) ∧ a' = { tmps := #[.func (.yield l) #[] #[], .pointer (some ⟨Bt, 0, none⟩), .pointer (some ⟨W.heap.size, 0, none⟩), .pointer (some ⟨s, 0, none⟩), .pointer (some ⟨s + 1, 0, none⟩), .pointer (some ⟨s + 1 + 1, 0, none⟩), .pointer (some ⟨Bx, 0, none⟩), .agg #[.int .i64 t.seq, .slice po t.homes.length pcap, .slice ao t.revs.length cap], .bool true, .bool false, .agg #[.int .i64 t.seq, .slice po t.homes.length pcap, .slice ao t.revs.length cap], .func (.func 55) #[] #[.pointer (some ⟨s + 3, 0, none⟩)], .agg (((BL t.seq t.homes t.revs).getD x.val []).map (Value.int .u8)).toArray, undef, undef, undef, undef, undef, undef, undef, undef, undef, undef, undef, undef, undef, undef, undef, undef, undef, undef, undef, undef, undef], defers := [] })
    ?hAx ?assign ?body ?done ?stop
  case hI =>
    exact hI'
  case hIx =>
    exact fun c pre A C row hs' hg hr => by
      obtain ⟨h1, h2⟩ := hs'
      exact ⟨h1, hJx _ _ A C row h2 hg (fun r e => ⟨by have := (hr r e).1; omega, (hr r e).2⟩)⟩
  case h0 =>
    intro V hV hsz
    have cV := Chg.ofBelow hV 0 0
    refine ⟨?_, (hV.block _ (by omega)).trans z0, ?_, Or.inl (Sm.keep hSmL (hV.block _ (by omega))), by rw [List.map_nil, sumN_nil]; exact (hV.block _ (by omega)).trans z3, (hV.block _ (by omega)).trans z4, (hV.block _ (by omega)).trans x5⟩
    · have h := h0 wL (cL.below (Or.inl (Nat.le_refl _)))
      exact hJ _ _ wL V none h (chg_grown cV) (fun r e => by cases e)
    · intro k hk
      have hkl := hKA k hk
      exact (hV.block k (by omega)).trans (kL k hk)
  case hAx =>
    rintro x a' _ A C row ⟨Bx, h1, h2, h3⟩ hg hr
    exact ⟨Bx, h1, cells_stay h2 hg (fun r e => (hr r e).2), h3⟩
  case assign =>
    rintro l' pre x V K' hMV hrc hi' hK'
    simp only [encA]
    have hx := x.isLt
    have hln : (((BL t.seq t.homes t.revs).getD x.val []).map (Value.int .u8)).length = 64 := by
      rw [List.length_map, show (BL t.seq t.homes t.revs).getD x.val [] = (BL t.seq t.homes t.revs)[x.val] by simp [List.getD_eq_getElem?_getD, hx]]
      exact i1 _ (List.getElem_mem hx)
    have h1c : ∀ v ∈ ((BL t.seq t.homes t.revs).getD x.val []).map (Value.int .u8), v.oneCell' = true := ints_oneCell _ _
    have hics : (Tryz.prog.info? 98).map (·.size) = some (((BL t.seq t.homes t.revs).getD x.val []).map (Value.int .u8)).length := by rw [hln]; kernel_rfl
    generalize ((BL t.seq t.homes t.revs).getD x.val []).map (Value.int .u8) = cs at *
    gi_wp2_with (refine wpListIn_plain rfl fun K hK => ?_; refine opIn_of (fun _ h => by cases h) ?_; refine wp_store_row 98 (.tmp 6) (.tmp 12) rfl rfl V.heap.size rfl cs _ 98 rfl (heap_new V _) (by rw [hln]; rfl) hics h1c ?_; intro wg hbg hcg; refine hK _ _ ?_)
    have cv : Chg 0 0 V wg := (Chg.alloc (Chg.refl 0 0 V) _).step hcg (Or.inr (Or.inl (Nat.le_refl _)))
    have hal := (Array.getElem?_eq_some_iff.1 hi'.bt).1
    refine hK' _ _ ⟨cv.size, cv.block _ (by omega) (by omega), cv.block _ (by omega) (by omega)⟩ (KpT.chg0 cv (fun k hk => by unfold KA at hk; omega)) ?_ ⟨V.heap.size, by omega, hbg, rfl⟩
    exact hI' _ V wg none hi' (chg_grown cv) (fun r e => by cases e)
  case body =>
    rintro l' pre x a' V hMV ⟨r0, hrc⟩ hi' ⟨Bx, hBx, hbx, rfl⟩ hlen
    have hmx : Tryz.prog.follows .mixedOrders = true := by kernel_rfl
    have hpl : pre.length < 500 := by unfold pcN at hlen; omega
    have hx := x.isLt
    have hgx : (BL t.seq t.homes t.revs).getD x.val [] = (BL t.seq t.homes t.revs)[x.val] := by simp [List.getD_eq_getElem?_getD, hx]
    obtain ⟨blk, hblk⟩ : ∃ blk, blk = (BL t.seq t.homes t.revs).getD x.val [] := ⟨_, rfl⟩
    have hb64 : blk.length = 64 := by rw [hblk, hgx]; exact i1 _ (List.getElem_mem hx)
    have hbB : Byt blk := by rw [hblk, hgx]; exact hByt _ (List.getElem_mem hx)
    have hTx := hTLx x.val hx
    rw [← hblk] at hTx hbx ⊢
    obtain ⟨fn, tmps, assign, body, hy, hR⟩ := hY wL.heap.size (zO hKK pre) (⟨pre.length % 1000, Nat.mod_lt _ (by omega)⟩, ⟨x.val, by omega⟩) V (by omega) (by omega) hi'.j (by rw [zO_length]; omega)
    simp only [encT] at hy
    rw [hTx, Nat.mod_eq_of_lt (show pre.length < 1000 by omega)] at hy
    obtain ⟨c, hc⟩ : ∃ c, c = sumN (pre.map fun x => (BL t.seq t.homes t.revs).getD x.val []) := ⟨_, rfl⟩
    have hcl : c ≤ 4294967295 := by rw [hc]; exact sumN_lt _
    obtain ⟨n', hn'⟩ : ∃ n', n' = sumN ((pre ++ [x]).map fun x => (BL t.seq t.homes t.revs).getD x.val []) := ⟨_, rfl⟩
    have Hn' : Hid _ := hn'
    have HSn : Hid (4294967295 - reg (4294967295 - c) (nb blk) = n') := by
      show _ = _
      rw [hn', List.map_append, hc, sumN_snoc, hblk]; rfl
    have hsm := hi'.sm
    rw [← hc] at hsm
    have Hb64 : Hid _ := hb64
    have HbB : Hid (Byt blk) := hbB
    obtain ⟨cs, hcs⟩ : ∃ cs, cs = blk.map (Value.int .u8) := ⟨_, rfl⟩
    rw [← hcs] at hy hbx ⊢
    have Hcs : Hid _ := hcs
    have hln : cs.length = 64 := by rw [hcs, List.length_map]; exact hb64
    have hics : (Tryz.prog.info? 98).map (·.size) = some cs.length := by rw [hln]; kernel_rfl
    have u44 := Tryz.underlying98
    have HRg : Hid _ := row_rng hbx
    have q1 := Boxed.cell hi'.yb
    have q2 := Boxed.cell hi'.ct
    have HbX : Hid _ := hbx
    have HZsn : Hid _ := zO_snoc hKK pre x
    clear hcs hb64 hbB hblk hgx hTx hc hbx hln hseq hn'
    gi_wp2_with (refine wpListIn_plain rfl fun K hK => ?_; refine opIn_of (fun _ h => by cases h) ?_; refine wp_load_mid 98 (.tmp 6) rfl Bx 0 rfl cs _ HRg.out u44 rfl hics ?_; refine hK _ _ ?_)
    refine ⟨rfl, (round_any hR l').mono ?_⟩
    rintro e V3 ⟨⟨m1, m2⟩, hres⟩
    have hs3 := m1.size
    have y0 := (m1.same W.heap.size (Nat.le_refl _) (by omega)).trans hi'.yb
    have y1 := m1.same s (by omega) (by omega)
    have y2 := (m1.same (s + 1) (by omega) (by omega)).trans hsm
    have y3 := (m1.same (s + 1 + 1) (by omega) (by omega)).trans hi'.ct
    have y4 := (m1.same (s + 3) (by omega) (by omega)).trans hi'.bt
    have ys := hi'.sr.keep y1
    have yk := hi'.ks.trans m2.1
    have yb := (m2.2.1 _ _ _ _ tyA_b HbX.out).trans HbX.out
    have kq3 : KpT (KA (s + 3) lo hi) (wL.heap.size + 2) V V3 := ⟨fun k hk => by
      rcases hk with rfl | hk | hk
      · exact m1.same _ (by omega) (by omega)
      · exact m2.1 k (Or.inr (Or.inl hk))
      · exact m2.1 k (Or.inr (Or.inr hk)), m2.2.1, fun k o hk => m2.2.2 k o (by omega)⟩
    have k20 : Keep2 wL.heap.size V V3 := ⟨hs3, m2.2.2 _ _ (by omega) hrc.df rfl, m2.2.2 _ _ (by omega) hrc.lp rfl⟩
    clear hy hR q1 q2 HRg y1
    rcases hres with ⟨rfl, hJ3⟩ | ⟨rfl, hJ3⟩
    · rw [← HZsn.out] at hJ3
      gi_wp2
      refine heldR_region (fun _ : World => True) hmx ?_
      have HT : Hid _ := trivial
      have zd2 : V3.drew.heap[s + 1]? = some (.cells #[.int .u32 (c : Int)] 83 (0, 0)) := y2
      have zds : SmR V3.drew s := ys.keep rfl
      have zdb : V3.drew.heap[Bx]? = some (.cells cs.toArray 98 (0, 0)) := yb
      have cd : Chg 0 0 V3 V3.drew := Chg.drew (Chg.refl _ _ V3)
      have sd : V3.drew.heap.size = V3.heap.size := rfl
      generalize V3.drew = X at *
      refine heldR_take 1 (.slice (some ⟨Bx, 0, none⟩) 64 64) rfl (by kernel_rfl) (by kernel_rfl) (by kernel_rfl) (by kernel_rfl) (fun _ _ _ h => h) (.inl ⟨by kernel_rfl, fun w' hw' => by go_simp⟩) trivial ?_
      go_simp
      have qs := Boxed.cell zd2
      refine heldR_one 0 rfl (by kernel_rfl) rfl (by kernel_rfl) ?_
      go_simp
      have hon := on2_some X s c hcl zds blk Bx 0 64 HbB.out (by rw [Hb64.out]; omega) (by omega) (fun i hi0 => by
        rw [Nat.zero_add]
        have h := ArrC.cell (w := X) (b := Bx) (T := 98) (cs := cs) zdb i (v := .int .u8 (blk.getD i 0)) (by rw [Hcs.out]; simp [List.getD_eq_getElem?_getD, hi0])
        exact h)
      rw [HSn.out, Hb64.out] at hon
      refine heldR_one 2 rfl (by kernel_rfl) rfl (by kernel_rfl) ?_
      refine wp_enter 43 #[.pointer (some ⟨s, 0, none⟩), .int .u32 (c : Int), .slice (some ⟨Bx, 0, none⟩) 64 64] (by first | kernel_rfl | go_simp) hon ?_
      rintro e X2 ⟨rfl, zm2, c2⟩
      refine ⟨_, rfl, trivial, ?_⟩
      have zf2 := (c2.block _ (by omega) (by omega)).trans zd2
      have zt2 := (c2.block _ (by omega) (by omega)).trans ((cd.block _ (by omega) (by omega)).trans y3)
      clear hon qs
      have e1 := Boxed.cell zf2
      have e2 := Boxed.frozen zf2
      go_simp
      refine heldR_one 3 rfl (by kernel_rfl) rfl (by kernel_rfl) ?_
      go_simp
      refine heldR_done (by kernel_rfl) ?_
      refine OnlyN.mk ?_
      have e3 : ∀ v : Value, (X2.setCell ⟨s + 1, 0, none⟩ v).heap[s + 1 + 1]? = some (.cells #[.int .i64 (pre.length : Int)] 2 (0, 0)) := fun v => (Below.heap_setCell _ _ _ _ (by simp)).trans zt2
      have e4 := fun v => Boxed.cell (e3 v)
      have e5 := fun v => Boxed.frozen (e3 v)
      have hwr : IntKind.i64.wrap ((pre.length : Int) + 1) = (pre.length : Int) + 1 := by rw [IntKind.wrap_i64]; omega
      have HFin : Hid (∀ v u : Value, v = .int .u32 ((n' : Nat) : Int) → u = .int .i64 ((pre.length : Int) + 1) → (Keep2 wL.heap.size V ((X2.setCell ⟨s + 1, 0, none⟩ v).setCell ⟨s + 1 + 1, 0, none⟩ u) ∧ KpT (KA (s + 3) lo hi) (wL.heap.size + 2) V ((X2.setCell ⟨s + 1, 0, none⟩ v).setCell ⟨s + 1 + 1, 0, none⟩ u)) ∧ ofI W l Bt lo hi s wL.heap.size t po pcap ao cap hKK J (pre ++ [x]) ((X2.setCell ⟨s + 1, 0, none⟩ v).setCell ⟨s + 1 + 1, 0, none⟩ u)) := by
        rintro v u rfl rfl
        have cY : Chg s (s + 3) V3 ((X2.setCell ⟨s + 1, 0, none⟩ (.int .u32 ((n' : Nat) : Int))).setCell ⟨s + 1 + 1, 0, none⟩ (.int .i64 ((pre.length : Int) + 1))) :=
          (((cd.widen (by omega) (by omega)).trans (c2.widen (by omega) (by omega))).setCell (p := ⟨s + 1, 0, none⟩) (Or.inl ⟨by show s ≤ s + 1; omega, by show s + 1 < s + 3; omega⟩) _).setCell (p := ⟨s + 1 + 1, 0, none⟩) (Or.inl ⟨by show s ≤ s + 1 + 1; omega, by show s + 1 + 1 < s + 3; omega⟩) _
        have t1 : (X2.setCell ⟨s + 1, 0, none⟩ (.int .u32 ((n' : Nat) : Int))).heap[s + 1]? = some (.cells #[.int .u32 ((n' : Nat) : Int)] 83 (0, 0)) := Boxed.set _ zf2
        have t2 : ((X2.setCell ⟨s + 1, 0, none⟩ (.int .u32 (n' : Int))).setCell ⟨s + 1 + 1, 0, none⟩ (.int .i64 ((pre.length : Int) + 1))).heap[s + 1 + 1]? = some (.cells #[.int .i64 ((pre.length : Int) + 1)] 2 (0, 0)) := Boxed.set _ (e3 _)
        have t0 : ((X2.setCell ⟨s + 1, 0, none⟩ (.int .u32 (n' : Int))).setCell ⟨s + 1 + 1, 0, none⟩ (.int .i64 ((pre.length : Int) + 1))).heap[s]? = X2.heap[s]? := (Below.heap_setCell _ _ _ _ (by simp; omega)).trans (Below.heap_setCell _ _ _ _ (by simp))
        have t1' : ((X2.setCell ⟨s + 1, 0, none⟩ (.int .u32 (n' : Int))).setCell ⟨s + 1 + 1, 0, none⟩ (.int .i64 ((pre.length : Int) + 1))).heap[s + 1]? = some (.cells #[.int .u32 (n' : Int)] 83 (0, 0)) := (Below.heap_setCell _ _ _ _ (by simp)).trans t1
        generalize (X2.setCell ⟨s + 1, 0, none⟩ (.int .u32 (n' : Int))).setCell ⟨s + 1 + 1, 0, none⟩ (.int .i64 ((pre.length : Int) + 1)) = Y at *
        have hsY := cY.size
        have kY : KpT (KA (s + 3) lo hi) (wL.heap.size + 2) V3 Y := KpT.chg cY (fun k hk => by unfold KA at hk; have := HMl.out; omega) (fun k h1 h2 => by
          have hk : k = s ∨ k = s + 1 ∨ k = s + 1 + 1 := by omega
          rcases hk with rfl | rfl | rfl
          · obtain ⟨cs', hcs'⟩ := ys.ty
            exact ⟨_, _, _, hcs', by unfold tyA; decide⟩
          · exact ⟨_, _, _, y2, by unfold tyA; decide⟩
          · exact ⟨_, _, _, y3, by unfold tyA; decide⟩)
        refine ⟨⟨⟨by have := k20.size; omega, (cY.block _ (by omega) (by omega)).trans k20.b0, (cY.block _ (by omega) (by omega)).trans k20.b1⟩, kq3.trans kY⟩, hJF _ _ V3 Y hJ3 (cY.widen (by omega) (by omega)) (by omega), (cY.block _ (by omega) (by omega)).trans y0, fun k hk => (cY.block k (by have := hKA k hk; omega) (by have := hKA k hk; omega)).trans (yk k hk), Or.inr (Sm.keep zm2 t0), by rw [← Hn'.out]; exact t1', by rw [List.length_append]; exact t2, (cY.block _ (by omega) (by omega)).trans y4⟩
      clear hJ3 zf2 zt2 c2 zm2 e3
      gi_wp2
      have hfin := HFin.out _ _ rfl rfl
      first | exact hfin | (rw [s5] at hfin; exact hfin)
    · rw [← HZsn.out] at hJ3
      gi_wp2
      first | exact ⟨⟨k20, kq3⟩, rfl, hJ3⟩ | (rw [s5] at k20 kq3 hJ3; exact ⟨⟨k20, kq3⟩, rfl, hJ3⟩)
  case done =>
    rintro D xs V hD hS hi' hK
    have hDl := (Array.getElem?_eq_some_iff.1 hK).1
    have hmx : Tryz.prog.follows .mixedOrders = true := by kernel_rfl
    have hxl : xs.length = (BL t.seq t.homes t.revs).length := by have := congrArg List.length hS; simpa using this
    have hmap : (xs.map fun x => (BL t.seq t.homes t.revs).getD x.val []) = BL t.seq t.homes t.revs := by
      rw [show (fun x : Fin (BL t.seq t.homes t.revs).length => (BL t.seq t.homes t.revs).getD x.val []) = (fun i => (BL t.seq t.homes t.revs).getD i []) ∘ Fin.val from rfl, ← List.map_map, hS]
      apply List.ext_getElem
      · simp
      · intro i h1 h2
        simp [List.getD_eq_getElem?_getD, h2]
    have hsm := hi'.sm
    rw [hmap] at hsm
    have hct := hi'.ct
    rw [hxl] at hct
    have hcl := sumN_lt (BL t.seq t.homes t.revs)
    have hcr := sumN_crc (BL t.seq t.homes t.revs)
    obtain ⟨n, Hn⟩ : ∃ n, Hid (n = (BL t.seq t.homes t.revs).length) := ⟨_, rfl⟩
    obtain ⟨sm, Hsm⟩ : ∃ sm : Int, Hid (sm = ((sumN (BL t.seq t.homes t.revs) : Nat) : Int)) := ⟨_, rfl⟩
    have hn5 : n < 500 := by rw [Hn.out]; omega
    have hsm0 : 0 ≤ sm := by rw [Hsm.out]; omega
    have hsm1 : sm ≤ 4294967295 := by rw [Hsm.out]; omega
    rw [← Hsm.out] at hsm hcr
    rw [← Hn.out] at hct
    have Hcr : Hid _ := hcr
    have hnK : n < (TL t).length := by rw [HTL.out, Hn.out, List.length_append]; simp
    have HTn : Hid ((TL t).getD n [] = padL (headL 4 (n : Int) t.seq ++ putN sm 4)) := by
      show _ = _
      rw [HTL.out, Hn.out, Hcr.out]
      simp [comB]
    have HnT : Hid ((TL t).length = n + 1) := by show _ = _; rw [HTL.out, Hn.out]; simp
    have hzl : (zO hKK xs).length = n := by rw [zO_length, hxl, Hn.out]
    have HVz : Hid (vals2 (zO hKK xs) = diag n) := by
      show _ = _
      rw [zO_vals hKK xs (by rw [hxl, ← Hn.out]; omega) (by rw [hS, hxl]), hxl, Hn.out]
    have Hfin : Hid (vals2 (zO hKK xs ++ [(⟨n % 1000, Nat.mod_lt _ (by omega)⟩, ⟨n, hnK⟩)]) = diag (n + 1)) := by
      show _ = _
      unfold vals2 at *
      rw [List.map_append, HVz.out]
      unfold diag
      rw [List.range_succ, List.map_append]
      simp [Nat.mod_eq_of_lt (show n < 1000 by omega)]
    have Hzl : Hid _ := hzl
    have hwr : IntKind.i64.wrap sm = sm := by rw [IntKind.wrap_i64]; omega
    have cd := Chg.drew (Chg.refl 0 0 V)
    have kd : KeepS (KA Bt lo hi) W V.drew := hi'.ks
    have HS : Hid ((fun w' : World => (w'.heap[W.heap.size]? = some (.cells #[.func (.yield l) #[] #[]] 79 (0, 0)) ∧ w'.cell? ⟨Bt, 0, none⟩ = some (.int .i64 t.seq)) ∧ w'.heap[s + 1]? = some (.cells #[.int .u32 sm] 83 (0, 0)) ∧ w'.heap[s + 1 + 1]? = some (.cells #[.int .i64 (n : Int)] 2 (0, 0))) V.drew) := ⟨⟨hi'.yb, (tri (HBt.out _ kd)).1.1⟩, hsm, hct⟩
    have hsV : V.drew.heap.size = V.heap.size := rfl
    have hltb := (Array.getElem?_eq_some_iff.1 hi'.bt).1
    have hJV := hi'.j
    have HK : Hid _ := hK
    clear hmap hcl hcr hxl hsm hct hzl hK hi' hS
    gi_wp2
    refine heldW_region (fun w' : World => (w'.heap[W.heap.size]? = some (.cells #[.func (.yield l) #[] #[]] 79 (0, 0)) ∧ w'.cell? ⟨Bt, 0, none⟩ = some (.int .i64 t.seq)) ∧ w'.heap[s + 1]? = some (.cells #[.int .u32 sm] 83 (0, 0)) ∧ w'.heap[s + 1 + 1]? = some (.cells #[.int .i64 (n : Int)] 2 (0, 0))) hmx ?_
    generalize V.drew = X at *
    refine heldW_take 0 (.func (.yield l) #[] #[]) rfl (by kernel_rfl) (by kernel_rfl) (by kernel_rfl) (by kernel_rfl) (fun _ _ _ h => h) (.inl ⟨by kernel_rfl, fun w' hw' => by have q1 := Boxed.cell hw'.1.1; go_simp⟩) HS.out ?_
    go_simp
    refine heldW_take 1 (.int .i64 (n : Int)) rfl (by kernel_rfl) (by kernel_rfl) (by kernel_rfl) (by kernel_rfl) (fun _ _ _ h => h) (.inl ⟨by kernel_rfl, fun w' hw' => by have q1 := Boxed.cell hw'.2.2; go_simp⟩) HS.out ?_
    go_simp
    refine heldW_take 2 (.pointer (some ⟨Bt, 0, none⟩)) rfl (by kernel_rfl) (by kernel_rfl) (by kernel_rfl) (by kernel_rfl) (fun _ _ _ h => h) (.inl ⟨by kernel_rfl, fun w' hw' => by go_simp⟩) HS.out ?_
    go_simp
    refine heldW_take 3 (.int .i64 t.seq) rfl (by kernel_rfl) (by kernel_rfl) (by kernel_rfl) (by kernel_rfl) (fun _ _ _ h => h) (.inl ⟨by kernel_rfl, fun w' hw' => by have q1 := hw'.1.2; go_simp⟩) HS.out ?_
    go_simp
    refine heldW_take 4 (.int .i64 (n : Int)) rfl (by kernel_rfl) (by kernel_rfl) (by kernel_rfl) (by kernel_rfl) (fun _ _ _ h => h) (.inl ⟨by kernel_rfl, fun w' hw' => by have q1 := Boxed.cell hw'.2.2; go_simp⟩) HS.out ?_
    go_simp
    refine heldW_take 5 (.int .u32 sm) rfl (by kernel_rfl) (by kernel_rfl) (by kernel_rfl) (by kernel_rfl) (fun _ _ _ h => h) (.inl ⟨by kernel_rfl, fun w' hw' => by have q1 := Boxed.cell hw'.2.1; go_simp⟩) HS.out ?_
    go_simp
    refine heldW_take 6 (.int .i64 sm) rfl (by kernel_rfl) (by kernel_rfl) (by kernel_rfl) (by kernel_rfl) (fun _ _ _ h => h) (.inl ⟨by kernel_rfl, fun w' hw' => by go_simp⟩) HS.out ?_
    go_simp
    refine heldW_take 7 (.agg #[.int .i64 t.seq, .int .i64 (n : Int), .int .i64 sm]) rfl (by kernel_rfl) (by kernel_rfl) (by kernel_rfl) (by kernel_rfl) (fun _ _ _ h => h) (.inl ⟨by kernel_rfl, fun w' hw' => by go_simp⟩) HS.out ?_
    go_simp
    have hMX := HM.out X kd
    refine heldW_one 8 rfl (by kernel_rfl) rfl (by kernel_rfl) ?_
    refine wp_enter 44 #[.agg #[.int .i64 t.seq, .int .i64 (n : Int), .int .i64 sm]] (by first | kernel_rfl | go_simp) (commitOf_calls X t.seq (n : Int) sm hMX.m0 hMX.m1 hMX.m2 hMX.m3) ?_
    rintro e X2 ⟨rfl, c2⟩
    have s2 := c2.size
    have k2 : KeepS (KA Bt lo hi) W X2 := fun k hk => (c2.block k (by have := hKA k hk; omega) (by omega)).trans (kd k hk)
    have HS2 : Hid ((fun w' : World => (w'.heap[W.heap.size]? = some (.cells #[.func (.yield l) #[] #[]] 79 (0, 0)) ∧ w'.cell? ⟨Bt, 0, none⟩ = some (.int .i64 t.seq)) ∧ w'.heap[s + 1]? = some (.cells #[.int .u32 sm] 83 (0, 0)) ∧ w'.heap[s + 1 + 1]? = some (.cells #[.int .i64 (n : Int)] 2 (0, 0))) X2) := ⟨⟨(c2.block _ (by omega) (by omega)).trans HS.out.1.1, c2.cell HS.out.1.2 (by omega)⟩, (c2.block _ (by omega) (by omega)).trans HS.out.2.1, (c2.block _ (by omega) (by omega)).trans HS.out.2.2⟩
    refine ⟨_, rfl, HS2.out, ?_⟩
    go_simp
    have hE := encodedC_calls X2 (n : Int) t.seq sm (by omega) (by omega) (by omega) (pn2 (by omega) (by omega)) (pn4 (by omega) (by omega)) (pn4 (by omega) (by omega))
    rw [← HTn.out] at hE
    refine heldW_one 9 rfl (by kernel_rfl) rfl (by kernel_rfl) ?_
    refine wp_enter 45 #[.agg #[.int .u8 106, .int .u8 108, .int .u8 111, .int .u8 103, .int .i64 4, .int .i64 (n : Int), .int .i64 t.seq, .int .i64 sm]] (by first | kernel_rfl | go_simp) hE ?_
    rintro e X3 ⟨rfl, c3⟩
    have s3 := c3.size
    have k3 : KeepS (KA Bt lo hi) W X3 := fun k hk => (c3.block k (by have := hKA k hk; omega) (by omega)).trans (k2 k hk)
    have HS3 : Hid ((fun w' : World => (w'.heap[W.heap.size]? = some (.cells #[.func (.yield l) #[] #[]] 79 (0, 0)) ∧ w'.cell? ⟨Bt, 0, none⟩ = some (.int .i64 t.seq)) ∧ w'.heap[s + 1]? = some (.cells #[.int .u32 sm] 83 (0, 0)) ∧ w'.heap[s + 1 + 1]? = some (.cells #[.int .i64 (n : Int)] 2 (0, 0))) X3) := ⟨⟨(c3.block _ (by omega) (by omega)).trans HS2.out.1.1, c3.cell HS2.out.1.2 (by omega)⟩, (c3.block _ (by omega) (by omega)).trans HS2.out.2.1, (c3.block _ (by omega) (by omega)).trans HS2.out.2.2⟩
    refine ⟨_, rfl, HS3.out, ?_⟩
    have c13 : Chg 0 0 V X3 := cd.trans (c2.trans c3)
    have hK3 := (c13.block D hDl (by omega)).trans HK.out
    obtain ⟨fn, tmps, assign, body, hy, hR⟩ := hY wL.heap.size (zO hKK xs) (⟨n % 1000, Nat.mod_lt _ (by omega)⟩, ⟨n, hnK⟩) X3 (by omega) (by omega) (hJ _ _ V X3 none hJV (chg_grown c13) (fun r e => by cases e)) (by rw [Hzl.out]; omega)
    simp only [encT] at hy
    rw [Nat.mod_eq_of_lt (show n < 1000 by omega)] at hy
    generalize ((TL t).getD n []).map (Value.int .u8) = cs at *
    clear hE c2 c3 HS HS2 hMX
    go_simp
    refine heldW_round 10 rfl (by kernel_rfl) rfl (by kernel_rfl) (by go_simp) hR ?_
    rintro e V3 ⟨⟨m1, m2⟩, hres⟩
    have hs3 := m1.size
    have f3 := k3.trans m2.1
    have HS4 : Hid ((fun w' : World => (w'.heap[W.heap.size]? = some (.cells #[.func (.yield l) #[] #[]] 79 (0, 0)) ∧ w'.cell? ⟨Bt, 0, none⟩ = some (.int .i64 t.seq)) ∧ w'.heap[s + 1]? = some (.cells #[.int .u32 sm] 83 (0, 0)) ∧ w'.heap[s + 1 + 1]? = some (.cells #[.int .i64 (n : Int)] 2 (0, 0))) V3) := ⟨⟨(m1.same _ (Nat.le_refl _) (by omega)).trans HS3.out.1.1, (tri (HBt.out V3 f3)).1.1⟩, (m1.same _ (by omega) (by omega)).trans HS3.out.2.1, (m1.same _ (by omega) (by omega)).trans HS3.out.2.2⟩
    have hKV : V3.heap[D]? = some (.deferred (some [])) := (m2.2.2 _ _ (by omega) hK3 rfl).trans hK3
    clear hy hR
    rcases hres with ⟨rfl, hJ3⟩ | ⟨rfl, hJ3⟩
    · refine ⟨_, rfl, HS4.out, ?_⟩
      go_simp
      refine heldW_done (by kernel_rfl) ?_
      refine OnlyN.mk ?_
      gi_wp2
      refine ⟨by simp, .inl ⟨_, _, rfl, run_takeDeferred hKV, ?_⟩⟩
      refine ⟨_, results_none rfl _ _ _, ⟨_, rfl⟩, .inl ⟨wL.heap.size, _, Hfin.out.trans (congrArg diag HnT.out.symm), ?_⟩⟩
      exact (hJ _).putObj _ hJ3 (by omega) hKV rfl
    · refine ⟨_, rfl, HS4.out, ?_⟩
      go_simp
      refine heldW_done (by kernel_rfl) ?_
      refine OnlyN.mk ?_
      gi_wp2
      refine ⟨by simp, .inl ⟨_, _, rfl, run_takeDeferred hKV, ?_⟩⟩
      refine ⟨_, results_none rfl _ _ _, ⟨_, rfl⟩, .inr ⟨wL.heap.size, _, by rw [Hfin.out, List.length_append, Hzl.out]; rfl, ?_⟩⟩
      exact (hJx _).putObj _ hJ3 (by omega) hKV rfl
  case stop =>
    rintro D c pre V hD hSp ⟨rfl, hx⟩ hK
    gi_wp2
    refine ⟨by simp, .inl ⟨_, _, rfl, run_takeDeferred hK, ?_⟩⟩
    have hlp : pre.length ≤ 1000 := by
      have h1 : ∀ y ∈ pre.map Fin.val, y < (BL t.seq t.homes t.revs).length := fun y hy => by obtain ⟨z, _, rfl⟩ := List.mem_map.1 hy; exact z.isLt
      rw [hSp] at h1
      rcases Nat.lt_or_ge (BL t.seq t.homes t.revs).length pre.length with h | h
      · have := h1 (BL t.seq t.homes t.revs).length (List.mem_range.2 h); omega
      · omega
    refine ⟨_, results_none rfl _ _ _, ⟨_, rfl⟩, .inr ⟨wL.heap.size, _, by rw [zO_vals hKK pre hlp hSp, zO_length], ?_⟩⟩
    exact (hJx _).putObj _ hx (by omega) hK rfl

end Go.Proofs.YteligghapkleaaaGreatDoor
