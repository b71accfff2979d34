/- AppendOps of the model. -/
import Derived.Test.YtahjaejepkgfdaaGreatDoorImplSealed
import Derived.Test.YtahjaejepkgfdaaGreatDoorRowsE
import Derived.Test.YtahjaejepkgfdaaGreatDoorOpsNil
import Derived.Test.YtahjaejepkgfdaaGreatDoorPutByt
import Derived.Great.BuildSlice
import Derived.Deep.DeepCutAuto
namespace Go.Proofs.YtahjaejepkgfdaaGreatDoor
open Go.RowKit

/-- The operations ahead of the blocks; those of the first k blocks; all. -/
def startL (sz st sq hd : Int) : List Opx := if st = 0 then twoOps (supL 106 108 111 103 1 sz sq hd) else []
def putL (sz hd : Int) (tl : List (List Int)) (k : Nat) : List Opx := (List.range k).map fun (i : Nat) => (1, 1 + placeI sz hd (i : Int), tl.getD i [])
def appO (sz st sq hd us : Int) (t : Tx) : List Opx := if takesB sz st sq hd us t = true then startL sz st sq hd ++ putL sz hd (TL t) (TL t).length ++ [(2, 0, [])] else []
theorem putL_succ (sz hd : Int) (tl : List (List Int)) (k : Nat) : putL sz hd tl (k + 1) = putL sz hd tl k ++ [(1, 1 + placeI sz hd (k : Int), tl.getD k [])] := by unfold putL; rw [List.range_succ, List.map_append]; rfl
theorem putL_length (sz hd : Int) (tl : List (List Int)) (k : Nat) : (putL sz hd tl k).length = k := by unfold putL; simp
theorem placeI_range {sz hd n : Int} (h : 16 ≤ sz) : 1 ≤ placeI sz hd n ∧ placeI sz hd n ≤ sz := by
  have hm := Int.emod_nonneg (hd - 1 + n) (b := sz) (by omega)
  have hm2 := Int.emod_lt_of_pos (hd - 1 + n) (b := sz) (by omega)
  unfold placeI
  omega

/-- The k-th block of bytes. -/
def bkAt (ys : List Int) (k : Nat) : List Int := (ys.drop (64 * k)).take 64
theorem bkAt_flat {tl : List (List Int)} (h : ∀ b ∈ tl, b.length = 64) {k : Nat} (hk : k < tl.length) : bkAt tl.flatten k = tl.getD k [] := by
  unfold bkAt
  induction tl generalizing k with
  | nil => simp at hk
  | cons b tl ih =>
    have hb := h b (by simp)
    cases k with
    | zero => simp [hb]
    | succ k =>
      rw [List.flatten_cons, show 64 * (k + 1) = b.length + 64 * k by omega, ← List.drop_drop, List.drop_left, ih (fun c hc => h c (by simp [hc])) (by simpa using hk)]
      simp

set_option maxHeartbeats 1000000 in
theorem l2Block_at (w : World) {lo hi g cap k : Nat} {ys : List Int} (h : View w lo hi .u8 (.slice (some ⟨g, 0, none⟩) ys.length cap) ys) (hk : 64 * k + 64 ≤ ys.length) (hl : ys.length ≤ 1048576) :
    Calls Tryz.prog 20 #[.slice (some ⟨g, 0, none⟩) ys.length cap, .int .i64 (k : Int)] w fun e w' => ∃ v, e = .returned v ∧ OwnB w' w.heap.size 5 v (bkAt ys k) ∧ Chg 0 0 w w' := by
  obtain ⟨hc0, hc1⟩ : ys.length ≤ cap ∧ cap ≤ cap := by
    obtain ⟨ao, c', e, _, hc, _⟩ := h
    simp only [Value.slice.injEq] at e
    obtain ⟨_, _, rfl⟩ := e
    exact ⟨hc.1, Nat.le_refl _⟩
  have HVk : Hid (View w lo hi .u8 (.slice (some ⟨g, 0 + 64 * k, none⟩) 64 (cap - 64 * k)) (bkAt ys k)) := View.part h hk (by omega) (cap - 64 * k) (by omega)
  obtain ⟨m, hm⟩ : ∃ m : Nat, m = 64 * k := ⟨_, rfl⟩
  have Hm : Hid (m = 64 * k) := hm
  rw [← hm, Nat.zero_add] at HVk
  rw [← hm] at hk
  have hN := l1Copy_calls w (by unfold bkAt; rw [List.length_take]; omega) HVk.out
  have e1 : (k : Int) * 64 = (m : Int) := by omega
  have e2 : ((k : Int) + 1) * 64 = (m : Int) + 64 := by omega
  have e3 : IntKind.i64.wrap ((k : Int) + 1) = (k : Int) + 1 := by rw [IntKind.wrap_i64]; omega
  have e4 : IntKind.i64.wrap (m : Int) = (m : Int) := by rw [IntKind.wrap_i64]; omega
  have e5 : IntKind.i64.wrap ((m : Int) + 64) = (m : Int) + 64 := by rw [IntKind.wrap_i64]; omega
  have q1 : (0 : Int) ≤ (m : Int) + 64 := by omega
  have q2 : (m : Int) + 64 ≤ (cap : Int) := by omega
  have q3 : ¬ cap = m := by omega
  have q4 : (m : Int) ≤ max ((m : Int) + 64) 0 := by omega
  have q5 : ((m : Int) + 64).toNat - m = 64 := by omega
  generalize bkAt ys k = zs at *
  generalize ys.length = L at *
  clear hm h hc1
  go_enter Tryz.func20, Tryz.ntmps20
  go_wp2_with fail
  refine hN.mono ?_
  rintro e w1 ⟨v, rfl, ho, hc⟩
  have HO : Hid (OwnB w1 w.heap.size 5 v zs) := ho
  clear ho
  go_wp2
  go_ret
  exact ⟨_, rfl, HO.out, hc⟩

theorem ob_eq {b g n c : Nat} (h : (Value.slice (some ⟨b, 0, none⟩) n c).ownBlock = some g) : b = g := by cases h; rfl

theorem fill6 (A : Array Value) (hr : A.size = 6) (a b c d e f : Value) : Instr.fill (fun i => some (i * 3, 3)) A [(0, .agg #[a, b, c]), (1, .agg #[d, e, f])] = some #[a, b, c, d, e, f] := by
  obtain ⟨l⟩ := A
  match l, hr with
  | [x, y, z, x', y', z'], _ => simp [Instr.fill, Value.cells]

/-- What lies in memory throughout (AppendOps of the model). -/
def AsW (w : World) (sz st sq hd us s : Int) (hv rv : Value) (bf : Nat) (W : World) : Prop := (W.heap[w.heap.size]? = some (logO 31 sz st sq hd us) ∧ W.heap[w.heap.size + 1]? = some (.cells #[.int .i64 s, hv, rv] 35 (0, 0))) ∧ W.heap[bf]? = some (.cells #[.int .i64 2, .int .i64 0, .slice none 0 0] 47 (0, 0)) ∧ Chg 0 0 w W
theorem AsW.keep {w : World} {sz st sq hd us s : Int} {hv rv : Value} {bf : Nat} {A B : World} (h : AsW w sz st sq hd us s hv rv bf A) (hc : Chg 0 0 A B) : AsW w sz st sq hd us s hv rv bf B :=
  ⟨⟨(hc.block _ (Array.getElem?_eq_some_iff.1 h.1.1).1 (by omega)).trans h.1.1, (hc.block _ (Array.getElem?_eq_some_iff.1 h.1.2).1 (by omega)).trans h.1.2⟩, (hc.block _ (Array.getElem?_eq_some_iff.1 h.2.1).1 (by omega)).trans h.2.1, h.2.2.trans hc⟩
theorem AsW.grown {w : World} {sz st sq hd us s : Int} {hv rv : Value} {bf : Nat} {A B : World} {v : Value} (h : AsW w sz st sq hd us s hv rv bf A) (hg : A.grownBy B v.ownBlock) (hv' : ∀ g, v.ownBlock = some g → w.heap.size + 1 < g ∧ g ≠ bf) : AsW w sz st sq hd us s hv rv bf B :=
  ⟨⟨(hg.block _ (Array.getElem?_eq_some_iff.1 h.1.1).1 (fun e => by have := hv' _ e.symm; omega)).trans h.1.1, (hg.block _ (Array.getElem?_eq_some_iff.1 h.1.2).1 (fun e => by have := hv' _ e.symm; omega)).trans h.1.2⟩, (hg.block _ (Array.getElem?_eq_some_iff.1 h.2.1).1 (fun e => by have := hv' _ e.symm; omega)).trans h.2.1,
    ⟨hg.os.trans h.2.2.os, hg.tape.trans h.2.2.tape, hg.output.trans h.2.2.output, Nat.le_trans h.2.2.size hg.size, fun k hk ho => (hg.block k (Nat.lt_of_lt_of_le hk h.2.2.size) (fun e => by have := hv' _ e.symm; omega)).trans (h.2.2.block k hk ho)⟩⟩
theorem wpList_app_opsS {ops : Array Oper} {rest : List Oper} {o : Oper} {a : Act} {w : World} {Q : Exit → Act → World → Prop} (hgd : o.guard = none) (s x : Operand)
    (ho : o.op = .call { callee := .builtin .append, args := #[s, x], argTypes := #[29, 29] }) (base N : Nat) (v xv : Value) (os ts : List Opx) (cells cells2 : List Value) (dvs dvs2 : Nat → Value)
    (hs : a.eval s = v) (hown : OwnOx w base 47 5 v os cells dvs) (hx : a.eval x = xv) (hxo : OwnOx w N 47 5 xv ts cells2 dvs2) (hN : base ≤ N) (hbase : base ≤ w.heap.size)
    (h0 : 0 < ts.length) (hk : os.length + ts.length ≤ 2097152)
    (hfr : ∀ i j g, i < os.length → j < ts.length → (dvs i).ownBlock = some g → (dvs2 j).ownBlock ≠ some g)
    (h : ∀ v' w', Hid (∃ g cap, v' = .slice (some ⟨g, 0, none⟩) (os.length + ts.length) cap) → Hid (∃ cells' dvs', OwnOx w' base 47 5 v' (os ++ ts) cells' dvs') → Hid (w.grownBy w' v.ownBlock) →
      Hid (∀ g, v'.ownBlock = some g → v.ownBlock = some g ∨ w.heap.size ≤ g) → wpList Tryz.prog ops Q rest (a.put o.dst v') w') : wpList Tryz.prog ops Q (o :: rest) a w :=
  wpList_plain hgd fun _ hK => wp_app_opsS s x ho base N v xv os ts cells cells2 dvs dvs2 hs hown hx hxo hN hbase h0 hk hfr fun v' w' h2 h3 h4 h5 => hK _ _ (h v' w' h2 ⟨_, _, h3⟩ h4 h5)

set_option maxRecDepth 20000 in
set_option maxHeartbeats 8000000 in
theorem specAppend_calls (w : World) {lo hi : Nat} {a : Value} {t : Tx} (sz st sq hd us : Int) (hl : cntT t ≤ 1048576) (hhi : hi ≤ w.heap.size) (hby : ∀ x ∈ t.homes, Byt x.2) (h1 : TView w lo hi a t) :
    Calls Tryz.prog 5 #[logV sz st sq hd us, a] w fun e w' => ∃ v, e = .returned v ∧ (∃ cells dvs, OwnOx w' w.heap.size 47 5 v (appO sz st sq hd us t) cells dvs) ∧ Chg 0 0 w w' := by
  have hT := h1
  obtain ⟨hv, rv, rfl, p1, v1⟩ := h1
  obtain ⟨po, pcap, rfl⟩ := p1.slice
  obtain ⟨ao, cap, rfl⟩ := v1.slice
  have HT : Hid (∀ W, Chg 0 0 w W → TView W lo hi (.agg #[.int .i64 t.seq, .slice po t.homes.length pcap, .slice ao t.revs.length cap]) t) := fun W hW => hT.chg hW (by omega)
  have hA : Chg 0 0 w (((w.alloc (logO 31 sz st sq hd us)).alloc (.cells #[.int .i64 t.seq, .slice po t.homes.length pcap, .slice ao t.revs.length cap] 35)).alloc (.cells #[] 47)) := ((Chg.alloc (Chg.refl 0 0 w) _).alloc _).alloc _
  obtain ⟨z, b0, b1, b2⟩ := alloc3 w (logO 31 sz st sq hd us) (.cells #[.int .i64 t.seq, .slice po t.homes.length pcap, .slice ao t.revs.length cap] 35) (.cells #[] 47)
  have o0 := OwnOx.nil ((w.alloc (logO 31 sz st sq hd us)).alloc (.cells #[.int .i64 t.seq, .slice po t.homes.length pcap, .slice ao t.revs.length cap] 35)) w.heap.size (by simp; omega)
  have hz2 : ((w.alloc (logO 31 sz st sq hd us)).alloc (.cells #[.int .i64 t.seq, .slice po t.homes.length pcap, .slice ao t.revs.length cap] 35)).heap.size = w.heap.size + 1 + 1 := by simp
  rw [hz2] at o0
  have hmx : Tryz.prog.follows .mixedOrders = true := by kernel_rfl
  obtain ⟨h57, h64⟩ := TL_len hby
  clear hT p1 v1 hz2
  have HN : Hid (∀ W, Chg 0 0 w W → Calls Tryz.prog 18 #[.agg #[.int .i64 t.seq, .slice po t.homes.length pcap, .slice ao t.revs.length cap]] W fun e w' => Told W w' e (TL t)) := fun W hW => specTxnBlocks_calls W hl (by have := hW.size; omega) hby (HT.out W hW)
  have hN2 : ∀ W, Chg 0 0 w W → Calls Tryz.prog 16 #[logV sz st sq hd us, .agg #[.int .i64 t.seq, .slice po t.homes.length pcap, .slice ao t.revs.length cap]] W fun e w' => e = .returned (.bool (takesB sz st sq hd us t)) ∧ Chg 0 0 W w' := fun W hW => l4Takes_calls W sz st sq hd us hl (by have := hW.size; omega) hby (HT.out W hW)
  clear HT
  go_enter Tryz.func5, Tryz.ntmps5
  go_wp2_with fail
  generalize ((w.alloc (logO 31 sz st sq hd us)).alloc (.cells #[.int .i64 t.seq, .slice po t.homes.length pcap, .slice ao t.revs.length cap] 35)).alloc (.cells #[] 47) = w0 at *
  refine (hN2 _ hA).mono ?_
  rintro e w1 ⟨rfl, h1⟩
  have HB0 : Hid (w1.heap[w.heap.size]? = some (logO 31 sz st sq hd us)) := (h1.block _ (by omega) (by omega)).trans b0
  have HB1 : Hid (w1.heap[w.heap.size + 1]? = some (.cells #[.int .i64 t.seq, .slice po t.homes.length pcap, .slice ao t.revs.length cap] 35 (0, 0))) := (h1.block _ (by omega) (by omega)).trans b1
  have HO1 : Hid (OwnOx w1 w.heap.size 47 5 (.slice (some ⟨w.heap.size + 1 + 1, 0, none⟩) 0 0) [] [] (fun _ => .slice none 0 0)) := o0.chg h1 (fun g hg => by omega) (fun i g hi hg => by omega)
  have HA : Hid (Chg 0 0 w w1) := hA.trans h1
  have hs := h1.size
  clear h1 b0 b1 b2 hA hN2 o0
  by_cases htk : takesB sz st sq hd us t = true
  case neg =>
    have Ht : Hid (appO sz st sq hd us t = []) := by show _ = _; unfold appO; rw [if_neg htk]
    rw [Bool.not_eq_true] at htk
    rw [htk]
    clear htk
    go_wp2
    go_ret
    exact ⟨_, rfl, by rw [Ht.out]; exact ⟨_, _, HO1.out⟩, HA.out⟩
  obtain ⟨hIn, hvt, h_q, hlt, hle⟩ := takesB_spec htk
  have Ht : Hid (appO sz st sq hd us t = startL sz st sq hd ++ putL sz hd (TL t) (TL t).length ++ [(2, 0, [])]) := by show _ = _; unfold appO; rw [if_pos htk]
  unfold InLog at hIn
  obtain ⟨⟨i1, i2⟩, ⟨i3, i4⟩, ⟨i5, i6⟩, ⟨i7, i8⟩, i9, i10⟩ := hIn
  have hokS : OkS sz sq hd := okS_of_valid (by unfold takesB at htk; simp only [Bool.and_eq_true] at htk; exact htk.1)
  have Hpl : Hid (∀ W (k : Nat), k ≤ 257 → Calls Tryz.prog 19 #[.int .i64 sz, .int .i64 hd, .int .i64 (k : Int)] W fun e w' => e = .returned (.int .i64 (placeI sz hd (k : Int))) ∧ w' = W) := fun W k hk => l4Place_calls W sz hd k i1 i2 i7 (by omega) (by omega) (by omega)
  have Hpr : Hid (∀ k : Nat, 1 ≤ placeI sz hd (k : Int) ∧ placeI sz hd (k : Int) ≤ 512) := fun k => by have := @placeI_range sz hd k i1; omega
  obtain ⟨m, Hm⟩ : ∃ m, Hid (m = (TL t).length) := ⟨_, rfl⟩
  rw [← Hm.out] at h57
  have HM64 : Hid (∀ k, k < m → bkAt (TL t).flatten k = (TL t).getD k []) := fun k hk => bkAt_flat h64 (by have := Hm.out; omega)
  have Hfl : Hid ((TL t).flatten.length = 64 * m) := by show _ = _; rw [flat_len h64, Hm.out]
  rw [htk]
  clear htk hvt h_q hlt hle h64
  have AS1 : Hid (AsW w sz st sq hd us t.seq (.slice po t.homes.length pcap) (.slice ao t.revs.length cap) w1.heap.size (w1.alloc (.cells #[.int .i64 2, .int .i64 0, .slice none 0 0] 47))) := by
    have cF : Chg 0 0 w1 (w1.alloc (.cells #[.int .i64 2, .int .i64 0, .slice none 0 0] 47)) := Chg.alloc (Chg.refl 0 0 w1) _
    exact ⟨⟨(cF.block _ (by omega) (by omega)).trans HB0.out, (cF.block _ (by omega) (by omega)).trans HB1.out⟩, heap_new w1 _, HA.out.trans cF⟩
  have OS1 : Hid (OwnOx (w1.alloc (.cells #[.int .i64 2, .int .i64 0, .slice none 0 0] 47)) w.heap.size 47 5 (.slice (some ⟨w.heap.size + 1 + 1, 0, none⟩) 0 0) [] [] (fun _ => .slice none 0 0)) := HO1.out.chg (Chg.alloc (Chg.refl 0 0 w1) _) (fun g hg => by omega) (fun i g hi hg => by omega)
  have sF : (w1.alloc (.cells #[.int .i64 2, .int .i64 0, .slice none 0 0] 47)).heap.size = w1.heap.size + 1 := by simp
  obtain ⟨x0, x1, x2, x3, x4⟩ := five_cells AS1.out.1.1
  clear HB0 HB1 HO1 HA
  by_cases hst : st = 0
  · have Hst : Hid (startL sz st sq hd = twoOps (supL 106 108 111 103 1 sz sq hd)) := by show _ = _; unfold startL; rw [if_pos hst]
    subst hst
    have hN := fun W => l4Super_ok W sz 0 sq hd us hokS
    have Hs64 : Hid ((supL 106 108 111 103 1 sz sq hd).length = 64) := supL_64 hokS
    go_upto_region 6 with fail
    generalize w1.alloc (.cells #[.int .i64 2, .int .i64 0, .slice none 0 0] 47) = wf at *
    clear x0 x1 x2 x3 x4
    go_wp2
    refine held_region (AsW w sz 0 sq hd us t.seq (.slice po t.homes.length pcap) (.slice ao t.revs.length cap) w1.heap.size) hmx ?_
    have HS : Hid (AsW w sz 0 sq hd us t.seq (.slice po t.homes.length pcap) (.slice ao t.revs.length cap) w1.heap.size wf.drew) := AS1.out.keep (Chg.drew (Chg.refl 0 0 wf))
    have HOd : Hid (OwnOx wf.drew w.heap.size 47 5 (.slice (some ⟨w.heap.size + 1 + 1, 0, none⟩) 0 0) [] [] (fun _ => .slice none 0 0)) := OS1.out.chg (Chg.drew (Chg.refl 0 0 wf)) (fun g hg => by omega) (fun i g hi hg => by omega)
    have sD : wf.drew.heap.size = w1.heap.size + 1 := sF
    clear AS1 OS1 sF
    generalize wf.drew = wd at *
    refine held_take 0 (.slice (some ⟨w.heap.size + 1 + 1, 0, none⟩) 0 0) rfl (by kernel_rfl) (by kernel_rfl) (by kernel_rfl) (fun _ _ _ h => h) (.inl ⟨by kernel_rfl, fun w' hw' => by go_simp⟩) HS.out ?_
    go_simp
    refine held_take 1 (logV sz 0 sq hd us) rfl (by kernel_rfl) (by kernel_rfl) (by kernel_rfl) (fun _ _ _ h => h) (.inl ⟨by kernel_rfl, fun w' hw' => by obtain ⟨x0, x1, x2, x3, x4⟩ := five_cells hw'.1.1; go_simp⟩) HS.out ?_
    go_simp
    refine held_take 2 (.pointer (some ⟨w.heap.size, 3, none⟩)) rfl (by kernel_rfl) (by kernel_rfl) (by kernel_rfl) (fun _ _ _ h => h) (.inl ⟨by kernel_rfl, fun w' hw' => by go_simp⟩) HS.out ?_
    go_simp
    refine held_take 3 (.int .i64 hd) rfl (by kernel_rfl) (by kernel_rfl) (by kernel_rfl) (fun _ _ _ h => h) (.inl ⟨by kernel_rfl, fun w' hw' => by obtain ⟨x0, x1, x2, x3, x4⟩ := five_cells hw'.1.1; go_simp⟩) HS.out ?_
    go_simp
    refine held_take 5 (.agg #[.int .i64 2, .int .i64 0, .slice none 0 0]) rfl (by kernel_rfl) (by kernel_rfl) (by kernel_rfl) (fun _ _ _ h => h) (.inl ⟨by kernel_rfl, fun w' hw' => by obtain ⟨⟨k0, k1, k2⟩, _⟩ := tri3 hw'.2.1; go_simp⟩) HS.out ?_
    go_simp
    refine held_one 4 rfl rfl (by kernel_rfl) ?_
    refine wp_enter 17 #[logV sz 0 sq hd us, .int .i64 hd] (by first | kernel_rfl | go_simp) (hN _) ?_
    rintro e w5 ⟨g5, cp5, rfl, o5, c5⟩
    have HS5 : Hid (AsW w sz 0 sq hd us t.seq (.slice po t.homes.length pcap) (.slice ao t.revs.length cap) w1.heap.size w5) := HS.out.keep c5
    have s5 := c5.size
    have HO5 : Hid (OwnOx w5 w.heap.size 47 5 (.slice (some ⟨w.heap.size + 1 + 1, 0, none⟩) 0 0) [] [] (fun _ => .slice none 0 0)) := HOd.out.chg c5 (fun g hg => by omega) (fun i g hi hg => by omega)
    have HB5 : Hid (OwnB w5 wd.heap.size 5 (.slice (some ⟨g5, 0, none⟩) 64 cp5) (supL 106 108 111 103 1 sz sq hd)) := o5
    clear o5 c5 hN HOd
    refine ⟨_, rfl, HS5.out, ?_⟩
    go_simp
    obtain ⟨ic, hic, hcz0, hcz1, hcz2⟩ := info_parts Tryz.infoOp
    refine held_one 6 rfl rfl (by kernel_rfl) ?_
    refine wp_buildSlice 29 47 2 #[(0, .tmp 23), (1, .tmp 24)] rfl #[.int .i64 1, .int .i64 1, .slice (some ⟨g5, 0, none⟩) 64 cp5, .int .i64 2, .int .i64 0, .slice none 0 0] ic _ Tryz.underlying29 hic hcz0 (by rw [hcz1]; decide) (by rw [hcz1]; decide) (by rw [hcz1, Array.toList_map]; refine fill6 _ ?_ _ _ _ _ _ _; simp) ?_
    have c6 : Chg 0 0 w5 (w5.alloc (.cells #[.int .i64 1, .int .i64 1, .slice (some ⟨g5, 0, none⟩) 64 cp5, .int .i64 2, .int .i64 0, .slice none 0 0] 47)) := Chg.alloc (Chg.refl 0 0 w5) _
    obtain ⟨cs6, ds6, X6⟩ := twoOps_own w5 wd.heap.size g5 cp5 _ (by omega) HB5.out
    have HO6 : Hid (OwnOx (w5.alloc (.cells #[.int .i64 1, .int .i64 1, .slice (some ⟨g5, 0, none⟩) 64 cp5, .int .i64 2, .int .i64 0, .slice none 0 0] 47)) w.heap.size 47 5 (.slice (some ⟨w.heap.size + 1 + 1, 0, none⟩) 0 0) [] [] (fun _ => .slice none 0 0)) := HO5.out.chg c6 (fun g hg => by omega) (fun i g hi hg => by omega)
    have HS6 : Hid (AsW w sz 0 sq hd us t.seq (.slice po t.homes.length pcap) (.slice ao t.revs.length cap) w1.heap.size (w5.alloc (.cells #[.int .i64 1, .int .i64 1, .slice (some ⟨g5, 0, none⟩) 64 cp5, .int .i64 2, .int .i64 0, .slice none 0 0] 47))) := HS5.out.keep c6
    have s6 := c6.size
    have s6x : (w5.alloc (.cells #[.int .i64 1, .int .i64 1, .slice (some ⟨g5, 0, none⟩) 64 cp5, .int .i64 2, .int .i64 0, .slice none 0 0] 47)).heap.size = w5.heap.size + 1 := by simp
    generalize w5.alloc (.cells #[.int .i64 1, .int .i64 1, .slice (some ⟨g5, 0, none⟩) 64 cp5, .int .i64 2, .int .i64 0, .slice none 0 0] 47) = w6 at *
    refine ⟨HS6.out, ?_⟩
    clear c6 HS5 HO5 HB5
    go_simp
    refine held_one 7 rfl rfl (by kernel_rfl) ?_
    refine wp_app_opsS (.tmp 19) (.tmp 25) rfl w.heap.size wd.heap.size _ _ [] (twoOps (supL 106 108 111 103 1 sz sq hd)) [] cs6 (fun _ => .slice none 0 0) ds6 rfl HO6.out rfl X6 (by have := HS.out.2.2.size; omega) (by have := HS6.out.2.2.size; omega) (by simp) (by simp) (fun i j g hi => by simp at hi) ?_
    rintro v' w8 ⟨g8, cp8, rfl⟩ o8 gr8 wh8
    have HS8 : Hid (AsW w sz 0 sq hd us t.seq (.slice po t.homes.length pcap) (.slice ao t.revs.length cap) w1.heap.size w8) := HS6.out.grown gr8 (fun g hg => by have := ob_eq hg; omega)
    have hg8 : g8 ≠ w1.heap.size ∧ w.heap.size + 1 < g8 := by
      rcases wh8 g8 rfl with h | h
      · have := ob_eq h; omega
      · omega
    have HO8 : Hid (∃ cells dvs, OwnOx w8 w.heap.size 47 5 (.slice (some ⟨g8, 0, none⟩) 2 cp8) (startL sz 0 sq hd) cells dvs) := ⟨_, _, by rw [Hst.out]; exact o8⟩
    have s8 := HS8.out.2.2.size
    have s8x : w1.heap.size + 1 ≤ w8.heap.size := by have := gr8.size; omega
    clear o8 gr8 wh8 X6 HO6 HS6 HS
    refine ⟨HS8.out, ?_⟩
    go_simp
    refine held_take 8 (.slice (some ⟨g8, 0, none⟩) 2 cp8) rfl (by kernel_rfl) (by kernel_rfl) (by kernel_rfl) (fun _ _ _ h => h) (.inl ⟨by kernel_rfl, fun w' hw' => by go_simp⟩) HS8.out ?_
    go_simp
    refine held_done (by kernel_rfl) (NoPanic.normal ?_)
    have HLn : Hid ((startL sz 0 sq hd).length = 2) := by show _ = _; rw [Hst.out]; rfl
    clear s5 s6 s6x sD
    obtain ⟨⟨k0, k1, k2⟩, _⟩ := tri HS8.out.1.2
    go_wp2_with fail
    refine (HN.out _ HS8.out.2.2).mono ?_
    rintro e wb ⟨gb, cb, rfl, ob, cB⟩
    have HSb : Hid (AsW w sz 0 sq hd us t.seq (.slice po t.homes.length pcap) (.slice ao t.revs.length cap) w1.heap.size wb) := HS8.out.keep cB
    have sb := cB.size
    rw [← Hm.out] at ob ⊢
    have hobl := ob.lt gb rfl
    have HVb : Hid (View wb gb (gb + 1) .u8 (.slice (some ⟨gb, 0, none⟩) (64 * m) cb) (TL t).flatten) := (ob.base (base' := gb) (fun g hg => by have := ob_eq hg; omega)).view (by rw [Hfl.out]; omega) (hi := gb + 1) (fun g hg => by have := ob_eq hg; omega)
    have HOb : Hid (∃ cells dvs, OwnOx wb w.heap.size 47 5 (.slice (some ⟨g8, 0, none⟩) 2 cp8) (startL sz 0 sq hd) cells dvs) := by obtain ⟨c, d, h⟩ := HO8.out; exact ⟨c, d, h.chg cB (fun g hg => by omega) (fun i g hi hg => by omega)⟩
    obtain ⟨ob2, hob2⟩ : ∃ cu, wb.heap[gb]? = some (.cells cu 5 (0, 0)) := ob.elem rfl
    have Hob2 : Hid (wb.heap[gb]? = some (.cells ob2 5 (0, 0))) := hob2
    have hgm : g8 ≠ w1.heap.size ∧ w.heap.size + 1 < g8 := hg8
    clear ob cB hob2 k0 k1 k2
    obtain ⟨xb, Hxb⟩ : ∃ xb, Hid (xb = (TL t).flatten) := ⟨_, rfl⟩
    rw [← Hxb.out] at HVb Hfl HM64
    obtain ⟨L64, hL64⟩ : ∃ L64, L64 = 64 * m := ⟨_, rfl⟩
    have HL64 : Hid (L64 = 64 * m) := hL64
    have hq : (L64 : Int).tdiv 64 = (m : Int) := by rw [Int.tdiv_eq_ediv_of_nonneg (by omega), hL64]; omega
    have hwq : IntKind.i64.wrap (m : Int) = (m : Int) := by rw [IntKind.wrap_i64]; omega
    rw [← hL64] at HVb Hfl ⊢
    clear hL64
    go_wp2_with fail
    go_loopw [5, 8] (fun o x wr => ∃ (k g cp : Nat), k ≤ m ∧ x = .int .i64 k ∧ o = .slice (some ⟨g, 0, none⟩) (2 + k) cp ∧ (g ≠ w1.heap.size ∧ w.heap.size + 1 < g) ∧ (∃ cells dvs, OwnOx wr w.heap.size 47 5 (.slice (some ⟨g, 0, none⟩) (2 + k) cp) (startL sz 0 sq hd ++ putL sz hd (TL t) k) cells dvs) ∧ wr.heap[gb]? = some (.cells ob2 5 (0, 0)) ∧ wb.heap.size ≤ wr.heap.size ∧ AsW w sz 0 sq hd us t.seq (.slice po t.homes.length pcap) (.slice ao t.revs.length cap) w1.heap.size wr) (fun _ x _ => m - (intOf x).toNat)
    case atStart => exact ⟨0, _, _, Nat.zero_le _, rfl, rfl, hgm, by rw [show putL sz hd (TL t) 0 = [] from rfl, List.append_nil]; exact HOb.out, Hob2.out, Nat.le_refl _, HSb.out⟩
    case round =>
      obtain ⟨k, g, cp, hk, rfl, rfl, hg, ⟨cells, dvs, ho⟩, hgb, hsr, hAS⟩ := hrel
      have HO : Hid (OwnOx wr w.heap.size 47 5 (.slice (some ⟨g, 0, none⟩) (2 + k) cp) (startL sz 0 sq hd ++ putL sz hd (TL t) k) cells dvs) := ho
      have HAS : Hid (AsW w sz 0 sq hd us t.seq (.slice po t.homes.length pcap) (.slice ao t.revs.length cap) w1.heap.size wr) := hAS
      have Hgb : Hid (wr.heap[gb]? = some (.cells ob2 5 (0, 0))) := hgb
      have HL : Hid ((startL sz 0 sq hd ++ putL sz hd (TL t) k).length = 2 + k) := by show _ = _; rw [List.length_append, HLn.out, putL_length]
      have hswr := hAS.2.2.size
      clear ho hAS hgb HOb HSb
      by_cases hlt : k < m
      · have hi' : (k : Int) < (m : Int) := by omega
        obtain ⟨x0, x1, x2, x3, x4⟩ := five_cells HAS.out.1.1
        go_wp2_with fail
        refine (Hpl.out _ k (by omega)).mono ?_
        rintro e w5 ⟨rfl, rfl⟩
        have hpr := Hpr.out k
        have HT1 : Hid (putL sz hd (TL t) (k + 1) = putL sz hd (TL t) k ++ [(1, 1 + placeI sz hd (k : Int), (TL t).getD k [])]) := putL_succ sz hd (TL t) k
        generalize placeI sz hd (k : Int) = pl at *
        have hwp : IntKind.i64.wrap (1 + pl) = 1 + pl := by rw [IntKind.wrap_i64]; omega
        have HVk : View w5 gb (gb + 1) .u8 (.slice (some ⟨gb, 0, none⟩) xb.length cb) xb := by
          have h := HVb.out.keep (w' := w5) (fun b h1 h2 => by rw [show b = gb by omega]; exact Hgb.out.trans Hob2.out.symm)
          rw [Hfl.out]; exact h
        have hN5 := l2Block_at w5 (k := k) HVk (by rw [Hfl.out, HL64.out]; omega) (by rw [Hfl.out, HL64.out]; omega)
        rw [Hfl.out, HM64.out k hlt] at hN5
        generalize (TL t).getD k [] = blk at *
        clear x0 x1 x2 x3 x4 HVk
        go_wp2_with fail
        refine hN5.mono ?_
        rintro e w6 ⟨v6, rfl, o6, c6⟩
        obtain ⟨va, vl, vc, rfl⟩ := row_slice o6
        have s6 := c6.size
        have c7 : Chg 0 0 w6 (w6.alloc (.cells #[.int .i64 1, .int .i64 (1 + pl), .slice va vl vc] 47)) := Chg.alloc (Chg.refl 0 0 w6) _
        have c67 := c6.trans c7
        have s7 : (w6.alloc (.cells #[.int .i64 1, .int .i64 (1 + pl), .slice va vl vc] 47)).heap.size = w6.heap.size + 1 := by simp
        have HX7 : Hid (OwnOx (w6.alloc (.cells #[.int .i64 1, .int .i64 (1 + pl), .slice va vl vc] 47)) w5.heap.size 47 5 (.slice (some ⟨w6.heap.size, 0, none⟩) 1 1) [(1, 1 + pl, blk)] [.int .i64 1, .int .i64 (1 + pl), .slice va vl vc] (fun _ => .slice va vl vc)) := oneOp_own w6 w5.heap.size 1 (1 + pl) (.slice va vl vc) blk s6 o6
        have HO7 : Hid (OwnOx (w6.alloc (.cells #[.int .i64 1, .int .i64 (1 + pl), .slice va vl vc] 47)) w.heap.size 47 5 (.slice (some ⟨g, 0, none⟩) (2 + k) cp) (startL sz 0 sq hd ++ putL sz hd (TL t) k) cells dvs) := HO.out.chg c67 (fun g hg => by omega) (fun i g hi hg => by omega)
        have HAS7 : Hid (AsW w sz 0 sq hd us t.seq (.slice po t.homes.length pcap) (.slice ao t.revs.length cap) w1.heap.size (w6.alloc (.cells #[.int .i64 1, .int .i64 (1 + pl), .slice va vl vc] 47))) := HAS.out.keep c67
        have Hgb7 : Hid ((w6.alloc (.cells #[.int .i64 1, .int .i64 (1 + pl), .slice va vl vc] 47)).heap[gb]? = some (.cells ob2 5 (0, 0))) := (c67.block _ (by omega) (by omega)).trans Hgb.out
        have Hfr : Hid (∀ (i j : Nat) (g : Nat), i < (startL sz 0 sq hd ++ putL sz hd (TL t) k).length → j < 1 → (dvs i).ownBlock = some g → (Value.slice va vl vc).ownBlock ≠ some g) := more_apart (N := w5.heap.size) (fun i g hi hg => ((HO.out.data i hi).lt g hg).2) (fun g hg => (o6.lt g hg).1)
        clear hN5 o6 c6 c7 c67 HAS HO Hgb
        go_wp2_with (refine wpList_app_opsS rfl (.tmp 36) (.tmp 48) rfl w.heap.size w5.heap.size _ _ (startL sz 0 sq hd ++ putL sz hd (TL t) k) [(1, 1 + pl, blk)] cells _ dvs _ rfl HO7.out rfl HX7.out hswr (by omega) Nat.one_pos (by rw [HL.out]; show _ + 1 ≤ _; omega) Hfr.out ?_; intro v8 w8 e8 o8 gr8 wh8)
        obtain ⟨g8, cp8, rfl⟩ := e8.out
        rw [HL.out] at *
        go_roundw
        case rel =>
          refine ⟨k + 1, g8, cp8, by omega, by go_num, rfl, ?_, ?_, ?_, by have := gr8.out.size; omega, HAS7.out.grown gr8.out (fun g' hg' => by have := ob_eq hg'; omega)⟩
          · rcases wh8.out g8 rfl with h | h
            · have := ob_eq h; omega
            · omega
          · rw [HT1.out, ← List.append_assoc]; exact o8.out
          · exact (gr8.out.block gb (by omega) (fun e => by obtain ⟨cu, hcu⟩ := row_elem' HO7.out.row e.symm; exact cells_ne hcu Hgb7.out (by decide) rfl)).trans Hgb7.out
        case measure => simp [intOf]; omega
      · obtain rfl : k = m := by omega
        obtain ⟨⟨k0, k1, k2⟩, _⟩ := tri3 HAS.out.2.1
        have c7 : Chg 0 0 wr (wr.alloc (.cells #[.int .i64 2, .int .i64 0, .slice none 0 0] 47)) := Chg.alloc (Chg.refl 0 0 wr) _
        have s7 : (wr.alloc (.cells #[.int .i64 2, .int .i64 0, .slice none 0 0] 47)).heap.size = wr.heap.size + 1 := by simp
        have HX7 : Hid (OwnOx (wr.alloc (.cells #[.int .i64 2, .int .i64 0, .slice none 0 0] 47)) wr.heap.size 47 5 (.slice (some ⟨wr.heap.size, 0, none⟩) 1 1) [(2, 0, [])] [.int .i64 2, .int .i64 0, .slice none 0 0] (fun _ => .slice none 0 0)) := oneOp_own wr wr.heap.size 2 0 (.slice none 0 0) [] (Nat.le_refl _) (OwnB.nil _ _ _)
        have HO7 : Hid (OwnOx (wr.alloc (.cells #[.int .i64 2, .int .i64 0, .slice none 0 0] 47)) w.heap.size 47 5 (.slice (some ⟨g, 0, none⟩) (2 + k) cp) (startL sz 0 sq hd ++ putL sz hd (TL t) k) cells dvs) := HO.out.chg c7 (fun g hg => by omega) (fun i g hi hg => by omega)
        have HAS7 : Hid (AsW w sz 0 sq hd us t.seq (.slice po t.homes.length pcap) (.slice ao t.revs.length cap) w1.heap.size (wr.alloc (.cells #[.int .i64 2, .int .i64 0, .slice none 0 0] 47))) := HAS.out.keep c7
        clear c7 HAS HO Hgb
        go_wp2_with (refine wpList_app_opsS rfl (.tmp 50) (.tmp 52) rfl w.heap.size wr.heap.size _ _ (startL sz 0 sq hd ++ putL sz hd (TL t) k) [(2, 0, [])] cells _ dvs _ rfl HO7.out rfl HX7.out hswr (by omega) Nat.one_pos (by rw [HL.out]; show _ + 1 ≤ _; omega) (fun i j g _ _ _ h => by simp [Value.ownBlock] at h) ?_; intro v8 w8 e8 o8 gr8 wh8)
        obtain ⟨g8, cp8, rfl⟩ := e8.out
        have HAS8 := HAS7.out.grown gr8.out (fun g' hg' => by have := ob_eq hg'; omega)
        go_ret
        exact ⟨_, rfl, by rw [Ht.out, ← Hm.out]; exact o8.out, HAS8.2.2⟩
  · have Hst : Hid (startL sz st sq hd = []) := by show _ = _; unfold startL; rw [if_neg hst]
    generalize hwf : w1.alloc (.cells #[.int .i64 2, .int .i64 0, .slice none 0 0] 47) = wf at *
    have HO8 : Hid (∃ cells dvs, OwnOx wf w.heap.size 47 5 (.slice (some ⟨w.heap.size + 1 + 1, 0, none⟩) 0 0) (startL sz st sq hd) cells dvs) := ⟨_, _, by rw [Hst.out]; exact OS1.out⟩
    have hg8 : w.heap.size + 1 + 1 ≠ w1.heap.size ∧ w.heap.size + 1 < w.heap.size + 1 + 1 := by omega
    have s8x : w1.heap.size + 1 ≤ wf.heap.size := by omega
    have HLn : Hid ((startL sz st sq hd).length = 0) := by show _ = _; rw [Hst.out]; rfl
    have hsb : (st == 0) = false := by simpa using hst
    subst hwf
    obtain ⟨⟨k0, k1, k2⟩, _⟩ := tri AS1.out.1.2
    go_wp2_with fail
    refine (HN.out _ AS1.out.2.2).mono ?_
    rintro e wb ⟨gb, cb, rfl, ob, cB⟩
    have HSb : Hid (AsW w sz st sq hd us t.seq (.slice po t.homes.length pcap) (.slice ao t.revs.length cap) w1.heap.size wb) := AS1.out.keep cB
    have sb := cB.size
    rw [← Hm.out] at ob ⊢
    have hobl := ob.lt gb rfl
    have HVb : Hid (View wb gb (gb + 1) .u8 (.slice (some ⟨gb, 0, none⟩) (64 * m) cb) (TL t).flatten) := (ob.base (base' := gb) (fun g hg => by have := ob_eq hg; omega)).view (by rw [Hfl.out]; omega) (hi := gb + 1) (fun g hg => by have := ob_eq hg; omega)
    have HOb : Hid (∃ cells dvs, OwnOx wb w.heap.size 47 5 (.slice (some ⟨(w.heap.size + 1 + 1), 0, none⟩) 0 0) (startL sz st sq hd) cells dvs) := by obtain ⟨c, d, h⟩ := HO8.out; exact ⟨c, d, h.chg cB (fun g hg => by omega) (fun i g hi hg => by omega)⟩
    obtain ⟨ob2, hob2⟩ : ∃ cu, wb.heap[gb]? = some (.cells cu 5 (0, 0)) := ob.elem rfl
    have Hob2 : Hid (wb.heap[gb]? = some (.cells ob2 5 (0, 0))) := hob2
    have hgm : (w.heap.size + 1 + 1) ≠ w1.heap.size ∧ w.heap.size + 1 < (w.heap.size + 1 + 1) := hg8
    clear ob cB hob2 k0 k1 k2 x0 x1 x2 x3 x4
    obtain ⟨xb, Hxb⟩ : ∃ xb, Hid (xb = (TL t).flatten) := ⟨_, rfl⟩
    rw [← Hxb.out] at HVb Hfl HM64
    obtain ⟨L64, hL64⟩ : ∃ L64, L64 = 64 * m := ⟨_, rfl⟩
    have HL64 : Hid (L64 = 64 * m) := hL64
    have hq : (L64 : Int).tdiv 64 = (m : Int) := by rw [Int.tdiv_eq_ediv_of_nonneg (by omega), hL64]; omega
    have hwq : IntKind.i64.wrap (m : Int) = (m : Int) := by rw [IntKind.wrap_i64]; omega
    rw [← hL64] at HVb Hfl ⊢
    clear hL64
    go_wp2_with fail
    go_loopw [5, 8] (fun o x wr => ∃ (k g cp : Nat), k ≤ m ∧ x = .int .i64 k ∧ o = .slice (some ⟨g, 0, none⟩) k cp ∧ (g ≠ w1.heap.size ∧ w.heap.size + 1 < g) ∧ (∃ cells dvs, OwnOx wr w.heap.size 47 5 (.slice (some ⟨g, 0, none⟩) k cp) (startL sz st sq hd ++ putL sz hd (TL t) k) cells dvs) ∧ wr.heap[gb]? = some (.cells ob2 5 (0, 0)) ∧ wb.heap.size ≤ wr.heap.size ∧ AsW w sz st sq hd us t.seq (.slice po t.homes.length pcap) (.slice ao t.revs.length cap) w1.heap.size wr) (fun _ x _ => m - (intOf x).toNat)
    case atStart => exact ⟨0, _, _, Nat.zero_le _, rfl, rfl, hgm, by rw [show putL sz hd (TL t) 0 = [] from rfl, List.append_nil]; exact HOb.out, Hob2.out, Nat.le_refl _, HSb.out⟩
    case round =>
      obtain ⟨k, g, cp, hk, rfl, rfl, hg, ⟨cells, dvs, ho⟩, hgb, hsr, hAS⟩ := hrel
      have HO : Hid (OwnOx wr w.heap.size 47 5 (.slice (some ⟨g, 0, none⟩) k cp) (startL sz st sq hd ++ putL sz hd (TL t) k) cells dvs) := ho
      have HAS : Hid (AsW w sz st sq hd us t.seq (.slice po t.homes.length pcap) (.slice ao t.revs.length cap) w1.heap.size wr) := hAS
      have Hgb : Hid (wr.heap[gb]? = some (.cells ob2 5 (0, 0))) := hgb
      have HL : Hid ((startL sz st sq hd ++ putL sz hd (TL t) k).length = k) := by show _ = _; rw [List.length_append, HLn.out, putL_length]; omega
      have hswr := hAS.2.2.size
      clear ho hAS hgb HOb HSb
      by_cases hlt : k < m
      · have hi' : (k : Int) < (m : Int) := by omega
        obtain ⟨x0, x1, x2, x3, x4⟩ := five_cells HAS.out.1.1
        go_wp2_with fail
        refine (Hpl.out _ k (by omega)).mono ?_
        rintro e w5 ⟨rfl, rfl⟩
        have hpr := Hpr.out k
        have HT1 : Hid (putL sz hd (TL t) (k + 1) = putL sz hd (TL t) k ++ [(1, 1 + placeI sz hd (k : Int), (TL t).getD k [])]) := putL_succ sz hd (TL t) k
        generalize placeI sz hd (k : Int) = pl at *
        have hwp : IntKind.i64.wrap (1 + pl) = 1 + pl := by rw [IntKind.wrap_i64]; omega
        have HVk : View w5 gb (gb + 1) .u8 (.slice (some ⟨gb, 0, none⟩) xb.length cb) xb := by
          have h := HVb.out.keep (w' := w5) (fun b h1 h2 => by rw [show b = gb by omega]; exact Hgb.out.trans Hob2.out.symm)
          rw [Hfl.out]; exact h
        have hN5 := l2Block_at w5 (k := k) HVk (by rw [Hfl.out, HL64.out]; omega) (by rw [Hfl.out, HL64.out]; omega)
        rw [Hfl.out, HM64.out k hlt] at hN5
        generalize (TL t).getD k [] = blk at *
        clear x0 x1 x2 x3 x4 HVk
        go_wp2_with fail
        refine hN5.mono ?_
        rintro e w6 ⟨v6, rfl, o6, c6⟩
        obtain ⟨va, vl, vc, rfl⟩ := row_slice o6
        have s6 := c6.size
        have c7 : Chg 0 0 w6 (w6.alloc (.cells #[.int .i64 1, .int .i64 (1 + pl), .slice va vl vc] 47)) := Chg.alloc (Chg.refl 0 0 w6) _
        have c67 := c6.trans c7
        have s7 : (w6.alloc (.cells #[.int .i64 1, .int .i64 (1 + pl), .slice va vl vc] 47)).heap.size = w6.heap.size + 1 := by simp
        have HX7 : Hid (OwnOx (w6.alloc (.cells #[.int .i64 1, .int .i64 (1 + pl), .slice va vl vc] 47)) w5.heap.size 47 5 (.slice (some ⟨w6.heap.size, 0, none⟩) 1 1) [(1, 1 + pl, blk)] [.int .i64 1, .int .i64 (1 + pl), .slice va vl vc] (fun _ => .slice va vl vc)) := oneOp_own w6 w5.heap.size 1 (1 + pl) (.slice va vl vc) blk s6 o6
        have HO7 : Hid (OwnOx (w6.alloc (.cells #[.int .i64 1, .int .i64 (1 + pl), .slice va vl vc] 47)) w.heap.size 47 5 (.slice (some ⟨g, 0, none⟩) k cp) (startL sz st sq hd ++ putL sz hd (TL t) k) cells dvs) := HO.out.chg c67 (fun g hg => by omega) (fun i g hi hg => by omega)
        have HAS7 : Hid (AsW w sz st sq hd us t.seq (.slice po t.homes.length pcap) (.slice ao t.revs.length cap) w1.heap.size (w6.alloc (.cells #[.int .i64 1, .int .i64 (1 + pl), .slice va vl vc] 47))) := HAS.out.keep c67
        have Hgb7 : Hid ((w6.alloc (.cells #[.int .i64 1, .int .i64 (1 + pl), .slice va vl vc] 47)).heap[gb]? = some (.cells ob2 5 (0, 0))) := (c67.block _ (by omega) (by omega)).trans Hgb.out
        have Hfr : Hid (∀ (i j : Nat) (g : Nat), i < (startL sz st sq hd ++ putL sz hd (TL t) k).length → j < 1 → (dvs i).ownBlock = some g → (Value.slice va vl vc).ownBlock ≠ some g) := more_apart (N := w5.heap.size) (fun i g hi hg => ((HO.out.data i hi).lt g hg).2) (fun g hg => (o6.lt g hg).1)
        clear hN5 o6 c6 c7 c67 HAS HO Hgb
        go_wp2_with (refine wpList_app_opsS rfl (.tmp 36) (.tmp 48) rfl w.heap.size w5.heap.size _ _ (startL sz st sq hd ++ putL sz hd (TL t) k) [(1, 1 + pl, blk)] cells _ dvs _ rfl HO7.out rfl HX7.out hswr (by omega) Nat.one_pos (by rw [HL.out]; show _ + 1 ≤ _; omega) Hfr.out ?_; intro v8 w8 e8 o8 gr8 wh8)
        obtain ⟨g8, cp8, rfl⟩ := e8.out
        rw [HL.out] at *
        go_roundw
        case rel =>
          refine ⟨k + 1, g8, cp8, by omega, by go_num, rfl, ?_, ?_, ?_, by have := gr8.out.size; omega, HAS7.out.grown gr8.out (fun g' hg' => by have := ob_eq hg'; omega)⟩
          · rcases wh8.out g8 rfl with h | h
            · have := ob_eq h; omega
            · omega
          · rw [HT1.out, ← List.append_assoc]; exact o8.out
          · exact (gr8.out.block gb (by omega) (fun e => by obtain ⟨cu, hcu⟩ := row_elem' HO7.out.row e.symm; exact cells_ne hcu Hgb7.out (by decide) rfl)).trans Hgb7.out
        case measure => simp [intOf]; omega
      · obtain rfl : k = m := by omega
        obtain ⟨⟨k0, k1, k2⟩, _⟩ := tri3 HAS.out.2.1
        have c7 : Chg 0 0 wr (wr.alloc (.cells #[.int .i64 2, .int .i64 0, .slice none 0 0] 47)) := Chg.alloc (Chg.refl 0 0 wr) _
        have s7 : (wr.alloc (.cells #[.int .i64 2, .int .i64 0, .slice none 0 0] 47)).heap.size = wr.heap.size + 1 := by simp
        have HX7 : Hid (OwnOx (wr.alloc (.cells #[.int .i64 2, .int .i64 0, .slice none 0 0] 47)) wr.heap.size 47 5 (.slice (some ⟨wr.heap.size, 0, none⟩) 1 1) [(2, 0, [])] [.int .i64 2, .int .i64 0, .slice none 0 0] (fun _ => .slice none 0 0)) := oneOp_own wr wr.heap.size 2 0 (.slice none 0 0) [] (Nat.le_refl _) (OwnB.nil _ _ _)
        have HO7 : Hid (OwnOx (wr.alloc (.cells #[.int .i64 2, .int .i64 0, .slice none 0 0] 47)) w.heap.size 47 5 (.slice (some ⟨g, 0, none⟩) k cp) (startL sz st sq hd ++ putL sz hd (TL t) k) cells dvs) := HO.out.chg c7 (fun g hg => by omega) (fun i g hi hg => by omega)
        have HAS7 : Hid (AsW w sz st sq hd us t.seq (.slice po t.homes.length pcap) (.slice ao t.revs.length cap) w1.heap.size (wr.alloc (.cells #[.int .i64 2, .int .i64 0, .slice none 0 0] 47))) := HAS.out.keep c7
        clear c7 HAS HO Hgb
        go_wp2_with (refine wpList_app_opsS rfl (.tmp 50) (.tmp 52) rfl w.heap.size wr.heap.size _ _ (startL sz st sq hd ++ putL sz hd (TL t) k) [(2, 0, [])] cells _ dvs _ rfl HO7.out rfl HX7.out hswr (by omega) Nat.one_pos (by rw [HL.out]; show _ + 1 ≤ _; omega) (fun i j g _ _ _ h => by simp [Value.ownBlock] at h) ?_; intro v8 w8 e8 o8 gr8 wh8)
        obtain ⟨g8, cp8, rfl⟩ := e8.out
        have HAS8 := HAS7.out.grown gr8.out (fun g' hg' => by have := ob_eq hg'; omega)
        go_ret
        exact ⟨_, rfl, by rw [Ht.out, ← Hm.out]; exact o8.out, HAS8.2.2⟩

end Go.Proofs.YtahjaejepkgfdaaGreatDoor
