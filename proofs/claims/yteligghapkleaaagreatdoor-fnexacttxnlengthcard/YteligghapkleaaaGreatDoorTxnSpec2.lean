/- l4HomeBlocks, ValidTxn of the model. -/
import Derived.Test.YteligghapkleaaaGreatDoorBytSeen
import Derived.Test.YteligghapkleaaaGreatDoorTxnBase
import Derived.Test.YteligghapkleaaaGreatDoorPutByt
namespace Go.Proofs.YteligghapkleaaaGreatDoor
open Go.RowKit

theorem map_take_succ (ps : List Wr) (k : Nat) (h : k < ps.length) : (ps.take (k + 1)).map (·.1) = (ps.take k).map (·.1) ++ [(ps.getD k (0, [])).1] := by
  rw [List.take_succ_eq_append_getElem h, List.map_append]
  simp [List.getD_eq_getElem?_getD, h]

set_option maxRecDepth 20000 in
set_option maxHeartbeats 1000000 in
theorem l4HomeBlocks_some (w : World) (ps : List Wr) (lo hi b off cap : Nat) (hl : ps.length ≤ 1048576)
    (h1 : ∀ i, i < ps.length → ∃ dv, w.cell? ⟨b, off + i * 2, none⟩ = some (.int .i64 (ps.getD i (0, [])).1) ∧ w.cell? ⟨b, off + i * 2 + 1, none⟩ = some dv ∧ View w lo hi .u8 dv (ps.getD i (0, [])).2) :
    Calls Tryz.prog 28 #[.slice (some ⟨b, off, none⟩) ps.length cap] w fun e w' => ∃ v, e = .returned v ∧ OwnI w' w.heap.size 2 v (ps.map (·.1)) ∧ Chg 0 0 w w' := by
  obtain ⟨ti, hti, hz0, hz1, hz2⟩ := info_parts Tryz.infoI
  have C0 : Chg 0 0 w (w.alloc (.cells #[] 2)) := Chg.alloc (Chg.refl 0 0 w) _
  have HO0 : Hid (OwnI (w.alloc (.cells #[] 2)) w.heap.size 2 (.slice (some ⟨w.heap.size, 0, none⟩) 0 0) []) := by
    show OwnI _ _ _ _ _
    have := World.ownsRow_lit (base := w.heap.size) (e := 2) (size := 1) w #[] 0 (Nat.le_refl _) (by unfold maxLen; omega) rfl
    simpa [OwnI] using this
  go_enter Tryz.func28, Tryz.ntmps28
  go_wp2
  go_loopw [3, 4] (fun o i wr => ∃ k : Nat, k ≤ ps.length ∧ i = .int .i64 k ∧ (∃ g cp, o = .slice (some ⟨g, 0, none⟩) k cp) ∧ OwnI wr w.heap.size 2 o ((ps.take k).map (·.1)) ∧ Chg 0 0 w wr) (fun _ i _ => ps.length - (intOf i).toNat)
  case atStart => exact ⟨0, Nat.zero_le _, rfl, ⟨_, _, rfl⟩, HO0.out, C0⟩
  case round =>
    obtain ⟨k, hk, rfl, ⟨og, oc, rfl⟩, ho, hch⟩ := hrel
    have HO : Hid (OwnI wr w.heap.size 2 (.slice (some ⟨og, 0, none⟩) k oc) ((ps.take k).map (·.1))) := ho
    have HCH : Hid _ := hch
    by_cases hlt : k < ps.length
    · obtain ⟨d1, c1, _, _⟩ := h1 k hlt
      have c1 := hch.cell c1 (by omega)
      have hi : (k : Int) < (ps.length : Int) := by omega
      have HM : Hid _ := map_take_succ ps k hlt
      have HLk : Hid (((ps.take k).map (·.1)).length = k) := by show _ = _; rw [List.length_map, List.length_take]; omega
      generalize (ps.getD k (0, [])).1 = y at *
      generalize (ps.take k).map (·.1) = ks at *
      have sz0 := HCH.out.size
      have hgl := ho.lt og rfl
      have HO4 : Hid ((wr.alloc (.cells #[.int .i64 y] 2)).ownsRow w.heap.size 2 1 (.slice (some ⟨og, 0, none⟩) k oc) k (ks.map (Value.int .i64))) := by
        have := HO.out.chg (Chg.alloc (Chg.refl 0 0 wr) (.cells #[.int .i64 y] 2)) (by intro g _; omega)
        unfold OwnI at this; rw [HLk.out] at this; exact this
      have Hgb : Hid (∀ g, (Value.slice (some ⟨og, 0, none⟩) k oc).ownBlock = some g → w.heap.size ≤ g) := fun g hg => (HO.out.lt g hg).1
      have HNW : Hid (∀ j u, [Value.int .i64 y][j]? = some u → (wr.alloc (.cells #[.int .i64 y] 2)).cell? ((⟨wr.heap.size, 0, none⟩ : Addr).add j) = some u) := by
        intro j u hj
        have hj0 : j = 0 := by have := (List.getElem?_eq_some_iff.1 hj).1; simp at this; exact this
        subst hj0
        simp at hj
        subst hj
        simp [Addr.add]
      have bs : Hid (w.heap.size ≤ (wr.alloc (.cells #[.int .i64 y] 2)).heap.size) := by show _ ≤ _; simp; omega
      clear ho hch h1
      go_wp2_with (at_builtin; refine wpList_append_own _ rfl (.tmp 12) (.tmp 18) 23 rfl w.heap.size 2 ti (.int .i64 0) 1 8 Tryz.underlying23 hti hz0 hz1 hz2 rfl (by decide) _ k (ks.map (Value.int .i64)) rfl HO4.out ⟨wr.heap.size, 0, none⟩ 1 1 [.int .i64 y] rfl rfl HNW.out (by simp [Value.oneCell']) (by unfold maxLen; omega) (by omega) bs.out ?_)
      intro v' w5 hown hgrow hnn
      have HV5 : Hid (∃ g cap, v' = .slice (some ⟨g, 0, none⟩) (k + 1) cap) := by
        show ∃ g cap, _
        rcases hown.2 with ⟨e, h0⟩ | ⟨g', cap', cur, e, _⟩
        · omega
        · exact ⟨g', cap', e⟩
      have HO5 : Hid (OwnI w5 w.heap.size 2 v' ((ps.take (k + 1)).map (·.1))) := by
        show OwnI _ _ _ _ _
        unfold OwnI
        rw [HM.out, List.length_append, HLk.out, List.map_append]
        exact hown
      have G : Chg w.heap.size (wr.heap.size + 1) (wr.alloc (.cells #[.int .i64 y] 2)) w5 := Chg.ofGrown hgrow (fun g hg hlt => ⟨Hgb.out g hg, by simpa using hlt⟩)
      have HC5 : Hid (Chg 0 0 w w5) := (HCH.out.alloc _).step G (Or.inr (Or.inl (Nat.le_refl _)))
      clear hown hgrow G HNW HO4 bs hnn
      go_wp2
      go_roundw
      case rel => exact ⟨k + 1, by omega, by go_num, HV5.out, HO5.out, HC5.out⟩
      case measure => simp [intOf]; omega
    · obtain rfl : k = ps.length := by omega
      clear ho hch h1
      go_wp2
      go_ret
      exact ⟨_, rfl, by have := HO.out; rwa [List.take_length] at this, HCH.out⟩

set_option maxRecDepth 20000 in
set_option maxHeartbeats 400000 in
theorem l4HomeBlocks_none (w : World) (ao : Option Addr) (cap : Nat) :
    Calls Tryz.prog 28 #[.slice ao 0 cap] w fun e w' => ∃ v, e = .returned v ∧ OwnI w' w.heap.size 2 v [] ∧ Chg 0 0 w w' := by
  have C0 : Chg 0 0 w (w.alloc (.cells #[] 2)) := Chg.alloc (Chg.refl 0 0 w) _
  have HO0 : Hid (OwnI (w.alloc (.cells #[] 2)) w.heap.size 2 (.slice (some ⟨w.heap.size, 0, none⟩) 0 0) []) := by
    show OwnI _ _ _ _ _
    have := World.ownsRow_lit (base := w.heap.size) (e := 2) (size := 1) w #[] 0 (Nat.le_refl _) (by unfold maxLen; omega) rfl
    simpa [OwnI] using this
  go_enter Tryz.func28, Tryz.ntmps28
  go_wp2
  refine wp_loop_rounds 1 ?_; rw [rounds_succ]
  go_wp2
  go_ret
  exact ⟨_, rfl, HO0.out, C0⟩

theorem l4HomeBlocks_calls (w : World) {lo hi : Nat} {a : Value} {ps : List Wr} (hl : ps.length ≤ 1048576) (h1 : PView w lo hi a ps) :
    Calls Tryz.prog 28 #[a] w fun e w' => ∃ v, e = .returned v ∧ OwnI w' w.heap.size 2 v (ps.map (·.1)) ∧ Chg 0 0 w w' := by
  obtain ⟨ao, cap, rfl, _, _, h1⟩ := h1
  rcases h1 with rfl | ⟨x, off, rfl, _, _, h1⟩
  · exact l4HomeBlocks_none w ao cap
  · exact l4HomeBlocks_some w ps lo hi x off cap hl h1

/-- ValidTxn: its parts. -/
def sizedT (t : Tx) : Prop := (1 ≤ t.seq ∧ t.seq ≤ 4294967295) ∧ 1 ≤ t.homes.length + t.revs.length ∧ t.homes.length + t.revs.length ≤ 128
def homeOk (t : Tx) (h : Wr) : Prop := h.2.length = 64 ∧ h.1 ∉ t.revs
def HomesOk (t : Tx) (n : Nat) : Prop := ∀ i, i < n → homeOk t (t.homes.getD i (0, []))
def ValidT (t : Tx) : Prop := sizedT t ∧ risesB (t.homes.map (·.1)) = true ∧ risesB t.revs = true ∧ HomesOk t t.homes.length
def validT (t : Tx) : Bool := decide (((1 ≤ t.seq ∧ t.seq ≤ 4294967295) ∧ 1 ≤ t.homes.length + t.revs.length ∧ t.homes.length + t.revs.length ≤ 128) ∧ risesB (t.homes.map (·.1)) = true ∧ risesB t.revs = true ∧ ∀ i, i < t.homes.length → (t.homes.getD i (0, [])).2.length = 64 ∧ (t.homes.getD i (0, [])).1 ∉ t.revs)
theorem validT_true {t : Tx} (h : ValidT t) : validT t = true := decide_eq_true h
theorem validT_false {t : Tx} (h : ¬ ValidT t) : validT t = false := decide_eq_false h

theorem HomesOk.succ {t : Tx} {n : Nat} (h : HomesOk t n) (hn : homeOk t (t.homes.getD n (0, []))) : HomesOk t (n + 1) := by
  intro i hi
  by_cases e : i = n
  · subst e; exact hn
  · exact h i (by omega)

set_option maxRecDepth 20000 in
set_option maxHeartbeats 2000000 in
theorem specValidTxn_calls (w : World) {lo hi : Nat} {a : Value} {t : Tx} (hl : cntT t ≤ 1048576) (h1 : TView w lo hi a t) :
    Calls Tryz.prog 18 #[a] w fun e w' => e = .returned (.bool (validT t)) ∧ Chg 0 0 w w' := by
  have hl1 : t.homes.length ≤ 1048576 := by have := cnt_ge t.homes; unfold cntT at hl; omega
  have hl2 : t.revs.length ≤ 1048576 := by unfold cntT at hl; omega
  obtain ⟨hv, rv, rfl, p1, v1⟩ := h1
  obtain ⟨po, pcap, rfl⟩ := p1.slice
  obtain ⟨ao, cap, rfl⟩ := v1.slice
  have hA : Chg 0 0 w (w.alloc (.cells #[.int .i64 t.seq, .slice po t.homes.length pcap, .slice ao t.revs.length cap] 30)) := Chg.alloc (Chg.refl 0 0 w) _
  have B0 := heap_new w (.cells #[.int .i64 t.seq, .slice po t.homes.length pcap, .slice ao t.revs.length cap] 30)
  have s0 : (w.alloc (.cells #[.int .i64 t.seq, .slice po t.homes.length pcap, .slice ao t.revs.length cap] 30)).heap.size = w.heap.size + 1 := by simp
  obtain ⟨⟨k0, k1, k2⟩, _⟩ := tri B0
  have HP : Hid (PView w lo hi (.slice po t.homes.length pcap) t.homes) := p1
  have HR : Hid (View w lo hi .i64 (.slice ao t.revs.length cap) t.revs) := v1
  have HA : Hid (Chg 0 0 w (w.alloc (.cells #[.int .i64 t.seq, .slice po t.homes.length pcap, .slice ao t.revs.length cap] 30))) := hA
  have HB0 : Hid ((w.alloc (.cells #[.int .i64 t.seq, .slice po t.homes.length pcap, .slice ao t.revs.length cap] 30)).heap[w.heap.size]? = some (.cells #[.int .i64 t.seq, .slice po t.homes.length pcap, .slice ao t.revs.length cap] 30 (0, 0))) := B0
  obtain ⟨b1, Hb1⟩ : ∃ b, Hid (b = risesB (t.homes.map (·.1))) := ⟨_, rfl⟩
  obtain ⟨b2, Hb2⟩ : ∃ b, Hid (b = risesB t.revs) := ⟨_, rfl⟩
  clear p1 v1 hA B0
  go_enter Tryz.func18, Tryz.ntmps18
  go_wp2_with fail
  generalize (w.alloc (.cells #[.int .i64 t.seq, .slice po t.homes.length pcap, .slice ao t.revs.length cap] 30)) = w0 at *
  refine (l3GoodSeq_calls _ t.seq).mono ?_
  rintro e w1 ⟨rfl, rfl⟩
  by_cases hs : sizedT t
  case neg =>
    have Hv : Hid (validT t = false) := validT_false (fun h => hs h.1)
    by_cases hq : 1 ≤ t.seq ∧ t.seq ≤ 4294967295
    · have hg : goodSeq t.seq = true := by unfold goodSeq; simpa using hq
      rw [hg]
      have hn : (t.homes.length : Int) + t.revs.length < 1 ∨ 128 < (t.homes.length : Int) + t.revs.length := by
        by_cases h : 1 ≤ t.homes.length + t.revs.length
        · right
          have : ¬ t.homes.length + t.revs.length ≤ 128 := fun h' => hs ⟨hq, h, h'⟩
          omega
        · left; omega
      clear hs hg
      rcases hn with hn | hn
      · go_wp2
        go_ret
        exact ⟨by rw [Hv.out]; rfl, HA.out⟩
      · go_wp2
        go_ret
        exact ⟨by rw [Hv.out]; rfl, HA.out⟩
    · have hg : goodSeq t.seq = false := by unfold goodSeq; rw [Bool.eq_false_iff]; simpa using hq
      rw [hg]
      clear hs hg
      go_wp2
      go_ret
      exact ⟨by rw [Hv.out]; rfl, HA.out⟩
  obtain ⟨hq, hn1, hn2⟩ := id hs
  have hg : goodSeq t.seq = true := by unfold goodSeq; simpa using hq
  have hn1' : ¬ (t.homes.length : Int) + t.revs.length < 1 := by omega
  have hn2' : ¬ 128 < (t.homes.length : Int) + t.revs.length := by omega
  have HS : Hid (sizedT t) := hs
  rw [hg]
  clear hg hs
  go_wp2_with fail
  refine (l4HomeBlocks_calls _ hl1 (HP.out.chg HA.out (by omega))).mono ?_
  rintro e w2 ⟨bv, rfl, ob, h2⟩
  have vb := ob.view (hi := w2.heap.size) (by rw [List.length_map]; omega) (fun g hg => (ob.lt g hg).2)
  have HA2 : Hid _ := HA.out.trans h2
  have HB2 : Hid _ := (h2.block _ (by omega) (by omega)).trans HB0.out
  obtain ⟨bo, bcap, hbv⟩ := vb.slice
  rw [List.length_map] at hbv
  subst hbv
  clear ob h2 k0 k1 k2 hn1' hn2'
  go_wp2_with fail
  refine (l4Rising_calls _ vb).mono ?_
  rintro e w3 ⟨he, h3⟩
  rw [← Hb1.out] at he
  subst he
  have HA3 : Hid _ := HA2.out.trans (h3.chg 0 0)
  have HB3 : Hid (w3.heap[w.heap.size]? = some (.cells #[.int .i64 t.seq, .slice po t.homes.length pcap, .slice ao t.revs.length cap] 30 (0, 0))) := by show _ = _; rw [h3.heap]; exact HB2.out
  obtain ⟨⟨k0, k1, k2⟩, _⟩ := tri HB3.out
  clear h3 vb HA2 HB2
  go_wp2_with fail
  refine (l4Rising_calls _ (HR.out.chg HA3.out (by omega))).mono ?_
  rintro e w4 ⟨he, h4⟩
  rw [← Hb2.out] at he
  subst he
  have HA4 : Hid _ := HA3.out.trans (h4.chg 0 0)
  have HB4 : Hid (w4.heap[w.heap.size]? = some (.cells #[.int .i64 t.seq, .slice po t.homes.length pcap, .slice ao t.revs.length cap] 30 (0, 0))) := by show _ = _; rw [h4.heap]; exact HB3.out
  clear h4 k0 k1 k2 HA3 HB3
  cases b1
  case false =>
    have Hv : Hid (validT t = false) := validT_false (fun h => by have := h.2.1; rw [← Hb1.out] at this; cases this)
    go_wp2
    go_ret
    exact ⟨by rw [Hv.out]; rfl, HA4.out⟩
  cases b2
  case false =>
    have Hv : Hid (validT t = false) := validT_false (fun h => by have := h.2.2.1; rw [← Hb2.out] at this; cases this)
    go_wp2
    go_ret
    exact ⟨by rw [Hv.out]; rfl, HA4.out⟩
  have H1 : Hid _ := Hb1.out.symm
  have H2 : Hid _ := Hb2.out.symm
  go_wp2
  go_loopw [8] (fun i wr => Same w4 wr ∧ ∃ k : Nat, k ≤ t.homes.length ∧ i = .int .i64 k ∧ HomesOk t k) (fun i _ => t.homes.length - (intOf i).toNat)
  case atStart => exact ⟨Same.refl _, 0, Nat.zero_le _, rfl, fun i h => absurd h (Nat.not_lt_zero i)⟩
  case round =>
    obtain ⟨hal, k, hk, rfl, hO⟩ := hrel
    have HO : Hid (HomesOk t k) := hO
    have HS4 : Hid (Same w4 wr) := hal
    have HC : Hid _ := HA4.out.trans (hal.chg 0 0)
    have HB : wr.heap[w.heap.size]? = some (.cells #[.int .i64 t.seq, .slice po t.homes.length pcap, .slice ao t.revs.length cap] 30 (0, 0)) := by rw [hal.heap]; exact HB4.out
    obtain ⟨⟨k0, k1, k2⟩, _⟩ := tri HB
    clear hO hal HB
    by_cases hlt : k < t.homes.length
    · obtain ⟨b, off, he, c1, dv, c2, vd⟩ : ∃ b off, po = some ⟨b, off, none⟩ ∧ wr.cell? ⟨b, off + k * 2, none⟩ = some (.int .i64 (t.homes.getD k (0, [])).1) ∧ ∃ dv, wr.cell? ⟨b, off + k * 2 + 1, none⟩ = some dv ∧ View wr lo hi .u8 dv (t.homes.getD k (0, [])).2 := by
        obtain ⟨po', pc', he, _, _, hp⟩ := HP.out.chg HC.out (by omega)
        simp only [Value.slice.injEq] at he
        obtain ⟨rfl, _, rfl⟩ := he
        rcases hp with hp | ⟨b, off, rfl, _, _, hp⟩
        · rw [hp] at hlt; simp at hlt
        · obtain ⟨dv, c1, c2, vd⟩ := hp k hlt
          exact ⟨b, off, rfl, c1, dv, c2, vd⟩
      subst he
      obtain ⟨d0, dcap, rfl⟩ := vd.slice
      have hik : (k : Int) < (t.homes.length : Int) := by omega
      have hok : homeOk t (t.homes.getD k (0, [])) → HomesOk t (k + 1) := fun h => HO.out.succ h
      have hno : ¬ homeOk t (t.homes.getD k (0, [])) → validT t = false := fun h => validT_false (fun hv => h (hv.2.2.2 k hlt))
      have hVr : ∀ m, View (wr.drewN m) lo hi .i64 (.slice ao t.revs.length cap) t.revs := fun m => HR.out.chg (HC.out.drewN m) (by omega)
      unfold homeOk at hok hno
      generalize (t.homes.getD k (0, [])).1 = q at *
      generalize (t.homes.getD k (0, [])).2.length = n at *
      clear vd
      by_cases hn : n = 64
      · subst hn
        by_cases hm : q ∈ t.revs
        · have Hv : Hid _ := hno (fun h => h.2 hm)
          have hd := decide_eq_true hm
          have hN := fun m => l4Has_calls (wr.drewN m) q (hVr m)
          rw [hd] at hN
          clear hok hno hVr hd hm
          go_wp2
          go_quiet (first | (go_at_call 30; exact Calls.quiet_of_same (hN _)))
          clear hN
          go_wp2
          go_ret
          exact ⟨by rw [Hv.out]; rfl, HC.out.drewN _⟩
        · have Hn : Hid (HomesOk t (k + 1)) := hok ⟨rfl, hm⟩
          have hd := decide_eq_false hm
          have hN := fun m => l4Has_calls (wr.drewN m) q (hVr m)
          rw [hd] at hN
          clear hok hno hVr hd hm
          go_wp2
          go_quiet (first | (go_at_call 30; exact Calls.quiet_of_same (hN _)))
          clear hN
          go_wp2
          go_roundw
          case rel => exact ⟨HS4.out.drewN _, k + 1, by omega, by go_num, Hn.out⟩
          case measure => simp [intOf]; omega
      · have Hv : Hid _ := hno (fun h => hn h.1)
        have hne : ((n : Int) != 64) = true := by simp; omega
        clear hok hno hVr hn
        go_wp2
        go_quiet (fail)
        go_wp2
        go_ret
        exact ⟨by rw [Hv.out]; rfl, HC.out.drewN _⟩
    · obtain rfl : k = t.homes.length := by omega
      have Hv : Hid _ := validT_true ⟨HS.out, H1.out, H2.out, HO.out⟩
      go_wp2
      go_ret
      exact ⟨by rw [Hv.out]; rfl, HC.out⟩

end Go.Proofs.YteligghapkleaaaGreatDoor
