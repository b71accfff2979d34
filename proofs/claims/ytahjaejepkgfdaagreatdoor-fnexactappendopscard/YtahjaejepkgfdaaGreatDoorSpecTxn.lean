/- TxnBlocks, TxnLength of the model. -/
import Derived.Test.YtahjaejepkgfdaaGreatDoorSpecBody2
import Derived.Test.YtahjaejepkgfdaaGreatDoorImplCommit2
import Derived.Test.YtahjaejepkgfdaaGreatDoorSpecCrc
import Derived.Test.YtahjaejepkgfdaaGreatDoorPutByt
import Derived.Test.YtahjaejepkgfdaaGreatDoorCopyRow
namespace Go.Proofs.YtahjaejepkgfdaaGreatDoor
open Go.RowKit

theorem Byt.app {xs ys : List Int} (h : Byt xs) (k : Byt ys) : Byt (xs ++ ys) := fun x hx => (List.mem_append.1 hx).elim (h x) (k x)
theorem byt_zeros (n : Nat) : Byt (List.replicate n 0) := fun x hx => by rw [(List.mem_replicate.1 hx).2]; omega
theorem byt_pad {xs : List Int} (h : Byt xs) : Byt (padL xs) := h.app (byt_zeros _)
theorem byt_head {k c q : Int} (hk : 0 ≤ k ∧ k < 256) : Byt (headL k c q) := by
  unfold headL
  refine Byt.app (Byt.app (Byt.app ?_ ?_) (putN_byt _ _)) (putN_byt _ _)
  · intro x hx; unfold mg at hx; simp at hx; omega
  · intro x hx; simp at hx; omega
theorem byt_putPs (xs : List Int) : Byt (putPs xs) := fun x hx => by
  unfold putPs at hx
  obtain ⟨y, _, hy⟩ := List.mem_flatMap.1 hx
  exact putN_byt _ _ x hy
theorem byt_tagsL (ts : List (Int × Bool)) : Byt (tagsL ts) := fun x hx => by
  unfold tagsL at hx
  obtain ⟨y, _, hy⟩ := List.mem_flatMap.1 hx
  unfold tagL at hy
  rcases List.mem_append.1 hy with h | h
  · exact putN_byt _ _ x h
  · rw [List.mem_singleton.1 h]; split <;> omega
theorem byt_esc {xs : List Int} (h : Byt xs) : Byt (escL xs) := by
  unfold escL
  split
  · exact Byt.app (fun x hx => by simp at hx; omega) (h.drop 4)
  · exact h
theorem BL_byt {q : Int} {hs : List Wr} (rs : List Int) (h : ∀ x ∈ hs, Byt x.2) : ∀ b ∈ BL q hs rs, Byt b := by
  intro b hb
  unfold BL at hb
  rcases List.mem_append.1 hb with hb | hb
  · obtain ⟨c, _, rfl⟩ := List.mem_map.1 hb
    exact byt_pad ((byt_head (by omega)).app (byt_putPs _))
  · obtain ⟨c, hc, hb⟩ := List.mem_flatMap.1 hb
    unfold descBs at hb
    rcases List.mem_cons.1 hb with rfl | hb
    · exact byt_pad ((byt_head (by omega)).app (byt_tagsL _))
    · obtain ⟨x, hx, rfl⟩ := List.mem_map.1 hb
      exact byt_esc (h x (chunk_mem hc x hx))
theorem byt_flat {bs : List (List Int)} (h : ∀ b ∈ bs, Byt b) : Byt bs.flatten := fun x hx => by
  obtain ⟨b, hb, hx⟩ := List.mem_flatten.1 hx
  exact h b hb x hx

/-- The commit block behind some blocks; all blocks of a transaction. -/
def comB (q : Int) (bs : List (List Int)) : List Int := padL (headL 4 bs.length q ++ putN (crcV bs.flatten) 4)
def TL (t : Tx) : List (List Int) := if validT t = true then BL t.seq t.homes t.revs ++ [comB t.seq (BL t.seq t.homes t.revs)] else []
theorem com_64 {q : Int} {bs : List (List Int)} (h0 : 1 ≤ q) (h1 : q ≤ 4294967295) (hl : bs.length < 512) : (comB q bs).length = 64 := by
  unfold comB padL
  obtain ⟨c0, c1⟩ := crcV_range bs.flatten
  have e : (headL 4 bs.length q ++ putN (crcV bs.flatten) 4).length = 16 := by rw [List.length_append, headL_len (pn2 (by omega) (by omega)) (pn4 (by omega) h1), pn4 c0 c1]
  rw [List.length_append, List.length_replicate, e]
theorem BL_pos {q : Int} {hs : List Wr} {rs : List Int} (h : 1 ≤ hs.length + rs.length) : 1 ≤ (BL q hs rs).length := by
  by_cases hr : 0 < rs.length
  · rw [BL_rev q hs hr, List.length_cons]; omega
  · obtain rfl : rs = [] := List.eq_nil_of_length_eq_zero (by omega)
    rw [BL_home q (by simp only [List.length_nil] at h; omega)]
    unfold descBs
    simp

set_option maxRecDepth 20000 in
set_option maxHeartbeats 2000000 in
theorem specTxnBlocks_calls (w : World) {lo hi : Nat} {a : Value} {t : Tx} (hl : cntT t ≤ 1048576) (hhi : hi ≤ w.heap.size) (hby : ∀ x ∈ t.homes, Byt x.2) (h1 : TView w lo hi a t) :
    Calls Tryz.prog 18 #[a] w fun e w' => Told w w' e (TL t) := by
  have hT := h1
  obtain ⟨hv, rv, rfl, p1, v1⟩ := h1
  obtain ⟨po, pcap, rfl⟩ := p1.slice
  obtain ⟨ao, cap, rfl⟩ := v1.slice
  have C0 : Chg 0 0 w (w.alloc (.cells #[.int .i64 t.seq, .slice po t.homes.length pcap, .slice ao t.revs.length cap] 35)) := Chg.alloc (Chg.refl 0 0 w) _
  have B0 := heap_new w (.cells #[.int .i64 t.seq, .slice po t.homes.length pcap, .slice ao t.revs.length cap] 35)
  have s0 : (w.alloc (.cells #[.int .i64 t.seq, .slice po t.homes.length pcap, .slice ao t.revs.length cap] 35)).heap.size = w.heap.size + 1 := by simp
  obtain ⟨⟨k0, k1, k2⟩, _⟩ := tri B0
  have hN := specValidTxn_calls (w.alloc (.cells #[.int .i64 t.seq, .slice po t.homes.length pcap, .slice ao t.revs.length cap] 35)) hl (hT.chg C0 (by omega))
  have HT : Hid (∀ W, Chg 0 0 w W → TView W lo hi (.agg #[.int .i64 t.seq, .slice po t.homes.length pcap, .slice ao t.revs.length cap]) t) := fun W hW => hT.chg hW (by omega)
  have HB0 : Hid _ := B0
  have HC0 : Hid _ := C0
  clear B0 C0 hT p1 v1
  by_cases hval : ValidT t
  case neg =>
    rw [validT_false hval] at hN
    have HTL : Hid (TL t = []) := by show _ = _; unfold TL; rw [validT_false hval]; rfl
    go_enter Tryz.func18, Tryz.ntmps18
    go_wp2_with fail
    generalize w.alloc (.cells #[.int .i64 t.seq, .slice po t.homes.length pcap, .slice ao t.revs.length cap] 35) = w1 at *
    refine hN.mono ?_
    rintro e w2 ⟨rfl, h2⟩
    have HO : Hid (OwnB (w2.alloc (.cells #[] 5)) w.heap.size 5 (.slice (some ⟨w2.heap.size, 0, none⟩) 0 0) []) := OwnB.bnil w2 w.heap.size (by have := h2.size; omega)
    have HC : Hid (Chg 0 0 w (w2.alloc (.cells #[] 5))) := (HC0.out.trans h2).alloc _
    clear hN h2 k0 k1 k2
    go_wp2
    go_ret
    exact ⟨_, _, by rw [HTL.out]; rfl, by rw [HTL.out]; exact HO.out, HC.out⟩
  rw [validT_true hval] at hN
  have HTL : Hid (TL t = BL t.seq t.homes t.revs ++ [comB t.seq (BL t.seq t.homes t.revs)]) := by show _ = _; unfold TL; rw [if_pos (validT_true hval)]
  have hok := OkT.of hval hby
  obtain ⟨⟨_, hs1, hs2⟩, _⟩ := hval
  obtain ⟨i1, i2⟩ := BL_64 128 (q := t.seq) (hs := t.homes) (rs := t.revs) (by omega) hok
  have hBy := byt_flat (BL_byt (q := t.seq) t.revs hby)
  have hp := BL_pos (q := t.seq) (hs := t.homes) (rs := t.revs) (by omega)
  have HREC : Hid (∀ W, Chg 0 0 w W → Calls Tryz.prog 40 #[.agg #[.int .i64 t.seq, .slice po t.homes.length pcap, .slice ao t.revs.length cap]] W fun e w' => Told W w' e (BL t.seq t.homes t.revs)) := fun W hW => l4Body_calls 128 W (by omega) (by omega) hok (by have := hW.size; omega) (HT.out W hW)
  have q0 := hok.q0
  have q1 := hok.q1
  have hfl := flat_len i1
  have HcL : Hid ((comB t.seq (BL t.seq t.homes t.revs)).length = 64) := com_64 q0 q1 (by omega)
  obtain ⟨c0, c1⟩ := crcV_range (BL t.seq t.homes t.revs).flatten
  have HcC : Hid (commitL t.seq ((BL t.seq t.homes t.revs).length : Int) (crcV (BL t.seq t.homes t.revs).flatten) = comB t.seq (BL t.seq t.homes t.revs)) := by
    show _ = _
    unfold commitL
    rw [if_pos ⟨⟨q0, q1⟩, ⟨by omega, by omega⟩, c0, c1⟩]
    rfl
  have HBy : Hid _ := hBy
  clear i1 hok hBy
  generalize comB t.seq (BL t.seq t.homes t.revs) = cb at *
  generalize hBs : BL t.seq t.homes t.revs = bs at *
  have hbs : bs.length ≤ 256 := by omega
  obtain ⟨L, hL⟩ : ∃ L, L = 64 * bs.length := ⟨_, rfl⟩
  obtain ⟨nb, hnb⟩ : ∃ nb : Int, nb = (bs.length : Int) := ⟨_, rfl⟩
  have HL : Hid _ := hL
  have Hnb : Hid _ := hnb
  have hq64 : (L : Int).tdiv 64 = nb := by rw [Int.tdiv_eq_ediv_of_nonneg (by omega), hL, hnb]; omega
  have hwn : IntKind.i64.wrap nb = nb := by rw [IntKind.wrap_i64]; omega
  have hLb : L ≤ 16384 := by omega
  have HCRC : Hid (∀ W, View W w.heap.size W.heap.size .u8 (.slice (some ⟨0, 0, none⟩) 0 0) [] → True) := fun _ _ => trivial
  clear HCRC
  obtain ⟨cr, hcr⟩ : ∃ cr, cr = crcV bs.flatten := ⟨_, rfl⟩
  have Hcr : Hid _ := hcr
  rw [← hnb, ← hcr] at HcC
  rw [← hcr] at c0 c1
  clear hBs hL hnb hcr i2 hs1 hs2
  go_enter Tryz.func18, Tryz.ntmps18
  go_wp2_with fail
  generalize w.alloc (.cells #[.int .i64 t.seq, .slice po t.homes.length pcap, .slice ao t.revs.length cap] 35) = w1 at *
  refine hN.mono ?_
  rintro e w1b ⟨rfl, h1b⟩
  have HB1 : Hid _ := (h1b.block _ (by omega) (by omega)).trans HB0.out
  have HC1 : Hid _ := HC0.out.trans h1b
  have s1 := h1b.size
  obtain ⟨⟨k0, k1, k2⟩, _⟩ := tri HB1.out
  clear hN h1b HB0 HC0
  go_wp2_with fail
  refine (HREC.out _ HC1.out).mono ?_
  rintro e w2 ⟨g, gc, rfl, o2, h2⟩
  have HB2 : Hid _ := (h2.block _ (by omega) (by omega)).trans HB1.out
  have HC2 : Hid _ := HC1.out.trans h2
  have s2 := h2.size
  have HO2 : Hid (OwnB w2 w.heap.size 5 (.slice (some ⟨g, 0, none⟩) L gc) bs.flatten) := by
    show OwnB _ _ _ _ _
    rw [HL.out]
    exact o2.base (fun g hg => by have := (o2.lt g hg).1; omega)
  have HV2 : Hid (∀ W, Chg 0 0 w2 W → View W w.heap.size w2.heap.size .u8 (.slice (some ⟨g, 0, none⟩) L gc) bs.flatten) := fun W hW => (HO2.out.view (hi := w2.heap.size) (by rw [hfl]; omega) (fun g hg => (HO2.out.lt g hg).2)).chg hW (by omega)
  have HCRC : Hid (∀ W, Chg 0 0 w2 W → Calls Tryz.prog 41 #[.slice (some ⟨g, 0, none⟩) L gc] W fun e w' => e = .returned (.int .i64 cr) ∧ w' = W) := fun W hW => by
    rw [Hcr.out]
    exact specCrc_calls W HBy.out (HV2.out W hW)
  rw [← HL.out]
  clear o2 h2 HB1 HC1 HREC k0 k1 k2
  obtain ⟨N, hN⟩ : ∃ N, N = w2.heap.size := ⟨_, rfl⟩
  have HN : Hid (_ ∧ _) := ⟨by omega, hN⟩
  clear hN
  go_upto_region 4 with fail
  go_cut [4] (fun s wx => s = .pointer (some ⟨N, 0, none⟩) ∧ Chg 0 0 w2 wx ∧ wx.heap[N]? = some (.cells #[.int .i64 t.seq, .int .i64 nb, .int .i64 cr] 78 (0, 0)))
  case first =>
    have HS : Hid ((fun w' : World => w'.heap[w.heap.size]? = some (.cells #[.int .i64 t.seq, .slice po t.homes.length pcap, .slice ao t.revs.length cap] 35 (0, 0))) w2.drew) := HB2.out
    refine held_region (fun w' : World => w'.heap[w.heap.size]? = some (.cells #[.int .i64 t.seq, .slice po t.homes.length pcap, .slice ao t.revs.length cap] 35 (0, 0))) (by kernel_rfl) ?_
    refine held_take 0 (.pointer (some ⟨w.heap.size, 0, none⟩)) rfl (by kernel_rfl) (by kernel_rfl) (by kernel_rfl) (fun _ _ _ h => h) (.inl ⟨by kernel_rfl, fun w' hw' => by go_simp⟩) HS.out ?_
    go_simp
    refine held_take 1 (.int .i64 t.seq) rfl (by kernel_rfl) (by kernel_rfl) (by kernel_rfl) (fun _ _ _ h => h) (.inl ⟨by kernel_rfl, fun w' hw' => by obtain ⟨⟨q0, q1, q2⟩, _⟩ := tri hw'; go_simp⟩) HS.out ?_
    go_simp
    refine held_take 2 (.slice (some ⟨g, 0, none⟩) L gc) rfl (by kernel_rfl) (by kernel_rfl) (by kernel_rfl) (fun _ _ _ h => h) (.inl ⟨by kernel_rfl, fun w' hw' => by go_simp⟩) HS.out ?_
    go_simp
    refine held_take 3 (.int .i64 (L : Int)) rfl (by kernel_rfl) (by kernel_rfl) (by kernel_rfl) (fun _ _ _ h => h) (.inl ⟨by kernel_rfl, fun w' hw' => by go_simp⟩) HS.out ?_
    go_simp
    refine held_take 4 (.int .i64 nb) rfl (by kernel_rfl) (by kernel_rfl) (by kernel_rfl) (fun _ _ _ h => h) (.inl ⟨by kernel_rfl, fun w' hw' => by go_simp⟩) HS.out ?_
    go_simp
    refine held_take 5 (.slice (some ⟨g, 0, none⟩) L gc) rfl (by kernel_rfl) (by kernel_rfl) (by kernel_rfl) (fun _ _ _ h => h) (.inl ⟨by kernel_rfl, fun w' hw' => by go_simp⟩) HS.out ?_
    go_simp
    have Cd := Chg.drew (Chg.refl 0 0 w2)
    have HCd : Hid _ := Cd
    have HNd : Hid (w2.drew.heap.size = w2.heap.size) := rfl
    rw [HN.out.2.symm] at HNd
    clear Cd
    generalize w2.drew = wd at *
    refine held_two 6 8 rfl rfl rfl rfl (by kernel_rfl) ?_ ?_
    · refine wp_enter 41 #[.slice (some ⟨g, 0, none⟩) L gc] (by first | kernel_rfl | go_simp) (HCRC.out wd HCd.out) ?_
      rintro e wq ⟨rfl, rfl⟩
      refine ⟨_, rfl, HS.out, ?_⟩
      go_simp
      refine held_take 7 (.agg #[.int .i64 t.seq, .int .i64 nb, .int .i64 cr]) rfl (by kernel_rfl) (by kernel_rfl) (by kernel_rfl) (fun _ _ _ h => h) (.inl ⟨by kernel_rfl, fun w' hw' => by go_simp⟩) HS.out ?_
      go_simp
      have Ca : Chg 0 0 wq (wq.alloc (.cells #[.int .i64 0, .int .i64 0, .int .i64 0] 78)) := Chg.alloc (Chg.refl 0 0 wq) _
      have HSa : Hid ((fun w' : World => w'.heap[w.heap.size]? = some (.cells #[.int .i64 t.seq, .slice po t.homes.length pcap, .slice ao t.revs.length cap] 35 (0, 0))) (wq.alloc (.cells #[.int .i64 0, .int .i64 0, .int .i64 0] 78))) := (Ca.block _ (by have := HN.out; have := HNd.out; omega) (by omega)).trans HS.out
      have HA : Hid ((wq.alloc (.cells #[.int .i64 0, .int .i64 0, .int .i64 0] 78)).heap[N]? = some (.cells #[.int .i64 0, .int .i64 0, .int .i64 0] 78 (0, 0))) := by have h := heap_new wq (.cells #[.int .i64 0, .int .i64 0, .int .i64 0] 78); rw [HNd.out] at h; exact h
      have HCA : Hid _ := HCd.out.trans Ca
      refine held_one 8 rfl rfl (by kernel_rfl) ?_
      have eN := HNd.out
      go_simp
      clear eN Ca
      generalize wq.alloc (.cells #[.int .i64 0, .int .i64 0, .int .i64 0] 78) = wb at *
      refine ⟨HSa.out, ?_⟩
      refine held_one 9 rfl rfl (by kernel_rfl) ?_
      refine wp_store_row 78 (.tmp 4) (.tmp 18) rfl rfl N rfl [.int .i64 t.seq, .int .i64 nb, .int .i64 cr] [.int .i64 0, .int .i64 0, .int .i64 0] 78 rfl HA.out rfl (by kernel_rfl) (by simp [Value.oneCell']) ?_
      intro wy hy cy
      have HSy : Hid ((fun w' : World => w'.heap[w.heap.size]? = some (.cells #[.int .i64 t.seq, .slice po t.homes.length pcap, .slice ao t.revs.length cap] 35 (0, 0))) wy) := (cy.block _ (by have := HN.out; have := HCA.out.size; omega) (by have := HN.out; omega)).trans HSa.out
      have HR : Hid (Chg 0 0 w2 wy ∧ wy.heap[N]? = some (.cells #[.int .i64 t.seq, .int .i64 nb, .int .i64 cr] 78 (0, 0))) := ⟨HCA.out.step cy (by have := HN.out; omega), hy⟩
      clear hy cy
      refine ⟨HSy.out, held_done (by kernel_rfl) (NoPanic.normal ?_)⟩
      go_wp2
      go_meet
      exact ⟨rfl, HR.out⟩
    · have Ca : Chg 0 0 wd (wd.alloc (.cells #[.int .i64 0, .int .i64 0, .int .i64 0] 78)) := Chg.alloc (Chg.refl 0 0 wd) _
      have HSa : Hid ((fun w' : World => w'.heap[w.heap.size]? = some (.cells #[.int .i64 t.seq, .slice po t.homes.length pcap, .slice ao t.revs.length cap] 35 (0, 0))) (wd.alloc (.cells #[.int .i64 0, .int .i64 0, .int .i64 0] 78))) := (Ca.block _ (by have := HN.out; have := HNd.out; omega) (by omega)).trans HS.out
      have HA : Hid ((wd.alloc (.cells #[.int .i64 0, .int .i64 0, .int .i64 0] 78)).heap[N]? = some (.cells #[.int .i64 0, .int .i64 0, .int .i64 0] 78 (0, 0))) := by have h := heap_new wd (.cells #[.int .i64 0, .int .i64 0, .int .i64 0] 78); rw [HNd.out] at h; exact h
      have HCA : Hid _ := HCd.out.trans Ca
      have eN := HNd.out
      go_simp
      clear eN Ca
      generalize wd.alloc (.cells #[.int .i64 0, .int .i64 0, .int .i64 0] 78) = wb at *
      refine ⟨HSa.out, ?_⟩
      refine held_one 6 rfl rfl (by kernel_rfl) ?_
      refine wp_enter 41 #[.slice (some ⟨g, 0, none⟩) L gc] (by first | kernel_rfl | go_simp) (HCRC.out wb HCA.out) ?_
      rintro e wq ⟨rfl, rfl⟩
      refine ⟨_, rfl, HSa.out, ?_⟩
      go_simp
      refine held_take 7 (.agg #[.int .i64 t.seq, .int .i64 nb, .int .i64 cr]) rfl (by kernel_rfl) (by kernel_rfl) (by kernel_rfl) (fun _ _ _ h => h) (.inl ⟨by kernel_rfl, fun w' hw' => by go_simp⟩) HSa.out ?_
      go_simp
      refine held_one 9 rfl rfl (by kernel_rfl) ?_
      refine wp_store_row 78 (.tmp 4) (.tmp 18) rfl rfl N rfl [.int .i64 t.seq, .int .i64 nb, .int .i64 cr] [.int .i64 0, .int .i64 0, .int .i64 0] 78 rfl HA.out rfl (by kernel_rfl) (by simp [Value.oneCell']) ?_
      intro wy hy cy
      have HSy : Hid ((fun w' : World => w'.heap[w.heap.size]? = some (.cells #[.int .i64 t.seq, .slice po t.homes.length pcap, .slice ao t.revs.length cap] 35 (0, 0))) wy) := (cy.block _ (by have := HN.out; have := HCA.out.size; omega) (by have := HN.out; omega)).trans HSa.out
      have HR : Hid (Chg 0 0 w2 wy ∧ wy.heap[N]? = some (.cells #[.int .i64 t.seq, .int .i64 nb, .int .i64 cr] 78 (0, 0))) := ⟨HCA.out.step cy (by have := HN.out; omega), hy⟩
      clear hy cy
      refine ⟨HSy.out, held_done (by kernel_rfl) (NoPanic.normal ?_)⟩
      go_wp2
      go_meet
      exact ⟨rfl, HR.out⟩
  case rest =>
    obtain ⟨rfl, hc3, hb3⟩ := hcut
    generalize wc = w3 at *
    have s3 := hc3.size
    obtain ⟨⟨y0, y1, y2⟩, _⟩ := tri hb3
    have HV3 := HV2.out w3 hc3
    have hN := specCommit_calls w3 t.seq nb cr
    rw [HcC.out] at hN
    have HC3 : Hid _ := HC2.out.trans hc3
    clear hb3 HV2
    go_wp2_with fail
    refine hN.mono ?_
    rintro e w4 ⟨v4, rfl, o4, h4⟩
    obtain ⟨g4, c4, rfl⟩ := o4.some_of (by rw [HcL.out]; omega)
    rw [HcL.out] at o4 ⊢
    have hV4 : View w4 w3.heap.size w4.heap.size .u8 (.slice (some ⟨g4, 0, none⟩) 64 c4) cb := o4.view (by rw [HcL.out]; omega) (fun g hg => (o4.lt g hg).2)
    have hN := l2Join_any (xs := bs.flatten) (ys := cb) w4 (by rw [hfl]; omega) (by rw [HcL.out]; omega) (HV3.chg h4 (by omega)) hV4
    have HC4 : Hid _ := HC3.out.trans h4
    have s4 := h4.size
    clear o4 h4 hV4 HV3 y0 y1 y2 hc3
    go_wp2_with fail
    refine hN.mono ?_
    rintro e w5 ⟨v5, rfl, o5, h5⟩
    have hl5 : (bs.flatten ++ cb).length = 64 * (TL t).length := by rw [HTL.out, List.length_append, hfl, HcL.out, List.length_append]; rfl
    have hf5 : (TL t).flatten = bs.flatten ++ cb := by rw [HTL.out, List.flatten_append]; simp
    obtain ⟨g5, c5, rfl⟩ := o5.some_of (by rw [hl5, HTL.out, List.length_append]; simp)
    rw [hl5] at o5 ⊢
    have HO5 : Hid (OwnB w5 w.heap.size 5 (.slice (some ⟨g5, 0, none⟩) (64 * (TL t).length) c5) (TL t).flatten) := by
      show OwnB _ _ _ _ _
      rw [hf5]
      exact o5.base (fun g hg => by have := (o5.lt g hg).1; omega)
    have HC5 : Hid _ := HC4.out.trans h5
    clear hN o5 h5 hl5 hf5
    go_wp2
    go_ret
    exact ⟨_, _, rfl, HO5.out, HC5.out⟩

theorem TL_len {t : Tx} (hby : ∀ x ∈ t.homes, Byt x.2) : (TL t).length ≤ 257 ∧ ∀ b ∈ TL t, b.length = 64 := by
  by_cases hval : ValidT t
  · have e : TL t = BL t.seq t.homes t.revs ++ [comB t.seq (BL t.seq t.homes t.revs)] := by unfold TL; rw [if_pos (validT_true hval)]
    have hok := OkT.of hval hby
    obtain ⟨⟨_, hs1, hs2⟩, _⟩ := hval
    obtain ⟨i1, i2⟩ := BL_64 128 (q := t.seq) (hs := t.homes) (rs := t.revs) (by omega) hok
    rw [e]
    refine ⟨by rw [List.length_append]; simp; omega, ?_⟩
    intro b hb
    rcases List.mem_append.1 hb with hb | hb
    · exact i1 b hb
    · rw [List.mem_singleton.1 hb]; exact com_64 hok.q0 hok.q1 (by omega)
  · have e : TL t = [] := by unfold TL; rw [validT_false hval]; rfl
    rw [e]; simp

set_option maxRecDepth 20000 in
set_option maxHeartbeats 1000000 in
theorem specTxnLength_calls (w : World) {lo hi : Nat} {a : Value} {t : Tx} (hl : cntT t ≤ 1048576) (hhi : hi ≤ w.heap.size) (hby : ∀ x ∈ t.homes, Byt x.2) (h1 : TView w lo hi a t) :
    Calls Tryz.prog 38 #[a] w fun e w' => e = .returned (.int .i64 (TL t).length) ∧ Chg 0 0 w w' := by
  have hT := h1
  obtain ⟨hv, rv, rfl, p1, v1⟩ := h1
  obtain ⟨po, pcap, rfl⟩ := p1.slice
  obtain ⟨ao, cap, rfl⟩ := v1.slice
  have C0 : Chg 0 0 w (w.alloc (.cells #[.int .i64 t.seq, .slice po t.homes.length pcap, .slice ao t.revs.length cap] 35)) := Chg.alloc (Chg.refl 0 0 w) _
  have B0 := heap_new w (.cells #[.int .i64 t.seq, .slice po t.homes.length pcap, .slice ao t.revs.length cap] 35)
  obtain ⟨⟨k0, k1, k2⟩, _⟩ := tri B0
  have hN := specTxnBlocks_calls (w.alloc (.cells #[.int .i64 t.seq, .slice po t.homes.length pcap, .slice ao t.revs.length cap] 35)) hl (by have := C0.size; omega) hby (hT.chg C0 (by omega))
  obtain ⟨hb, _⟩ := TL_len hby
  clear B0 hT p1 v1
  go_enter Tryz.func38, Tryz.ntmps38
  go_wp2_with fail
  generalize w.alloc (.cells #[.int .i64 t.seq, .slice po t.homes.length pcap, .slice ao t.revs.length cap] 35) = w1 at *
  refine hN.mono ?_
  rintro e w2 ⟨g, c, rfl, _, h2⟩
  obtain ⟨m, hm⟩ : ∃ m, (TL t).length = m := ⟨_, rfl⟩
  have Hm : Hid _ := hm
  rw [hm] at hb ⊢
  clear hm
  obtain ⟨L, hL⟩ : ∃ L, L = 64 * m := ⟨_, rfl⟩
  have hq : (L : Int).tdiv 64 = (m : Int) := by rw [Int.tdiv_eq_ediv_of_nonneg (by omega), hL]; omega
  have hwn : IntKind.i64.wrap (m : Int) = (m : Int) := by rw [IntKind.wrap_i64]; omega
  have HC : Hid _ := C0.trans h2
  have hLb : L ≤ 20000 := by omega
  rw [← hL]
  clear hL hN C0 h2 k0 k1 k2
  go_wp2
  go_ret
  exact ⟨by rw [Hm.out]; rfl, HC.out⟩

end Go.Proofs.YtahjaejepkgfdaaGreatDoor
