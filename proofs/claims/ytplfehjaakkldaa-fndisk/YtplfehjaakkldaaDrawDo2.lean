/- The model's draws: DrawDiskDo. -/
import Derived.Test.YtplfehjaakkldaaDrawDo
import Derived.Deep.DeepCutAuto
namespace Go.Proofs.Ytplfehjaakkldaa
open Go.RowKit

theorem Try.infoO' : (Try.prog.info? 89).map (fun i => (i.zero, i.size, i.bytes)) = some (some (.agg #[.int .i64 0, .int .i64 0, .slice none 0 0]), 3, 40) := by kernel_rfl

theorem three_all {w : World} {s : Nat} {a b c : Value} {t : TypeId} (h : w.heap[s]? = some (.cells #[a, b, c] t (0, 0))) :
    (w.cell? ⟨s, 0, none⟩ = some a ∧ w.cell? ⟨s, 1, none⟩ = some b ∧ w.cell? ⟨s, 2, none⟩ = some c) ∧ w.frozen? ⟨s, 0, none⟩ = false ∧ w.frozen? ⟨s, 1, none⟩ = false ∧ w.frozen? ⟨s, 2, none⟩ = false := by
  simp [World.cell?, World.frozen?, h]

theorem SrcAt.size {w : World} {p : Nat} {cv : Value} {a sz : Nat} (h : SrcAt w p cv a sz) : w.cell? ⟨p, 2, none⟩ = some (.int .i64 sz) := (three_all h).1.2.2

theorem OwnB.none (w : World) (N : Nat) (e : TypeId) : OwnB w N e (.slice .none 0 0) [] := ⟨rfl, Or.inl ⟨rfl, rfl⟩⟩

/-- The operation that is being drawn, in a block of its own. -/
def OpAt (wx : World) (Bo N : Nat) : Prop := ∃ q a vo vl vc ys, wx.heap[Bo]? = some (.cells #[.int .i64 q, .int .i64 a, .slice vo vl vc] 89 (0, 0)) ∧ OwnB wx N 5 (.slice vo vl vc) ys ∧ ys.length ≤ 64

theorem OpAt.chg {wx w' : World} {Bo N l r : Nat} (h : OpAt wx Bo N) (c : Chg l r wx w') (hB : r ≤ N) (hN : N ≤ Bo) : OpAt w' Bo N := by
  obtain ⟨q, a, vo, vl, vc, ys, h1, h2, h3⟩ := h
  exact ⟨q, a, vo, vl, vc, ys, (c.block Bo (Array.getElem?_eq_some_iff.1 h1).1 (by omega)).trans h1, h2.chg c (fun g hg => by have := (h2.lt g hg).1; omega), h3⟩

/-- Amid a round: the source's place, what has changed since its start. -/
def Amd (wr wx : World) (p : Nat) (cv : Value) (sz A : Nat) : Prop := (∃ a, a ≤ A ∧ SrcAt wx p cv a sz) ∧ Chg p (p + 1) wr wx

theorem Amd.dos {w wr wx : World} {p : Nat} {cv : Value} {sz A A' lo : Nat} {v : Value} {d : Dsk} {ov : Value} {os : List Opx} (h : Amd wr wx p cv sz A') (k : DoS w wr p cv sz A lo v d ov os) : DoS w wx p cv sz A' lo v d ov os := k.step h.2 h.1

theorem Amd.set {wr wx : World} {p : Nat} {cv : Value} {sz A : Nat} (h : Amd wr wx p cv sz A) {Bo : Nat} (hB : wr.heap.size ≤ Bo) (hp : p < wr.heap.size) (j : Nat) (u : Value) : Amd wr (wx.setCell ⟨Bo, j, none⟩ u) p cv sz A := by
  obtain ⟨⟨a, ha, hs⟩, hc⟩ := h
  have C : Chg Bo (Bo + 1) wx (wx.setCell ⟨Bo, j, none⟩ u) := Chg.setCell (p := ⟨Bo, j, none⟩) (Chg.refl _ _ _) (Or.inl ⟨Nat.le_refl _, Nat.lt_succ_self _⟩) _
  exact ⟨⟨a, ha, hs.chg C (by omega)⟩, hc.step C (by omega)⟩

theorem Amd.alloc {wr wx : World} {p : Nat} {cv : Value} {sz A : Nat} (h : Amd wr wx p cv sz A) (o : Obj) : Amd wr (wx.alloc o) p cv sz A := by
  obtain ⟨⟨a, ha, hs⟩, hc⟩ := h
  exact ⟨⟨a, ha, hs.chg (Chg.alloc (Chg.refl 0 0 wx) _) (by omega)⟩, hc.alloc _⟩

theorem Amd.le {wr wx : World} {p : Nat} {cv : Value} {sz A A' : Nat} (h : Amd wr wx p cv sz A) (hA : A ≤ A') : Amd wr wx p cv sz A' := by
  obtain ⟨⟨a, ha, hs⟩, hc⟩ := h
  exact ⟨⟨a, by omega, hs⟩, hc⟩

theorem OwnB.chgN {w w' : World} {N l r : Nat} {e : TypeId} {v : Value} {xs : List Int} (h : OwnB w N e v xs) (c : Chg l r w w') (hr : r ≤ N) : OwnB w' N e v xs := h.chg c (fun g hg => by have := (h.lt g hg).1; omega)

set_option maxRecDepth 20000 in
set_option maxHeartbeats 16000000 in
theorem drawDiskDo_calls (w : World) {hi : Nat} {cv : Value} {code : List Int} (hB : Byt code) (h1 : View w 0 hi .u8 cv code) (hhi : hi ≤ w.heap.size) (hl : code.length ≤ 1048576) :
    Calls Try.prog 29 #[cv] w fun e w' => DrawnO w w' e := by
  have v0 := h1
  obtain ⟨ao, cap, rfl, hl0, _, _⟩ := h1
  have R0 := heap_new w (.cells #[.slice none 0 0, .slice none 0 0] 29)
  have C0 : Chg 0 0 w (w.alloc (.cells #[.slice none 0 0, .slice none 0 0] 29)) := Chg.alloc (Chg.refl 0 0 w) _
  have s0 : (w.alloc (.cells #[.slice none 0 0, .slice none 0 0] 29)).heap.size = w.heap.size + 1 := by simp
  go_enter Try.func29, Try.ntmps29
  go_wp2_with fail
  generalize w.alloc (.cells #[.slice none 0 0, .slice none 0 0] 29) = wa at *
  refine (l1Source_calls wa ao code.length cap hl0).mono ?_
  rintro e w1 ⟨rfl, hs1, hc1⟩
  have s1 := hc1.size
  have hpz : wa.heap.size < w1.heap.size := (Array.getElem?_eq_some_iff.1 hs1).1
  have C1 := C0.trans hc1
  have R1 := (hc1.block w.heap.size (by omega) (by omega)).trans R0
  have K1 : SrcOk w1 wa.heap.size 0 hi (.slice ao code.length cap) code := ⟨hB, hl, v0.chg C1 (by omega), Or.inr (by omega)⟩
  rw [s0] at hs1 hpz K1 s1
  rw [s0]
  have hpw : w.heap.size < w.heap.size + 1 := by omega
  clear s0
  generalize w.heap.size + 1 = p at *
  obtain ⟨sz, hsz⟩ : ∃ sz, sz = min (code.length / 16) 12 := ⟨_, rfl⟩
  rw [← hsz] at hs1
  have hsz12 : sz ≤ 12 := by omega
  clear hsz hc1 C0 R0
  go_wp2_with fail
  refine (l1DrawDisk_calls w1 p 0 sz K1 hsz12 (by omega) hs1).mono ?_
  rintro e w2 ⟨v, d, k, rfl, hd, hsm, hk, hs2, hc2⟩
  have s2 := hc2.size
  have HS2 : Hid (Small d) := hsm
  have C2 := C1.step hc2 (by omega)
  have R2 := (hc2.block w.heap.size (by omega) (by omega)).trans R1
  obtain ⟨dv, pv, rfl, d1, d2⟩ := hd
  have d1' := d1
  have d2' := d2
  obtain ⟨dao, dcap, rfl, hdl, _, _⟩ := d1
  obtain ⟨pao, pcap, rfl, hpl, _, _⟩ := d2
  have C3 : Chg 0 0 w2 (w2.alloc (.cells #[.slice dao d.dur.length dcap, .slice pao d.pend.length pcap] 29)) := Chg.alloc (Chg.refl 0 0 w2) _
  have C4 : Chg 0 0 (w2.alloc (.cells #[.slice dao d.dur.length dcap, .slice pao d.pend.length pcap] 29)) ((w2.alloc (.cells #[.slice dao d.dur.length dcap, .slice pao d.pend.length pcap] 29)).alloc (.cells #[] 89)) := Chg.alloc (Chg.refl 0 0 _) _
  have s3 : (w2.alloc (.cells #[.slice dao d.dur.length dcap, .slice pao d.pend.length pcap] 29)).heap.size = w2.heap.size + 1 := by simp
  have B3 := heap_new w2 (.cells #[.slice dao d.dur.length dcap, .slice pao d.pend.length pcap] 29)
  have R3 := (C3.block w.heap.size (by omega) (by omega)).trans R2
  have HD0 : Hid (DoS (w2.alloc (.cells #[.slice dao d.dur.length dcap, .slice pao d.pend.length pcap] 29)) ((w2.alloc (.cells #[.slice dao d.dur.length dcap, .slice pao d.pend.length pcap] 29)).alloc (.cells #[] 89)) p (.slice ao code.length cap) sz 10000 w1.heap.size (.agg #[.slice dao d.dur.length dcap, .slice pao d.pend.length pcap]) d (.slice (some ⟨w2.heap.size + 1, 0, none⟩) 0 0) []) := by
    have hlit := World.ownsRow_lit (base := w2.heap.size + 1) (e := 89) (size := 3) (w2.alloc (.cells #[.slice dao d.dur.length dcap, .slice pao d.pend.length pcap] 29)) #[] 0 (by rw [s3]; exact Nat.le_refl _) (by unfold maxLen; omega) rfl
    rw [s3] at hlit
    refine ⟨⟨k, by omega, (hs2.chg C3 (by omega)).chg C4 (by omega)⟩, Chg.alloc (Chg.refl _ _ _) _, ?_, ⟨[], fun _ => .slice none 0 0, ?_⟩, hpz, by omega, by intro i hi; simp at hi, ⟨_, _, rfl⟩⟩
    · rw [s3]
      exact (DView.chg ⟨_, _, rfl, d1', d2'⟩ C3 (by omega)).mono (Nat.le_refl _) (by omega)
    · rw [s3]
      exact ⟨by simpa using hlit, by intro i hi; simp at hi, by intro i hi; simp at hi, by intro i hi; simp at hi, by intro i hi; simp at hi, by intro i j g _ hj; simp at hj⟩
  have K3 : SrcOk (w2.alloc (.cells #[.slice dao d.dur.length dcap, .slice pao d.pend.length pcap] 29)) p 0 hi (.slice ao code.length cap) code := ⟨hB, hl, K1.vw.chg (hc2.step C3 (by omega)) (by omega), K1.off⟩
  have HK : Hid (SrcOk (w2.alloc (.cells #[.slice dao d.dur.length dcap, .slice pao d.pend.length pcap] 29)) p 0 hi (.slice ao code.length cap) code) := K3
  have HC3 : Hid (Chg 0 0 w (w2.alloc (.cells #[.slice dao d.dur.length dcap, .slice pao d.pend.length pcap] 29))) := C2.step C3 (by omega)
  have HB3 : Hid ((w2.alloc (.cells #[.slice dao d.dur.length dcap, .slice pao d.pend.length pcap] 29)).heap[w2.heap.size]? = some (.cells #[.slice dao d.dur.length dcap, .slice pao d.pend.length pcap] 29 (0, 0))) := B3
  have HR3 : Hid ((w2.alloc (.cells #[.slice dao d.dur.length dcap, .slice pao d.pend.length pcap] 29)).heap[w.heap.size]? = some (.cells #[.slice none 0 0, .slice none 0 0] 29 (0, 0))) := R3
  clear C1 C2 C3 C4 R1 R2 R3 K1 K3 B3 hc2 hs1 hs2 d1' d2' hsm hB v0 hk
  go_upto_region 4 with fail
  have s4 : ((w2.alloc (.cells #[.slice dao d.dur.length dcap, .slice pao d.pend.length pcap] 29)).alloc (.cells #[] 89)).heap.size = w2.heap.size + 2 := by simp
  generalize (w2.alloc (.cells #[.slice dao d.dur.length dcap, .slice pao d.pend.length pcap] 29)).alloc (.cells #[] 89) = w4 at *
  generalize w2.alloc (.cells #[.slice dao d.dur.length dcap, .slice pao d.pend.length pcap] 29) = w3 at *
  obtain ⟨a0, _, hsa⟩ := HD0.out.src
  have hc2 := hsa.size
  have hN := HD0.out.next HK.out (by omega) (6 + (sz : Int)) (by omega)
  clear hsa
  go_wp2_with fail
  refine hN.mono ?_
  rintro e w5 ⟨x, rfl, hx0, hx1, hD5, _⟩
  obtain ⟨n, rfl⟩ := Int.eq_ofNat_of_zero_le hx0
  have hn18 : n < 18 := by have := hx1 (by omega); omega
  have HD5 : Hid (DoS w3 w5 p (.slice ao code.length cap) sz 10001 w1.heap.size (.agg #[.slice dao d.dur.length dcap, .slice pao d.pend.length pcap]) d (.slice (some ⟨w2.heap.size + 1, 0, none⟩) 0 0) []) := hD5
  clear hN hx0 hx1 hD5 HD0 hc2
  go_wp2
  go_loopw [7, 9] (fun ov i wr => ∃ k : Nat, k ≤ n ∧ i = .int .i64 k ∧ ∃ os, os.length = k ∧ DoS w3 wr p (.slice ao code.length cap) sz (10001 + k * 8) w1.heap.size (.agg #[.slice dao d.dur.length dcap, .slice pao d.pend.length pcap]) d ov os) (fun _ i _ => n - (intOf i).toNat)
  case atStart => exact ⟨0, Nat.zero_le _, rfl, [], rfl, HD5.out⟩
  case round =>
    obtain ⟨k, hk, rfl, os, hol, hD⟩ := hrel
    clear HD5
    have HD : Hid (DoS w3 wr p (.slice ao code.length cap) sz (10001 + k * 8) w1.heap.size (.agg #[.slice dao d.dur.length dcap, .slice pao d.pend.length pcap]) d u7 os) := hD
    have HOl : Hid (os.length = k) := hol
    have hwr := hD.chg.size
    have b3 := (hD.chg.block w2.heap.size (by omega) (by omega)).trans HB3.out
    obtain ⟨b0, b1, _, _⟩ := two_cells b3
    clear b3 hol hD
    by_cases hlt : k < n
    · have hik : (k : Int) < (n : Int) := by omega
      have hBl := l1Blocks_calls wr dao d.dur.length dcap (.slice pao d.pend.length pcap) hdl
      have hpn := HD.out.psz
      have hln := HD.out.lsz
      go_wp2_with fail
      refine hBl.mono ?_
      rintro e wA ⟨rfl, hcA⟩
      have HA : Hid (Amd wr wA p (.slice ao code.length cap) sz (10001 + k * 8)) := by
        obtain ⟨a, ha, hs⟩ := HD.out.src
        exact ⟨⟨a, ha, hs.chg hcA (by omega)⟩, hcA.widen (by omega) (by omega)⟩
      clear hBl hcA
      have hN := (HA.out.dos HD.out).next HK.out (by omega) ((d.dur.length / 64 : Nat) : Int) (by omega)
      go_wp2_with fail
      refine hN.mono ?_
      rintro e wB ⟨x, rfl, _, _, hDB, hcB⟩
      have HB : Hid (Amd wr wB p (.slice ao code.length cap) sz (10001 + k * 8 + 1)) := ⟨hDB.src, HA.out.2.trans hcB⟩
      clear hN hDB hcB HA
      have hN := (HB.out.dos HD.out).fill HK.out (by omega)
      go_wp2_with fail
      refine hN.mono ?_
      rintro e wC ⟨g, gc, ys, rfl, hyl, hoC, hDC, hcC⟩
      have szB := HB.out.2.size
      have szC := hcC.size
      have HC : Hid (Amd wr (wC.alloc (.cells #[.int .i64 1, .int .i64 x, .slice (some ⟨g, 0, none⟩) 64 gc] 89)) p (.slice ao code.length cap) sz (10001 + k * 8 + 6)) := Amd.alloc ⟨hDC.src, HB.out.2.trans hcC⟩ _
      have HO : Hid (OpAt (wC.alloc (.cells #[.int .i64 1, .int .i64 x, .slice (some ⟨g, 0, none⟩) 64 gc] 89)) wC.heap.size wr.heap.size) := by
        refine ⟨1, x, some ⟨g, 0, none⟩, 64, gc, ys, heap_new _ _, ?_, by omega⟩
        exact (hoC.base (fun g' hg' => by have := (hoC.lt g' hg').1; omega)).chg (Chg.alloc (Chg.refl 0 0 wC) _) (by intro g' _; omega)
      have hBo : wr.heap.size ≤ wC.heap.size := by omega
      have hN := (HC.out.dos HD.out).chance HK.out (by omega) 3 (by omega)
      clear HB hcC hDC hoC hyl
      go_wp2_with fail
      generalize wC.alloc (.cells #[.int .i64 1, .int .i64 x, .slice (some ⟨g, 0, none⟩) 64 gc] 89) = wD at *
      generalize wC.heap.size = Bo at *
      refine hN.mono ?_
      rintro e wE ⟨ch, rfl, hDE, hcE⟩
      have HE : Hid (Amd wr wE p (.slice ao code.length cap) sz (10001 + k * 8 + 7)) := ⟨hDE.src, HC.out.2.trans hcE⟩
      have HOE : Hid (OpAt wE Bo wr.heap.size) := HO.out.chg hcE (by omega) hBo
      clear hN hDE hcE HC HO
      go_upto_if 39 with fail
      go_cut [10] (fun s10 wx => s10 = .pointer (some ⟨Bo, 0, none⟩) ∧ Amd wr wx p (.slice ao code.length cap) sz (10001 + k * 8 + 7) ∧ OpAt wx Bo wr.heap.size)
      case first =>
        obtain ⟨q, a, vo, vl, vc, ys, h1, h2, h3⟩ := HOE.out
        obtain ⟨⟨t0, t1, t2⟩, f0, f1, f2⟩ := three_all h1
        have HX : Hid (OpAt (((wE.setCell ⟨Bo, 0, none⟩ (.int .i64 2)).setCell ⟨Bo, 1, none⟩ (.int .i64 0)).setCell ⟨Bo, 2, none⟩ (.slice none 0 0)) Bo wr.heap.size) := by
          have e0 := heap_setCell_same wE Bo 0 _ _ (.int .i64 2) h1
          have e1 := heap_setCell_same _ Bo 1 _ _ (.int .i64 0) e0
          have e2 := heap_setCell_same _ Bo 2 _ _ (.slice none 0 0) e1
          exact ⟨2, 0, none, 0, 0, [], by simpa using e2, OwnB.none _ _ _, by simp⟩
        have HY : Hid (Amd wr (((wE.setCell ⟨Bo, 0, none⟩ (.int .i64 2)).setCell ⟨Bo, 1, none⟩ (.int .i64 0)).setCell ⟨Bo, 2, none⟩ (.slice none 0 0)) p (.slice ao code.length cap) sz (10001 + k * 8 + 7)) := ((HE.out.set hBo (by omega) 0 _).set hBo (by omega) 1 _).set hBo (by omega) 2 _
        clear h1 h2 h3
        cases ch
        · go_wp2
          go_meet
          exact ⟨rfl, HE.out, HOE.out⟩
        · go_wp2
          go_meet
          exact ⟨rfl, HY.out, HX.out⟩
      case rest =>
        obtain ⟨rfl, hE, hOE⟩ := hcut
        clear HE HOE
        generalize wc = wE at *
        have HE : Hid (Amd wr wE p (.slice ao code.length cap) sz (10001 + k * 8 + 7)) := hE
        have HOE : Hid (OpAt wE Bo wr.heap.size) := hOE
        have hN := (HE.out.dos HD.out).next HK.out (by omega) 60 (by omega)
        clear hE hOE
        go_wp2_with fail
        refine hN.mono ?_
        rintro e wF ⟨kx, rfl, hkx, _, hDF, hcF⟩
        obtain ⟨kk, rfl⟩ := Int.eq_ofNat_of_zero_le hkx
        have HF : Hid (Amd wr wF p (.slice ao code.length cap) sz (10001 + k * 8 + 8)) := ⟨hDF.src, HE.out.2.trans hcF⟩
        have HOF : Hid (OpAt wF Bo wr.heap.size) := HOE.out.chg hcF (by omega) hBo
        clear hN hDF hcF HE HOE hkx
        go_upto_if 44 with fail
        go_cut [10] (fun s10 wx => s10 = .pointer (some ⟨Bo, 0, none⟩) ∧ Amd wr wx p (.slice ao code.length cap) sz (10001 + k * 8 + 8) ∧ OpAt wx Bo wr.heap.size)
        case first =>
          obtain ⟨q, a, vo, vl, vc, ys, h1, h2, h3⟩ := HOF.out
          obtain ⟨⟨t0, t1, t2⟩, f0, f1, f2⟩ := three_all h1
          obtain ⟨cur, hcu⟩ : ∃ cur, wF.heap[Bo]? = some (.cells cur 89 (0, 0)) := ⟨_, h1⟩
          have HX : Hid (OpAt (wF.setCell ⟨Bo, 0, none⟩ (.int .i64 3)) Bo wr.heap.size) := by
            have e0 := heap_setCell_same wF Bo 0 _ _ (.int .i64 3) h1
            exact ⟨3, a, vo, vl, vc, ys, by simpa using e0, h2.set (p := ⟨Bo, 0, none⟩) (h2.ne_row hcu (by decide)) _, h3⟩
          have HY : Hid (Amd wr (wF.setCell ⟨Bo, 0, none⟩ (.int .i64 3)) p (.slice ao code.length cap) sz (10001 + k * 8 + 8)) := HF.out.set hBo (by omega) 0 _
          clear h1 h2 h3 hcu
          by_cases hk0 : kk = 0
          · subst hk0
            go_wp2
            go_meet
            exact ⟨rfl, HY.out, HX.out⟩
          · have hk0' : ((kk : Int) == 0) = false := by simp only [beq_eq_false_iff_ne, ne_eq]; omega
            go_wp2
            go_meet
            exact ⟨rfl, HF.out, HOF.out⟩
        case rest =>
          obtain ⟨rfl, hF, hOF⟩ := hcut
          clear HF HOF
          generalize wc = wF at *
          have HF : Hid (Amd wr wF p (.slice ao code.length cap) sz (10001 + k * 8 + 8)) := hF
          have HOF : Hid (OpAt wF Bo wr.heap.size) := hOF
          clear hF hOF
          go_upto_if 47 with fail
          go_cut [10] (fun s10 wx => s10 = .pointer (some ⟨Bo, 0, none⟩) ∧ Amd wr wx p (.slice ao code.length cap) sz (10001 + k * 8 + 8) ∧ OpAt wx Bo wr.heap.size)
          case first =>
            by_cases hk0 : kk = 1
            · subst hk0
              have bF := ((HF.out.dos HD.out).chg.block w2.heap.size (by omega) (by omega)).trans HB3.out
              obtain ⟨c0, c1, _, _⟩ := two_cells bF
              have hBl := l1Blocks_calls wF dao d.dur.length dcap (.slice pao d.pend.length pcap) hdl
              clear bF
              go_wp2_with fail
              refine hBl.mono ?_
              rintro e wG ⟨rfl, hcG⟩
              have HOG : Hid (OpAt wG Bo wr.heap.size) := HOF.out.chg hcG (by omega) hBo
              have HG : Hid (Amd wr wG p (.slice ao code.length cap) sz (10001 + k * 8 + 8)) := by
                obtain ⟨⟨a, ha, hs⟩, hc⟩ := HF.out
                exact ⟨⟨a, ha, hs.chg hcG (by omega)⟩, hc.trans (hcG.widen (by omega) (by omega))⟩
              obtain ⟨q, a, vo, vl, vc, ys, h1, h2, h3⟩ := HOG.out
              obtain ⟨⟨t0, t1, t2⟩, f0, f1, f2⟩ := three_all h1
              obtain ⟨cur, hcu⟩ : ∃ cur, wG.heap[Bo]? = some (.cells cur 89 (0, 0)) := ⟨_, h1⟩
              have HX : Hid (OpAt (wG.setCell ⟨Bo, 1, none⟩ (.int .i64 ((d.dur.length / 64 : Nat) : Int))) Bo wr.heap.size) := by
                have e0 := heap_setCell_same wG Bo 1 _ _ (.int .i64 ((d.dur.length / 64 : Nat) : Int)) h1
                exact ⟨q, _, vo, vl, vc, ys, by simpa using e0, h2.set (p := ⟨Bo, 1, none⟩) (h2.ne_row hcu (by decide)) _, h3⟩
              have HY : Hid (Amd wr (wG.setCell ⟨Bo, 1, none⟩ (.int .i64 ((d.dur.length / 64 : Nat) : Int))) p (.slice ao code.length cap) sz (10001 + k * 8 + 8)) := HG.out.set hBo (by omega) 1 _
              clear h1 h2 h3 hcu hBl hcG
              generalize ((d.dur.length / 64 : Nat) : Int) = nb at *
              go_wp2
              go_meet
              exact ⟨rfl, HY.out, HX.out⟩
            · have hk0' : ((kk : Int) == 1) = false := by simp only [beq_eq_false_iff_ne, ne_eq]; omega
              go_wp2
              go_meet
              exact ⟨rfl, HF.out, HOF.out⟩
          case rest =>
            obtain ⟨rfl, hF, hOF⟩ := hcut
            clear HF HOF
            generalize wc = wF at *
            have HF : Hid (Amd wr wF p (.slice ao code.length cap) sz (10001 + k * 8 + 8)) := hF
            have HOF : Hid (OpAt wF Bo wr.heap.size) := hOF
            clear hF hOF
            go_upto_if 52 with fail
            go_cut [10] (fun s10 wx => s10 = .pointer (some ⟨Bo, 0, none⟩) ∧ Amd wr wx p (.slice ao code.length cap) sz (10001 + k * 8 + 8) ∧ OpAt wx Bo wr.heap.size)
            case first =>
              by_cases hk0 : kk = 2
              · subst hk0
                have szF := HF.out.2.size
                have CF : Chg 0 0 wF (wF.alloc (.cells #[.int .u8 1] 5)) := Chg.alloc (Chg.refl 0 0 wF) _
                have hOG := HOF.out.chg CF (by omega) hBo
                obtain ⟨q, a, vo, vl, vc, ys, h1, h2, h3⟩ := hOG
                obtain ⟨⟨t0, t1, t2⟩, f0, f1, f2⟩ := three_all h1
                have hlit := World.ownsRow_lit (base := wr.heap.size) (e := 5) (size := 1) wF #[.int .u8 1] 1 (by omega) (by unfold maxLen; omega) rfl
                have ho1 : OwnB (wF.alloc (.cells #[.int .u8 1] 5)) wr.heap.size 5 (.slice (some ⟨wF.heap.size, 0, none⟩) 1 1) [1] := by simpa [OwnB] using hlit
                obtain ⟨cur, hcu⟩ : ∃ cur, (wF.alloc (.cells #[.int .u8 1] 5)).heap[Bo]? = some (.cells cur 89 (0, 0)) := ⟨_, h1⟩
                have HX : Hid (OpAt ((wF.alloc (.cells #[.int .u8 1] 5)).setCell ⟨Bo, 2, none⟩ (.slice (some ⟨wF.heap.size, 0, none⟩) 1 1)) Bo wr.heap.size) := by
                  have e0 := heap_setCell_same (wF.alloc (.cells #[.int .u8 1] 5)) Bo 2 _ _ (.slice (some ⟨wF.heap.size, 0, none⟩) 1 1) h1
                  exact ⟨q, a, _, _, _, [1], by simpa using e0, ho1.set (p := ⟨Bo, 2, none⟩) (ho1.ne_row hcu (by decide)) _, by simp⟩
                have HY : Hid (Amd wr ((wF.alloc (.cells #[.int .u8 1] 5)).setCell ⟨Bo, 2, none⟩ (.slice (some ⟨wF.heap.size, 0, none⟩) 1 1)) p (.slice ao code.length cap) sz (10001 + k * 8 + 8)) := (HF.out.alloc _).set hBo (by omega) 2 _
                clear h1 h2 h3 hcu CF hlit ho1
                go_wp2
                go_meet
                exact ⟨rfl, HY.out, HX.out⟩
              · have hk0' : ((kk : Int) == 2) = false := by simp only [beq_eq_false_iff_ne, ne_eq]; omega
                go_wp2
                go_meet
                exact ⟨rfl, HF.out, HOF.out⟩
            case rest =>
              obtain ⟨rfl, hF, hOF⟩ := hcut
              clear HF HOF
              generalize wc = wF at *
              have HF : Hid (Amd wr wF p (.slice ao code.length cap) sz (10001 + k * 8 + 8)) := hF
              obtain ⟨q, a, vo, vl, vc, ys, h1, h2, h3⟩ := hOF
              obtain ⟨⟨t0, t1, t2⟩, _⟩ := three_all h1
              obtain ⟨cells, dvs, ho⟩ := HD.out.told
              obtain ⟨po, pl, pc, rfl⟩ := row_slice ho.row
              have szF := hF.2.size
              have hoF := ho.chg hF.2 (fun g' hg' => by have := (World.ownsRow.lt ho.row g' hg').1; omega) (fun i g' hi hg' => by have := ((ho.data i hi).lt g' hg').1; omega)
              have hNb : ∀ i g', i < os.length → (dvs i).ownBlock = some g' → g' < wr.heap.size := fun i g' hi hg' => ((ho.data i hi).lt g' hg').2
              have P6 := hoF.chg (Chg.alloc (Chg.refl 0 0 wF) (.cells #[.int .i64 q, .int .i64 a, .slice vo vl vc] 89)) (by intro g' _; omega) (by intro i g' _ _; omega)
              have B6 := heap_new wF (.cells #[.int .i64 q, .int .i64 a, .slice vo vl vc] 89)
              have HNW : Hid (∀ j u, [Value.int .i64 q, .int .i64 a, .slice vo vl vc][j]? = some u → (wF.alloc (.cells #[.int .i64 q, .int .i64 a, .slice vo vl vc] 89)).cell? ((⟨wF.heap.size, 0, none⟩ : Addr).add j) = some u) := by
                intro j u hj
                rw [Addr.add_mid, Nat.zero_add, cell_of_row _ wF.heap.size j _ _ _ B6]
                simpa using hj
              have HP6 : Hid (OwnOx (wF.alloc (.cells #[.int .i64 q, .int .i64 a, .slice vo vl vc] 89)) w3.heap.size 89 5 (.slice po pl pc) os cells dvs) := P6
              have HoF : Hid (OwnOx wF w3.heap.size 89 5 (.slice po pl pc) os cells dvs) := hoF
              have HNb : Hid (∀ i g', i < os.length → (dvs i).ownBlock = some g' → g' < wr.heap.size) := hNb
              have H2 : Hid (OwnB wF wr.heap.size 5 (.slice vo vl vc) ys) := h2
              have H3 : Hid (ys.length ≤ 64) := h3
              have bs : Hid (w3.heap.size ≤ (wF.alloc (.cells #[.int .i64 q, .int .i64 a, .slice vo vl vc] 89)).heap.size) := by show _ ≤ _; simp; omega
              obtain ⟨ic, hic, hcz0, hcz1, hcz2⟩ := info_parts Try.infoO'
              clear h1 h2 h3 ho hoF hNb P6 B6 hF
              go_wp2_with (at_builtin; refine wpList_append_own _ rfl (.tmp 55) (.tmp 57) 47 rfl w3.heap.size 89 ic _ 3 40 Try.underlying47 hic hcz0 hcz1 hcz2 rfl (by decide) _ _ cells rfl HP6.out.row ⟨wF.heap.size, 0, none⟩ 1 1 [.int .i64 q, .int .i64 a, .slice vo vl vc] rfl rfl HNW.out (by simp [Value.oneCell']) (by rw [HOl.out]; unfold maxLen; omega) (by rw [HOl.out]; omega) bs.out ?_)
              intro v' w8 hown8 hgrow _
              have HD8 : Hid (DoS w3 w8 p (.slice ao code.length cap) sz (10001 + k * 8 + 8) w1.heap.size (.agg #[.slice dao d.dur.length dcap, .slice pao d.pend.length pcap]) d v' (os ++ [(q, a, ys)])) := (HF.out.dos HD.out).snoc HoF.out H2.out HNb.out hwr H3.out _ (by rw [s3]; exact hown8) hgrow
              clear hown8 hgrow HNW HP6 HoF HNb H2 H3 bs hcz0 hcz1 hcz2 hic
              go_wp2
              go_roundw
              case rel => exact ⟨k + 1, by omega, by go_num, _, by rw [List.length_append, HOl.out]; rfl, HD8.out.step (Chg.refl _ _ _) (by obtain ⟨a, ha, h'⟩ := HD8.out.src; exact ⟨a, by omega, h'⟩)⟩
              case measure => simp [intOf]; omega
    · obtain rfl : k = n := by omega
      have hnn : ¬ (k : Int) < (k : Int) := by omega
      have hN := HD.out.chance HK.out (by omega) 40 (by omega)
      clear b0 b1 hlt
      go_wp2_with fail
      refine hN.mono ?_
      rintro e wE ⟨ch, rfl, hDE, _⟩
      have HE : Hid (DoS w3 wE p (.slice ao code.length cap) sz (10001 + k * 8 + 1) w1.heap.size (.agg #[.slice dao d.dur.length dcap, .slice pao d.pend.length pcap]) d u7 os) := hDE
      clear hN hDE HD hwr
      go_upto_if 60 with fail
      go_cut [7] (fun s7 wx => ∃ os', os'.length ≤ 4500 ∧ DoS w3 wx p (.slice ao code.length cap) sz (10001 + k * 8 + 2) w1.heap.size (.agg #[.slice dao d.dur.length dcap, .slice pao d.pend.length pcap]) d s7 os')
      case first =>
        cases ch
        · go_wp2
          go_meet
          exact ⟨os, by rw [HOl.out]; omega, HE.out.step (Chg.refl _ _ _) (by obtain ⟨a, ha, h'⟩ := HE.out.src; exact ⟨a, by omega, h'⟩)⟩
        · obtain ⟨cells, dvs, ho⟩ := HE.out.told
          obtain ⟨po, pl, pc, rfl⟩ := row_slice ho.row
          obtain rfl : pl = k := by
            rcases ho.row.2 with ⟨e, h0⟩ | ⟨_, _, _, e, _⟩
            · simp only [Value.slice.injEq] at e; have := HOl.out; omega
            · simp only [Value.slice.injEq] at e; have := HOl.out; omega
          have hN := HE.out.next HK.out (by omega) 2 (by omega)
          clear ho
          go_wp2_with fail
          refine hN.mono ?_
          rintro e wF ⟨x, rfl, hx0, hx1, hDF, _⟩
          obtain ⟨xn, rfl⟩ := Int.eq_ofNat_of_zero_le hx0
          have hxn : xn < 2 := by have := hx1 (by omega); omega
          have HF : Hid (DoS w3 wF p (.slice ao code.length cap) sz (10001 + pl * 8 + 2) w1.heap.size (.agg #[.slice dao d.dur.length dcap, .slice pao d.pend.length pcap]) d (.slice po pl pc) os) := hDF
          clear hN hx0 hx1 hDF HE
          go_wp2
          go_loopw [7, 12] (fun ov i wr => ∃ (j : Nat) (os' : List Opx), i = .int .i64 j ∧ os'.length + j ≤ 4500 ∧ DoS w3 wr p (.slice ao code.length cap) sz (10001 + pl * 8 + 2) w1.heap.size (.agg #[.slice dao d.dur.length dcap, .slice pao d.pend.length pcap]) d ov os') (fun _ i _ => (intOf i).toNat)
          case atStart => exact ⟨4000 + xn - pl, os, by go_num, by rw [HOl.out]; omega, HF.out⟩
          case round =>
            obtain ⟨j, os', rfl, hj, hD⟩ := hrel
            have HD : Hid (DoS w3 wr p (.slice ao code.length cap) sz (10001 + pl * 8 + 2) w1.heap.size (.agg #[.slice dao d.dur.length dcap, .slice pao d.pend.length pcap]) d u7 os') := hD
            clear HF
            by_cases hj0 : 0 < j
            · have hjp : (j : Int) > 0 := by omega
              have hjle : (j : Int) ≤ 4500 := by omega
              obtain ⟨cells, dvs, ho⟩ := hD.told
              obtain ⟨qo, ql, qc, rfl⟩ := row_slice ho.row
              have swr := hD.chg.size
              have P6 := ho.chg (Chg.alloc (Chg.refl 0 0 wr) (.cells #[.int .i64 2, .int .i64 0, .slice none 0 0] 89)) (by intro g' _; omega) (by intro i g' _ _; omega)
              have B6 := heap_new wr (.cells #[.int .i64 2, .int .i64 0, .slice none 0 0] 89)
              have HNW : Hid (∀ j u, [Value.int .i64 2, .int .i64 0, .slice none 0 0][j]? = some u → (wr.alloc (.cells #[.int .i64 2, .int .i64 0, .slice none 0 0] 89)).cell? ((⟨wr.heap.size, 0, none⟩ : Addr).add j) = some u) := by
                intro j u hj
                rw [Addr.add_mid, Nat.zero_add, cell_of_row _ wr.heap.size j _ _ _ B6]
                simpa using hj
              have HP6 : Hid (OwnOx (wr.alloc (.cells #[.int .i64 2, .int .i64 0, .slice none 0 0] 89)) w3.heap.size 89 5 (.slice qo ql qc) os' cells dvs) := P6
              have Ho : Hid (OwnOx wr w3.heap.size 89 5 (.slice qo ql qc) os' cells dvs) := ho
              have Hj : Hid (os'.length + j ≤ 4500) := hj
              have Hj0 : Hid (0 < j) := hj0
              have bs : Hid (w3.heap.size ≤ (wr.alloc (.cells #[.int .i64 2, .int .i64 0, .slice none 0 0] 89)).heap.size) := by show _ ≤ _; simp; omega
              obtain ⟨ic, hic, hcz0, hcz1, hcz2⟩ := info_parts Try.infoO'
              clear ho P6 B6 hD hj
              go_wp2_with (at_builtin; refine wpList_append_own _ rfl (.tmp 71) (.tmp 73) 47 rfl w3.heap.size 89 ic _ 3 40 Try.underlying47 hic hcz0 hcz1 hcz2 rfl (by decide) _ _ cells rfl HP6.out.row ⟨wr.heap.size, 0, none⟩ 1 1 [.int .i64 2, .int .i64 0, .slice none 0 0] rfl rfl HNW.out (by simp [Value.oneCell']) (by have := Hj.out; unfold maxLen; omega) (by have := Hj.out; omega) bs.out ?_)
              intro v' w8 hown8 hgrow _
              have HD8 : Hid (DoS w3 w8 p (.slice ao code.length cap) sz (10001 + pl * 8 + 2) w1.heap.size (.agg #[.slice dao d.dur.length dcap, .slice pao d.pend.length pcap]) d v' (os' ++ [(2, 0, [])])) := HD.out.snoc Ho.out (OwnB.none wr wr.heap.size _) (fun i g' hi hg' => ((Ho.out.data i hi).lt g' hg').2) swr (by simp) _ (by rw [s3]; exact hown8) hgrow
              clear hown8 hgrow HNW HP6 Ho bs hcz0 hcz1 hcz2 hic swr
              go_wp2
              have hja := Hj.out
              have hjb := Hj0.out
              go_roundw
              case rel => exact ⟨j - 1, _, by go_num, by rw [List.length_append, List.length_cons, List.length_nil]; omega, HD8.out⟩
              case measure => simp [intOf]; omega
            · have hjp : ¬ (j : Int) > 0 := by omega
              clear hD
              go_wp2
              go_meet
              exact ⟨os', by omega, HD.out⟩
      case rest =>
        obtain ⟨os', hol', hDE⟩ := hcut
        clear HE HOl
        generalize wc = wE at *
        have HE : Hid (DoS w3 wE p (.slice ao code.length cap) sz (10001 + k * 8 + 2) w1.heap.size (.agg #[.slice dao d.dur.length dcap, .slice pao d.pend.length pcap]) d u7 os') := hDE
        have HOl : Hid (os'.length ≤ 4500) := hol'
        have hN := HE.out.chance HK.out (by omega) 2 (by omega)
        clear hDE hol'
        go_wp2_with fail
        refine hN.mono ?_
        rintro e wF ⟨ch, rfl, hDF, _⟩
        have HF : Hid (DoS w3 wF p (.slice ao code.length cap) sz (10001 + k * 8 + 3) w1.heap.size (.agg #[.slice dao d.dur.length dcap, .slice pao d.pend.length pcap]) d u7 os') := hDF
        clear hN hDF HE
        go_upto_if 76 with fail
        go_cut [13] (fun s13 wx => (∃ l, s13 = .int .i64 l) ∧ DoS w3 wx p (.slice ao code.length cap) sz (10001 + k * 8 + 4) w1.heap.size (.agg #[.slice dao d.dur.length dcap, .slice pao d.pend.length pcap]) d u7 os')
        case first =>
          cases ch
          · go_wp2
            go_meet
            exact ⟨⟨_, rfl⟩, HF.out.step (Chg.refl _ _ _) (by obtain ⟨a, ha, h'⟩ := HF.out.src; exact ⟨a, by omega, h'⟩)⟩
          · have hN := HF.out.next HK.out (by omega) ((k : Int) + 2) (by omega)
            go_wp2_with fail
            refine hN.mono ?_
            rintro e wG ⟨x, rfl, _, _, hDG, _⟩
            have HG : Hid (DoS w3 wG p (.slice ao code.length cap) sz (10001 + k * 8 + 4) w1.heap.size (.agg #[.slice dao d.dur.length dcap, .slice pao d.pend.length pcap]) d u7 os') := hDG
            clear hN hDG HF
            go_wp2
            go_meet
            exact ⟨⟨_, rfl⟩, HG.out⟩
        case rest =>
          obtain ⟨⟨l, rfl⟩, hDG⟩ := hcut
          generalize wc = wG at *
          have HG : Hid (DoS w3 wG p (.slice ao code.length cap) sz (10001 + k * 8 + 4) w1.heap.size (.agg #[.slice dao d.dur.length dcap, .slice pao d.pend.length pcap]) d u7 os') := hDG
          have hps := hDG.psz
          have hls := hDG.lsz
          have bG := (hDG.chg.block w2.heap.size (by omega) (by omega)).trans HB3.out
          have rG := (hDG.chg.block w.heap.size (by omega) (by omega)).trans HR3.out
          obtain ⟨b0, b1, _, _⟩ := two_cells bG
          obtain ⟨r0, r1, rf0, rf1⟩ := two_cells rG
          clear HF hDG bG rG
          go_wp2
          refine bodyPost_ret (v := .tuple #[.agg #[.slice dao d.dur.length dcap, .slice pao d.pend.length pcap], u7, .int .i64 l]) (by simp [results, Try.results29, go_sem, r0, r1]) rfl ?_
          have C := Chg.set2 wG w.heap.size (.slice dao d.dur.length dcap) (.slice pao d.pend.length pcap)
          have ez : ((wG.setCell ⟨w.heap.size, 0, none⟩ (.slice dao d.dur.length dcap)).setCell ⟨w.heap.size, 1, none⟩ (.slice pao d.pend.length pcap)).heap.size = wG.heap.size := by simp
          have sG := HG.out.chg.size
          obtain ⟨cells, dvs, ho⟩ := HG.out.told
          have hlen := HG.out.len
          have hov := ho.view (hi := wG.heap.size) (by have := HOl.out; omega) (fun i hi => by have := hlen i hi; omega) (fun g' hg' => (World.ownsRow.lt ho.row g' hg').2) (fun i g' hi hg' => ((ho.data i hi).lt g' hg').2)
          refine ⟨_, d, u7, os', l, w3.heap.size, rfl, (HG.out.view.chg C (by omega)).mono (by omega) (Nat.le_refl _), HS2.out, by rw [ez]; exact hov.chg C (by omega), by rw [ez]; exact sG, by have := HOl.out; omega, HG.out.nn, ?_⟩
          exact (HC3.out.step HG.out.chg (by omega)).step C (by omega)

end Go.Proofs.Ytplfehjaakkldaa
