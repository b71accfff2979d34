/- DiskDo of the program. -/
import Derived.Test.YtplfehjaakkldaaDo1
namespace Go.Proofs.Ytplfehjaakkldaa
open Go.RowKit

/-- What a disk is behind some operations; nothing if one is refused. -/
def runD : Dsk → List Opx → Option Dsk
  | d, [] => some d
  | d, o :: r => (opD d o).bind fun d' => runD d' r

theorem runD_append (d : Dsk) (a b : List Opx) : runD d (a ++ b) = (runD d a).bind fun d' => runD d' b := by
  induction a generalizing d with
  | nil => rfl
  | cons o r ih =>
    simp only [List.cons_append, runD]
    cases opD d o with
    | none => rfl
    | some d' => exact ih d'

theorem runD_take_succ (d : Dsk) (os : List Opx) (k : Nat) (h : k < os.length) : runD d (os.take (k + 1)) = (runD d (os.take k)).bind fun d' => opD d' (os.getD k Opx.zero) := by
  have e : os.getD k Opx.zero = os[k] := by simp [List.getD_eq_getElem?_getD, h]
  rw [List.take_succ_eq_append_getElem h, runD_append, e]
  congr 1
  funext d'
  simp only [runD]
  cases opD d' os[k] <;> rfl

theorem runD_none (d : Dsk) (os : List Opx) (k : Nat) (h : runD d (os.take k) = none) : runD d os = none := by
  have := runD_append d (os.take k) (os.drop k)
  rw [List.take_append_drop, h] at this
  exact this

/-- The operations under a limit. -/
def firstN (os : List Opx) (limit : Int) : List Opx := if limit < 0 ∨ (os.length : Int) ≤ limit then os else os.take limit.toNat

/-- What DiskDo answers. -/
def doD (d : Dsk) (os : List Opx) (limit : Int) : Dsk :=
  if validB d = true ∧ os.length ≤ 4000 then (runD d (firstN os limit)).getD Dsk.none else Dsk.none

theorem OView.take {w : World} {lo hi : Nat} {ao : Option Addr} {cap : Nat} {os : List Opx} (h : OView w lo hi (.slice ao os.length cap) os) (n : Nat) (hn : n ≤ os.length) : OView w lo hi (.slice ao n cap) (os.take n) := by
  obtain ⟨ao', cap', e, hl, hc, h⟩ := h
  cases e
  have hlen : (os.take n).length = n := by rw [List.length_take]; omega
  refine ⟨ao, cap, by rw [hlen], by omega, by omega, ?_⟩
  rcases h with h | ⟨b, off, ha, h1, h2, h3⟩
  · left; rw [h]; simp
  · refine Or.inr ⟨b, off, ha, h1, h2, fun i hi => ?_⟩
    rw [hlen] at hi
    have e : (os.take n).getD i Opx.zero = os.getD i Opx.zero := by
      simp only [List.getD_eq_getElem?_getD, List.getElem?_take]
      rw [if_pos hi]
    rw [e]
    exact h3 i (by omega)

set_option maxRecDepth 20000 in
set_option maxHeartbeats 400000 in
theorem firstOps_calls (w : World) {lo hi : Nat} {v : Value} {os : List Opx} (limit : Int) (h : OView w lo hi v os) :
    Calls Try.prog 65 #[v, .int .i64 limit] w fun e w' => ∃ v', e = .returned v' ∧ OView w lo hi v' (firstN os limit) ∧ w' = w := by
  have v0 := h
  obtain ⟨ao, cap, rfl, hl, hc, h⟩ := h
  by_cases h1 : limit < 0
  · have HV : Hid (OView w lo hi (.slice ao os.length cap) (firstN os limit)) := by show OView _ _ _ _ _; unfold firstN; rw [if_pos (Or.inl h1)]; exact v0
    clear v0 h
    go_enter Try.func65, Try.ntmps65
    go_wp2
    go_ret
    exact ⟨_, rfl, HV.out, rfl⟩
  · by_cases h2 : (os.length : Int) ≤ limit
    · have HV : Hid (OView w lo hi (.slice ao os.length cap) (firstN os limit)) := by show OView _ _ _ _ _; unfold firstN; rw [if_pos (Or.inr h2)]; exact v0
      have h2' : limit ≥ (os.length : Int) := h2
      clear v0 h
      go_enter Try.func65, Try.ntmps65
      go_wp2
      go_ret
      exact ⟨_, rfl, HV.out, rfl⟩
    · obtain ⟨n, rfl⟩ : ∃ n : Nat, limit = (n : Int) := ⟨limit.toNat, by omega⟩
      have HV : Hid (OView w lo hi (.slice ao n cap) (firstN os n)) := by show OView _ _ _ _ _; unfold firstN; rw [if_neg (by omega)]; exact v0.take n (by omega)
      have h2' : ¬ (n : Int) ≥ (os.length : Int) := by omega
      obtain ⟨b, off, rfl⟩ : ∃ b off, ao = some ⟨b, off, none⟩ := by
        rcases h with h | ⟨b, off, e, _⟩
        · rw [h] at h2'; simp at h2'
        · exact ⟨b, off, e⟩
      have hcap : ¬ cap < n := by omega
      clear v0 h
      go_enter Try.func65, Try.ntmps65
      go_wp2
      go_ret
      exact ⟨_, rfl, HV.out, rfl⟩

set_option maxRecDepth 20000 in
set_option maxHeartbeats 4000000 in
theorem implDo_calls (w : World) {lo hi lo2 hi2 : Nat} {v ov : Value} {d : Dsk} {os : List Opx} (limit : Int) (h1 : DView w lo hi v d) (ho : OView w lo2 hi2 ov os) (hoh : hi2 ≤ w.heap.size) :
    Calls Try.prog 31 #[v, ov, .int .i64 limit] w fun e w' => ∃ v, e = .returned v ∧ OwnD w' w.heap.size w'.heap.size 55 5 v (doD d os limit) ∧ Chg 0 0 w w' := by
  have d0 := h1
  have o0 := ho
  obtain ⟨dv, pv, rfl, v1, p1⟩ := h1
  obtain ⟨ao, cap, rfl, _, _, _⟩ := v1
  obtain ⟨po, pcap, rfl, _, _, _⟩ := p1
  obtain ⟨oo, ocap, rfl, _, _, _⟩ := ho
  obtain ⟨z1, z2, z3⟩ := alloc2 w (.cells #[.slice ao d.dur.length cap, .slice po d.pend.length pcap] 29) (.cells #[.slice none 0 0, .slice none 0 0] 29)
  have hA : Chg 0 0 w ((w.alloc (.cells #[.slice ao d.dur.length cap, .slice po d.pend.length pcap] 29)).alloc (.cells #[.slice none 0 0, .slice none 0 0] 29)) := (Chg.alloc (Chg.refl 0 0 w) _).alloc _
  have dA := d0.chg hA (by omega)
  go_enter Try.func31, Try.ntmps31
  go_wp2_with fail
  generalize (w.alloc (.cells #[.slice ao d.dur.length cap, .slice po d.pend.length pcap] 29)).alloc (.cells #[.slice none 0 0, .slice none 0 0] 29) = wa at *
  cases hV : validB d with
  | false =>
    refine (openDevice_no _ dA hV).mono ?_
    rintro e wb ⟨rfl, hb⟩
    have sb := hb.size
    have B1 := (hb.block (w.heap.size + 1) (by omega) (by omega)).trans z3
    obtain ⟨y0, y1, yf0, yf1⟩ := two_cells B1
    have hB := hA.trans hb
    have HC : Hid (Chg 0 0 w ((wb.setCell ⟨w.heap.size + 1, 0, none⟩ (.slice none 0 0)).setCell ⟨w.heap.size + 1, 1, none⟩ (.slice none 0 0))) := hB.step (Chg.set2 _ _ _ _) (by omega)
    have HF : Hid (doD d os limit = Dsk.none) := by show _ = _; unfold doD; rw [if_neg (by rw [hV]; simp)]
    clear hA hb z2 z3 dA B1 hB d0 o0 hV
    go_wp2
    refine bodyPost_ret (v := .agg #[.slice none 0 0, .slice none 0 0]) (by simp [results, Try.results31, go_sem, y0, y1]) rfl ⟨_, rfl, ?_, HC.out⟩
    rw [HF.out]; exact OwnD.none _ _ _ _ _
  | true =>
    have hVal := (validB_iff d).1 hV
    refine (openDevice_yes _ dA hVal).mono ?_
    rintro e wb ⟨p, rfl, hdev, hb⟩
    have sb := hb.size
    have B1 := (hb.block (w.heap.size + 1) (by omega) (by omega)).trans z3
    have hB := hA.trans hb
    clear hA hb z2 z3 dA d0 hVal
    by_cases h4 : os.length ≤ 4000
    · have hD : doD d os limit = (runD d (firstN os limit)).getD Dsk.none := by unfold doD; rw [if_pos ⟨hV, h4⟩]
      have HD : Hid (doD d os limit = (runD d (firstN os limit)).getD Dsk.none) := hD
      have oB := o0.chg hB (by omega)
      clear hD hV o0
      go_wp2_with fail
      refine (firstOps_calls _ limit oB).mono ?_
      rintro e wc ⟨fv, rfl, fo, rfl⟩
      obtain ⟨fs, hfs⟩ : ∃ fs, firstN os limit = fs := ⟨_, rfl⟩
      rw [hfs] at fo
      have HFS : Hid (firstN os limit = fs) := hfs
      have HFO : Hid (OView wc lo2 hi2 fv fs) := fo
      clear hfs oB
      obtain ⟨fo', fcap, rfl, hfl, _, _⟩ := fo
      have HDev : Hid (Dev wc wa.heap.size p d) := hdev
      have HB : Hid (Chg 0 0 w wc) := hB
      have HB1 : Hid (wc.heap[w.heap.size + 1]? = some (.cells #[.slice none 0 0, .slice none 0 0] 29 (0, 0))) := B1
      clear hdev hB B1
      go_wp2
      go_loopw [28] (fun i wr => ∃ (k : Nat) (dk : Dsk), k ≤ fs.length ∧ i = .int .i64 k ∧ runD d (fs.take k) = some dk ∧ Dev wr wa.heap.size p dk ∧ Chg 0 0 w wr ∧ Chg wa.heap.size wc.heap.size wc wr ∧ wr.heap[w.heap.size + 1]? = some (.cells #[.slice none 0 0, .slice none 0 0] 29 (0, 0))) (fun i _ => fs.length - (intOf i).toNat)
      case atStart => exact ⟨0, d, Nat.zero_le _, rfl, rfl, HDev.out, HB.out, Chg.refl _ _ _, HB1.out⟩
      case round =>
        obtain ⟨k, dk, hk, rfl, hrun, hdev, hch, hch2, hbox⟩ := hrel
        clear HDev HB HB1
        by_cases hlt : k < fs.length
        · have hi' : (k : Int) < (fs.length : Int) := by omega
          obtain ⟨fb, foff, rfl, hfb1, hfb2, hcell⟩ : ∃ b off, fo' = some ⟨b, off, none⟩ ∧ lo2 ≤ b ∧ b < hi2 ∧ ∀ i, i < fs.length → ∃ dv, wc.cell? ⟨b, off + i * 3, none⟩ = some (.int .i64 (fs.getD i Opx.zero).1) ∧ wc.cell? ⟨b, off + i * 3 + 1, none⟩ = some (.int .i64 (fs.getD i Opx.zero).2.1) ∧ wc.cell? ⟨b, off + i * 3 + 2, none⟩ = some dv ∧ View wc lo2 hi2 .u8 dv (fs.getD i Opx.zero).2.2 := by
            obtain ⟨_, _, e, _, _, h⟩ := HFO.out
            cases e
            rcases h with h | ⟨b, off, e, h1, h2, h3⟩
            · rw [h] at hlt; simp at hlt
            · cases e; exact ⟨b, off, rfl, h1, h2, h3⟩
          obtain ⟨dv, c1, c2, c3, vw⟩ := hcell k hlt
          have HS : Hid (runD d (fs.take (k + 1)) = (runD d (fs.take k)).bind fun d' => opD d' (fs.getD k Opx.zero)) := runD_take_succ d fs k hlt
          have c1 := hch2.cell c1 (by omega)
          have c2 := hch2.cell c2 (by omega)
          have c3 := hch2.cell c3 (by omega)
          have vw := vw.chg hch2 (by omega)
          have HR : Hid (runD d (fs.take (k + 1)) = opD dk (fs.getD k Opx.zero)) := by show _ = _; rw [HS.out, hrun]; rfl
          generalize fs.getD k Opx.zero = o at *
          obtain ⟨q, a, ys⟩ := o
          simp only at c1 c2 c3 vw
          have C1 : Chg 0 0 wr (wr.alloc (.cells #[.int .i64 q, .int .i64 a, dv] 89)) := Chg.alloc (Chg.refl 0 0 wr) _
          have hD := do_calls _ q a ys (hdev.chg0 C1) (vw.chg C1 (by omega)) (by omega : hi2 ≤ wa.heap.size)
          have HCH : Hid (Chg 0 0 w wr) := hch
          have HCH2 : Hid (Chg wa.heap.size wc.heap.size wc wr) := hch2
          have HBX : Hid (wr.heap[w.heap.size + 1]? = some (.cells #[.slice none 0 0, .slice none 0 0] 29 (0, 0))) := hbox
          have HC1 : Hid (Chg 0 0 wr (wr.alloc (.cells #[.int .i64 q, .int .i64 a, dv] 89))) := C1
          obtain ⟨vo, vc, rfl, _, _, _⟩ := vw
          clear hcell HS hch hch2 hbox C1 hdev hrun
          go_wp2_with fail
          refine hD.mono ?_
          rintro e w2 ⟨b, rfl, hc, hr⟩
          have hc2 : Chg wa.heap.size wr.heap.size wr w2 := HC1.out.into hc
          have HCH' : Hid (Chg 0 0 w w2) := HCH.out.step hc2 (Or.inr (Or.inl (by omega)))
          have HCH2' : Hid (Chg wa.heap.size wc.heap.size wc w2) := HCH2.out.onto hc2
          have hwr := HCH2.out.size
          have B2 := (hc2.block (w.heap.size + 1) (by omega) (by omega)).trans HBX.out
          clear hD HCH HCH2 HC1 hc hc2 c1 c2 c3
          rcases hr with ⟨rfl, d', hop, hdev2⟩ | ⟨rfl, hop⟩
          · have HB2 : Hid (w2.heap[w.heap.size + 1]? = some (.cells #[.slice none 0 0, .slice none 0 0] 29 (0, 0))) := B2
            have HDV : Hid (Dev w2 wa.heap.size p d') := hdev2
            have HRN : Hid (runD d (fs.take (k + 1)) = some d') := by show _ = _; rw [HR.out]; exact hop
            clear B2 hdev2 hop HR HBX
            go_wp2
            go_roundw
            case rel => exact ⟨k + 1, d', by omega, by go_num, HRN.out, HDV.out, HCH'.out, HCH2'.out, HB2.out⟩
            case measure => simp [intOf]; omega
          · have HF : Hid (doD d os limit = Dsk.none) := by
              show _ = _
              rw [HD.out, HFS.out, runD_none d fs (k + 1) (by rw [HR.out]; exact hop)]; rfl
            obtain ⟨y0, y1, yf0, yf1⟩ := two_cells B2
            have HC : Hid (Chg 0 0 w ((w2.setCell ⟨w.heap.size + 1, 0, none⟩ (.slice none 0 0)).setCell ⟨w.heap.size + 1, 1, none⟩ (.slice none 0 0))) := HCH'.out.step (Chg.set2 _ _ _ _) (by omega)
            clear hop HR HBX B2 HCH' HCH2'
            go_wp2
            refine bodyPost_ret (v := .agg #[.slice none 0 0, .slice none 0 0]) (by simp [results, Try.results31, go_sem, y0, y1]) rfl ⟨_, rfl, ?_, HC.out⟩
            rw [HF.out]; exact OwnD.none _ _ _ _ _
        · obtain rfl : k = fs.length := by omega
          rw [List.take_length] at hrun
          have HF : Hid (doD d os limit = dk) := by show _ = _; rw [HD.out, HFS.out, hrun]; rfl
          have hK := disk_calls _ hdev
          have HBX : Hid (wr.heap[w.heap.size + 1]? = some (.cells #[.slice none 0 0, .slice none 0 0] 29 (0, 0))) := hbox
          have HCH : Hid (Chg 0 0 w wr) := hch
          have hszr := hch2.size
          clear hbox hch hch2 hdev hrun
          go_wp2_with fail
          refine hK.mono ?_
          rintro e wd ⟨v, rfl, od, hd⟩
          have sd := hd.size
          have B1 := (hd.block (w.heap.size + 1) (by omega) (by omega)).trans HBX.out
          obtain ⟨y0, y1, yf0, yf1⟩ := two_cells B1
          have hD' := HCH.out.trans hd
          obtain ⟨a1, l1, c1, a1', l1', c1', rfl⟩ := od.agg
          have HC : Hid (Chg 0 0 w ((wd.setCell ⟨w.heap.size + 1, 0, none⟩ (.slice a1 l1 c1)).setCell ⟨w.heap.size + 1, 1, none⟩ (.slice a1' l1' c1'))) := hD'.step (Chg.set2 _ _ _ _) (by omega)
          have HO : Hid (OwnD ((wd.setCell ⟨w.heap.size + 1, 0, none⟩ (.slice a1 l1 c1)).setCell ⟨w.heap.size + 1, 1, none⟩ (.slice a1' l1' c1')) wr.heap.size wd.heap.size 55 5 (.agg #[.slice a1 l1 c1, .slice a1' l1' c1']) dk) := od.chg (Chg.set2 _ _ _ _) (by omega)
          have HS : Hid (((wd.setCell ⟨w.heap.size + 1, 0, none⟩ (.slice a1 l1 c1)).setCell ⟨w.heap.size + 1, 1, none⟩ (.slice a1' l1' c1')).heap.size = wd.heap.size) := by show _ = _; simp [World.setCell]
          have HZ : Hid (w.heap.size ≤ wr.heap.size) := by show _ ≤ _; omega
          clear hK hd hD' od B1 HBX HCH
          go_wp2
          refine bodyPost_ret (v := .agg #[.slice a1 l1 c1, .slice a1' l1' c1']) (by simp [results, Try.results31, go_sem, y0, y1]) rfl ⟨_, rfl, ?_, HC.out⟩
          rw [HF.out, HS.out]; exact HO.out.lower HZ.out
    · have HF : Hid (doD d os limit = Dsk.none) := by show _ = _; unfold doD; rw [if_neg (fun h => h4 h.2)]
      obtain ⟨y0, y1, yf0, yf1⟩ := two_cells B1
      have HC : Hid (Chg 0 0 w ((wb.setCell ⟨w.heap.size + 1, 0, none⟩ (.slice none 0 0)).setCell ⟨w.heap.size + 1, 1, none⟩ (.slice none 0 0))) := hB.step (Chg.set2 _ _ _ _) (by omega)
      have h4' : (os.length : Int) > 4000 := by omega
      clear B1 hB o0 hV hdev h4
      go_wp2
      refine bodyPost_ret (v := .agg #[.slice none 0 0, .slice none 0 0]) (by simp [results, Try.results31, go_sem, y0, y1]) rfl ⟨_, rfl, ?_, HC.out⟩
      rw [HF.out]; exact OwnD.none _ _ _ _ _

end Go.Proofs.Ytplfehjaakkldaa
