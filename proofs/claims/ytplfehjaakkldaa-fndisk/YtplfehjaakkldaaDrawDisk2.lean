/- The model's draws: l1DrawDisk. -/
import Derived.Test.YtplfehjaakkldaaDrawDisk
import Derived.Test.YtplfehjaakkldaaHeld
namespace Go.Proofs.Ytplfehjaakkldaa
open Go.RowKit

/-- A disk was drawn. -/
def DrawnD (w w' : World) (p : Nat) (cv : Value) (at' sz : Nat) (e : Ending) : Prop :=
  ∃ v d k, e = .returned v ∧ DView w' w.heap.size w'.heap.size v d ∧ Small d ∧ k ≤ at' + 10000 ∧ SrcAt w' p cv k sz ∧ Chg p (p + 1) w w'

theorem DrawnD.drew {w w' : World} {p : Nat} {cv : Value} {at' sz : Nat} {e : Ending} (h : DrawnD w w' p cv at' sz e) : DrawnD w w'.drew p cv at' sz e := by
  obtain ⟨v, d, k, h1, h2, h3, h4, h5, h6⟩ := h
  exact ⟨v, d, k, h1, h2.chg (Chg.drew (Chg.refl 0 0 w')) (by omega), h3, h4, h5.chg (Chg.drew (Chg.refl 0 0 w')) (by omega), Chg.drew h6⟩

/-- What is told at the end. -/
theorem fin_disk {w wz : World} {p at' sz a : Nat} {cv dv pv : Value} {dur : List Int} {ps : List Wr} (hs : SrcAt wz p cv a sz) (ha : a ≤ at' + 10000) (hc : Chg p (p + 1) w wz) (hp : p < w.heap.size)
    (h1 : View wz (w.heap.size + 1) wz.heap.size .u8 dv dur) (h2 : PView wz (w.heap.size + 1) wz.heap.size pv ps) (hsm : Small ⟨dur, ps⟩) :
    DrawnD w ((wz.setCell ⟨w.heap.size, 0, none⟩ dv).setCell ⟨w.heap.size, 1, none⟩ pv) p cv at' sz (.returned (.agg #[dv, pv])) := by
  have C := Chg.set2 wz w.heap.size dv pv
  have e : ((wz.setCell ⟨w.heap.size, 0, none⟩ dv).setCell ⟨w.heap.size, 1, none⟩ pv).heap.size = wz.heap.size := by simp
  refine ⟨_, ⟨dur, ps⟩, a, rfl, ?_, hsm, ha, hs.chg C (by omega), hc.step C (Or.inr (Or.inl (Nat.le_refl _)))⟩
  rw [e]
  exact DView.mono ⟨dv, pv, rfl, h1.chg C (by omega), h2.chg C (by omega)⟩ (by omega) (Nat.le_refl _)

theorem P64.le {ps : List Wr} (h : P64 ps) : ∀ i, i < ps.length → (ps.getD i (0, [])).2.length ≤ 64 := fun i hi => by rw [h i hi]; omega

theorem OwnB.vw {w : World} {base : Nat} {e : TypeId} {v : Value} {xs : List Int} (h : OwnB w base e v xs) (hl : xs.length ≤ 1048576) : View w base w.heap.size .u8 v xs :=
  h.view (by omega) (fun g hg => (h.lt g hg).2)

theorem OwnPx.vw {w : World} {base : Nat} {eW eB : TypeId} {v : Value} {ps : List Wr} {cells : List Value} {dvs : Nat → Value} (h : OwnPx w base eW eB v ps cells dvs) (hl : ps.length ≤ 1048576) (h64 : ∀ i, i < ps.length → (ps.getD i (0, [])).2.length ≤ 64) : PView w base w.heap.size v ps :=
  h.view (by omega) (fun i hi => by have := h64 i hi; omega) (fun g hg => (World.ownsRow.lt h.row g hg).2) (fun i g hi hg => ((h.data i hi).lt g hg).2)

/-- The same behind a store of new bytes. -/
theorem fin_dur {w w8 : World} {p at' sz a B : Nat} {cv dv nv pv : Value} {dur : List Int} {ps : List Wr} {cells : List Value} {dvs : Nat → Value} (hlow : w.heap.size < B)
    (hB8 : w8.heap[B]? = some (.cells #[dv, pv] 29 (0, 0))) (hO8 : OwnB w8 (w.heap.size + 1) 5 nv dur) (hP8 : OwnPx w8 (w.heap.size + 1) 55 5 pv ps cells dvs)
    (hs : SrcAt w8 p cv a sz) (ha : a ≤ at' + 10000) (hc : Chg p (p + 1) w w8) (hp : p < w.heap.size) (hl : dur.length ≤ 131136) (hpl : ps.length ≤ 601) (h64 : P64 ps) :
    DrawnD w (((w8.setCell ⟨B, 0, none⟩ nv).setCell ⟨w.heap.size, 0, none⟩ nv).setCell ⟨w.heap.size, 1, none⟩ pv) p cv at' sz (.returned (.agg #[nv, pv])) := by
  have C9 : Chg B (B + 1) w8 (w8.setCell ⟨B, 0, none⟩ nv) := Chg.setCell (p := ⟨B, 0, none⟩) (Chg.refl _ _ _) (Or.inl ⟨Nat.le_refl _, Nat.lt_succ_self _⟩) _
  have nB : ∀ {v xs}, OwnB w8 (w.heap.size + 1) 5 v xs → ∀ g, v.ownBlock = some g → g < B ∨ B + 1 ≤ g := fun ho g hg => by
    obtain ⟨cur, hcur⟩ := ho.elem hg
    have : g ≠ B := fun e => by subst e; exact cells_ne hcur hB8 (by decide) rfl
    omega
  have O9 := hO8.chg C9 (nB hO8)
  have P9 := hP8.chg C9 (fun g hg => by
    obtain ⟨cur, hcur⟩ := row_elem' hP8.row hg
    have : g ≠ B := fun e => by subst e; exact cells_ne hcur hB8 (by decide) rfl
    omega) (fun i g hi hg => nB (hP8.data i hi) g hg)
  exact fin_disk (hs.chg C9 (by omega)) ha (hc.step C9 (by omega)) hp (O9.vw (by omega)) (P9.vw (by omega) h64.le) ⟨hl, hpl, h64.le⟩

/-- What lies in two blocks behind a store into one of them. -/
theorem two_set {w : World} {B R : Nat} {dv pv nv : Value} {x y : Value} {t : TypeId} (hB : w.heap[B]? = some (.cells #[dv, pv] t (0, 0))) (hR : w.heap[R]? = some (.cells #[x, y] t (0, 0))) (hne : B ≠ R) :
    (w.setCell ⟨B, 0, none⟩ nv).heap[B]? = some (.cells #[nv, pv] t (0, 0)) ∧ (w.setCell ⟨B, 0, none⟩ nv).heap[R]? = some (.cells #[x, y] t (0, 0)) := by
  refine ⟨?_, ?_⟩
  · have := heap_setCell_same w B 0 _ _ nv hB
    simpa using this
  · exact (Below.heap_setCell _ _ _ _ (fun e => hne e.symm)).trans hR

theorem OwnPx.slice_of {w : World} {base : Nat} {eW eB : TypeId} {v : Value} {ps : List Wr} {cells : List Value} {dvs : Nat → Value} (h : OwnPx w base eW eB v ps cells dvs) (hp : 0 < ps.length) : ∃ g cap, v = .slice (some ⟨g, 0, none⟩) ps.length cap := by
  rcases h.row.2 with ⟨_, h0⟩ | ⟨g, cap, cur, hv, _⟩
  · omega
  · exact ⟨g, cap, hv⟩

/-- The block of one write is written over. -/
theorem OwnPx.setBlk {wr : World} {base g cap n k : Nat} {eW eB : TypeId} {ps : List Wr} {cells : List Value} {dvs : Nat → Value}
    (h : OwnPx wr base eW eB (.slice (some ⟨g, 0, none⟩) n cap) ps cells dvs) (hn : ps.length = n) (hk : k < n) (hE : eW ≠ eB) (q : Int) :
    OwnPx (wr.setCell ⟨g, k * 2, none⟩ (.int .i64 q)) base eW eB (.slice (some ⟨g, 0, none⟩) n cap) (ps.set k (q, (ps.getD k (0, [])).2)) (cells.set (k * 2) (.int .i64 q)) dvs := by
  obtain ⟨cur, hcur⟩ := h.row_elem
  obtain ⟨row, at0, at1, data, apart⟩ := h
  rw [hn] at row
  have hst := (World.ownsRow.stored row (k * 2) (.int .i64 q)).1
  have hlen : cells.length = n * 2 := row.1
  have hps : (ps.set k (q, (ps.getD k (0, [])).2)).length = n := by simp [hn]
  have hget : ∀ i, i ≠ k → (ps.set k (q, (ps.getD k (0, [])).2)).getD i (0, []) = ps.getD i (0, []) := by
    intro i e
    simp only [List.getD_eq_getElem?_getD, List.getElem?_set_ne (fun h => e h.symm)]
  have hgetk : (ps.set k (q, (ps.getD k (0, [])).2)).getD k (0, []) = (q, (ps.getD k (0, [])).2) := by simp [List.getD_eq_getElem?_getD, hn, hk]
  refine ⟨by rw [hps]; exact hst, fun i hi => ?_, fun i hi => ?_, fun i hi => ?_, fun i j g' hij hj => apart i j g' hij (by omega)⟩
  · by_cases e : i = k
    · subst e; rw [List.getElem?_set_self (by omega), hgetk]
    · rw [List.getElem?_set_ne (by omega), at0 i (by omega), hget i e]
  · rw [List.getElem?_set_ne (by omega)]; exact at1 i (by omega)
  · have hd := data i (by omega)
    have hd' := hd.set (p := ⟨g, k * 2, none⟩) (hd.ne_row hcur hE) (.int .i64 q)
    by_cases e : i = k
    · subst e; rw [hgetk]; exact hd'
    · rw [hget i e]; exact hd'

theorem P64.setBlk {ps : List Wr} (h : P64 ps) (k : Nat) (q : Int) : P64 (ps.set k (q, (ps.getD k (0, [])).2)) := by
  intro i hi
  rw [List.length_set] at hi
  by_cases e : i = k
  · subst e
    have := h i hi
    simp [List.getD_eq_getElem?_getD, hi] at *
    exact this
  · have := h i hi
    simp only [List.getD_eq_getElem?_getD, List.getElem?_set_ne (fun h => e h.symm)] at *
    exact this

/-- The first write's bytes lose their first one. -/
theorem OwnPx.cut0 {wr : World} {base g cap n g0 c0 : Nat} {eW eB : TypeId} {ps : List Wr} {cells : List Value} {dvs : Nat → Value}
    (h : OwnPx wr base eW eB (.slice (some ⟨g, 0, none⟩) n cap) ps cells dvs) (hn : ps.length = n) (hk : 0 < n) (hl : n ≤ 1048576) (hE : eW ≠ eB) (h64 : P64 ps) (h0 : dvs 0 = .slice (some ⟨g0, 0, none⟩) 64 c0) :
    PView (wr.setCell ⟨g, 1, none⟩ (.slice (some ⟨g0, 1, none⟩) 63 (c0 - 1))) base wr.heap.size (.slice (some ⟨g, 0, none⟩) n cap) (ps.set 0 ((ps.getD 0 (0, [])).1, (ps.getD 0 (0, [])).2.drop 1)) := by
  obtain ⟨cur, hcur⟩ := h.row_elem
  obtain ⟨row, at0, at1, data, apart⟩ := h
  rw [hn] at row
  obtain ⟨hst, _⟩ := World.ownsRow.stored row 1 (.slice (some ⟨g0, 1, none⟩) 63 (c0 - 1))
  have hlen : cells.length = n * 2 := row.1
  have gb := World.ownsRow.lt row g rfl
  have hcap : n ≤ cap := by
    rcases row.2 with ⟨e, _⟩ | ⟨g', cap', cur', e, _, _, hc, _⟩
    · cases e
    · simp only [Value.slice.injEq, Option.some.injEq, Addr.mk.injEq, and_true, true_and] at e
      obtain ⟨_, rfl⟩ := e
      exact hc
  have hps : (ps.set 0 ((ps.getD 0 (0, [])).1, (ps.getD 0 (0, [])).2.drop 1)).length = n := by simp [hn]
  have hsz : (wr.setCell ⟨g, 1, none⟩ (.slice (some ⟨g0, 1, none⟩) 63 (c0 - 1))).heap.size = wr.heap.size := by simp
  have hdat : ∀ i, i < n → OwnB (wr.setCell ⟨g, 1, none⟩ (.slice (some ⟨g0, 1, none⟩) 63 (c0 - 1))) base eB (dvs i) (ps.getD i (0, [])).2 := fun i hi => (data i (by omega)).set (p := ⟨g, 1, none⟩) ((data i (by omega)).ne_row hcur hE) _
  refine ⟨some ⟨g, 0, none⟩, cap, by rw [hps], by rw [hps]; omega, by rw [hps]; exact hcap, Or.inr ⟨g, 0, rfl, gb.1, gb.2, fun i hi => ?_⟩⟩
  rw [hps] at hi
  by_cases e : i = 0
  · subst e
    have e0 : (ps.set 0 ((ps.getD 0 (0, [])).1, (ps.getD 0 (0, [])).2.drop 1)).getD 0 (0, []) = ((ps.getD 0 (0, [])).1, (ps.getD 0 (0, [])).2.drop 1) := by simp [List.getD_eq_getElem?_getD, hn, hk]
    rw [e0]
    refine ⟨.slice (some ⟨g0, 1, none⟩) 63 (c0 - 1), ?_, ?_, ?_⟩
    · rw [Nat.zero_add, World.ownsRow.cellAt hst (0 * 2) (by omega), List.getElem?_set_ne (by omega)]; exact at0 0 (by omega)
    · rw [Nat.zero_add, World.ownsRow.cellAt hst (0 * 2 + 1) (by omega), List.getElem?_set_self (by omega)]
    · have hl64 := h64 0 (by omega)
      have hv := (hdat 0 hk).vw (by omega)
      rw [h0] at hv
      obtain ⟨ao, cp, ev, _, ⟨hc1, _⟩, hcell⟩ := hv
      simp only [Value.slice.injEq] at ev
      obtain ⟨rfl, _, rfl⟩ := ev
      rcases hcell with hn0 | ⟨b, off, eb, hb1, hb2, hcc⟩
      · rw [hn0] at hl64; simp at hl64
      · simp only [Option.some.injEq, Addr.mk.injEq, and_true] at eb
        obtain ⟨rfl, rfl⟩ := eb
        rw [hsz] at hb2
        refine ⟨some ⟨g0, 1, none⟩, c0 - 1, by rw [List.length_drop, hl64], by rw [List.length_drop]; omega, ⟨by rw [List.length_drop]; omega, by simp⟩, Or.inr ⟨g0, 1, rfl, hb1, hb2, fun i hi => ?_⟩⟩
        rw [List.length_drop] at hi
        have := hcc (1 + i) (by omega)
        rw [Nat.zero_add] at this
        rw [this]
        simp [List.getD_eq_getElem?_getD, Nat.add_comm]
  · have ei : (ps.set 0 ((ps.getD 0 (0, [])).1, (ps.getD 0 (0, [])).2.drop 1)).getD i (0, []) = ps.getD i (0, []) := by
      simp only [List.getD_eq_getElem?_getD, List.getElem?_set_ne (fun h => e h.symm)]
    rw [ei]
    have hli := h64 i (by omega)
    refine ⟨dvs i, ?_, ?_, ?_⟩
    · rw [Nat.zero_add, World.ownsRow.cellAt hst (i * 2) (by omega), List.getElem?_set_ne (by omega)]; exact at0 i (by omega)
    · rw [Nat.zero_add, World.ownsRow.cellAt hst (i * 2 + 1) (by omega), List.getElem?_set_ne (by omega)]; exact at1 i (by omega)
    · have := (hdat i hi).vw (by omega)
      rw [hsz] at this
      exact this

set_option maxRecDepth 20000 in
set_option maxHeartbeats 8000000 in
theorem l1DrawDisk_calls (w : World) (p at' sz : Nat) {lo hi : Nat} {cv : Value} {code : List Int} (K : SrcOk w p lo hi cv code) (hsz : sz ≤ 12) (hat : at' + 10000 ≤ 1099511627776)
    (hs : SrcAt w p cv at' sz) :
    Calls Try.prog 61 #[.pointer (some ⟨p, 0, none⟩)] w fun e w' => DrawnD w w' p cv at' sz e := by
  have hps : p < w.heap.size := (Array.getElem?_eq_some_iff.1 hs).1
  have C0 : Chg p (p + 1) w (w.alloc (.cells #[.slice none 0 0, .slice none 0 0] 29)) := Chg.alloc (Chg.refl p (p + 1) w) _
  have R0 := heap_new w (.cells #[.slice none 0 0, .slice none 0 0] 29)
  have s0 : (w.alloc (.cells #[.slice none 0 0, .slice none 0 0] 29)).heap.size = w.heap.size + 1 := by simp
  have hs0 : SrcAt (w.alloc (.cells #[.slice none 0 0, .slice none 0 0] 29)) p cv at' sz := hs.chg (Chg.alloc (Chg.refl 0 0 w) _) (by omega)
  have hN := l1Next_calls _ p at' sz 8 (by omega) K.byt K.len (by omega) hs0 (K.vw.chg C0 (by have := K.off; omega)) K.off
  have hr := nxt_range code at' 8
  obtain ⟨n0, hn0⟩ : ∃ q : Nat, nxt code at' 8 = (q : Int) := ⟨(nxt code at' 8).toNat, by omega⟩
  rw [hn0] at hN hr
  have hn8 : n0 < 8 := by have := hr.2 (by omega); omega
  clear hs hs0 hr hn0
  go_enter Try.func61, Try.ntmps61
  go_wp2_with fail
  generalize w.alloc (.cells #[.slice none 0 0, .slice none 0 0] 29) = wa at *
  refine hN.mono ?_
  rintro e w1 ⟨rfl, hs1, hc1⟩
  clear hN
  have s1 := hc1.size
  have C1 := C0.trans hc1
  have R1 := (hc1.block w.heap.size (by omega) (by omega)).trans R0
  obtain ⟨n, hn⟩ : ∃ n, n = 1 + n0 := ⟨_, rfl⟩
  have hn1 : (1 : Int) + (n0 : Int) = (n : Int) := by omega
  have hnn : 1 ≤ n ∧ n ≤ 8 := by omega
  clear C0 R0 hc1 hn
  go_wp2_with fail
  clear hn1
  refine (specNewDisk_yes w1 n hnn.1 (by omega)).mono ?_
  rintro e w2 ⟨dv, rfl, od, hc2⟩
  have s2 := hc2.size
  have C2 := C1.step hc2 (by omega)
  have R2 := (hc2.block w.heap.size (by omega) (by omega)).trans R1
  have S2 := hs1.chg hc2 (by omega)
  obtain ⟨g, gcap, rfl⟩ := od.slice_of (by simp; omega)
  rw [List.length_replicate] at *
  have gb := od.lt g rfl
  have C3 : Chg 0 0 w2 (w2.alloc (.cells #[.slice (some ⟨g, 0, none⟩) (n * 64) gcap, .slice none 0 0] 29)) := Chg.alloc (Chg.refl 0 0 w2) _
  have HD0 : Hid (DrS w (w2.alloc (.cells #[.slice (some ⟨g, 0, none⟩) (n * 64) gcap, .slice none 0 0] 29)) p cv sz (at' + 1) w2.heap.size (.slice (some ⟨g, 0, none⟩) (n * 64) gcap) (List.replicate (n * 64) 0) []) :=
    ⟨⟨at' + 1, Nat.le_refl _, S2.chg C3 (by omega)⟩, C2.step C3 (by omega), (C3.block w.heap.size (by omega) (by omega)).trans R2, by omega, ⟨.slice none 0 0, [], fun _ => .slice none 0 0, heap_new _ _, (od.chg C3 (by intro g' _; omega)).base (fun g' hg' => by cases hg'; show w.heap.size + 1 ≤ g; omega), OwnPx.nil _ _ _ _, by simp⟩, hps⟩
  have HK : Hid (SrcOk w p lo hi cv code) := K
  have hBz : w.heap.size < w2.heap.size := by omega
  clear C1 C2 C3 R1 R2 S2 od hs1 hc2 K s0
  go_wp2
  generalize w2.alloc (.cells #[.slice (some ⟨g, 0, none⟩) (n * 64) gcap, .slice none 0 0] 29) = w3 at *
  generalize w2.heap.size = B at *
  go_loopw [5] (fun i wr => ∃ k : Nat, k ≤ n ∧ i = .int .i64 k ∧ ∃ dur, dur.length = n * 64 ∧ DrS w wr p cv sz (at' + 1 + k * 6) B (.slice (some ⟨g, 0, none⟩) (n * 64) gcap) dur []) (fun i _ => n - (intOf i).toNat)
  case atStart => exact ⟨0, Nat.zero_le _, rfl, _, by simp, HD0.out⟩
  case round =>
    obtain ⟨k, hk, rfl, dur, hdl, hD⟩ := hrel
    clear HD0
    by_cases hlt : k < n
    · have hik : (k : Int) < (n : Int) := by omega
      have HDl : Hid (dur.length = n * 64) := hdl
      have hN := hD.chance HK.out (by omega) 3 (by omega)
      clear hdl hD
      go_wp2_with fail
      refine hN.mono ?_
      rintro e w4 ⟨ch, rfl, hD4, _⟩
      clear hN
      cases ch
      · have HD4 : Hid (DrS w w4 p cv sz (at' + 1 + k * 6 + 1) B (.slice (some ⟨g, 0, none⟩) (n * 64) gcap) dur []) := hD4
        obtain ⟨pv, cells, dvs, hB4, _⟩ := hD4.told
        have HS : Hid ((fun w' : World => w'.cell? ⟨B, 0, none⟩ = some (.slice (some ⟨g, 0, none⟩) (n * 64) gcap)) w4.drew) := (two_cells hB4).1
        clear hB4 hD4
        go_wp2
        refine held_region (fun w' : World => w'.cell? ⟨B, 0, none⟩ = some (.slice (some ⟨g, 0, none⟩) (n * 64) gcap)) (by kernel_rfl) ?_
        refine held_take 0 (.pointer (some ⟨B, 0, none⟩)) rfl (by kernel_rfl) (by kernel_rfl) (by kernel_rfl) (fun _ _ _ h => h) (.inl ⟨by kernel_rfl, fun w' hw' => by go_simp⟩) HS.out ?_
        go_simp
        refine held_take 1 (.slice (some ⟨g, 0, none⟩) (n * 64) gcap) rfl (by kernel_rfl) (by kernel_rfl) (by kernel_rfl) (fun _ _ _ h => h) (.inl ⟨by kernel_rfl, fun w' hw' => by have h4 := hw'; go_simp⟩) HS.out ?_
        go_simp
        refine held_take 2 (.int .i64 (k : Int)) rfl (by kernel_rfl) (by kernel_rfl) (by kernel_rfl) (fun _ _ _ h => h) (.inl ⟨by kernel_rfl, fun w' hw' => by go_simp⟩) HS.out ?_
        go_simp
        refine held_take 3 (.pointer (some ⟨p, 0, none⟩)) rfl (by kernel_rfl) (by kernel_rfl) (by kernel_rfl) (fun _ _ _ h => h) (.inl ⟨by kernel_rfl, fun w' hw' => by go_simp⟩) HS.out ?_
        go_simp
        refine held_one 4 rfl rfl (by kernel_rfl) ?_
        refine wp_enter 63 #[.pointer (some ⟨p, 0, none⟩)] (by first | kernel_rfl | go_simp) (HD4.out.drew.fill HK.out (by omega)) ?_
        rintro e w5 ⟨g5, cap5, ys, rfl, hyl, ho5, hD5, hc5⟩
        refine ⟨_, rfl, ?_⟩
        obtain ⟨pv5, cells5, dvs5, hB5, hO5, hP5, hA5⟩ := hD5.told
        refine ⟨(two_cells hB5).1, ?_⟩
        have g5b := ho5.lt g5 rfl
        have gb5 := hO5.lt g rfl
        have gb4 : g < w4.heap.size := by
          obtain ⟨_, _, _, _, h', _⟩ := HD4.out.told
          exact (h'.lt g rfl).2
        have hds : w4.drew.heap.size = w4.heap.size := rfl
        rw [hds] at g5b
        have hput := l1Put_calls w5 dur ys k (by rw [HDl.out]; exact hO5) (ho5.view (by omega) (fun g' hg' => (ho5.lt g' hg').2)) hyl (by rw [HDl.out]; omega) (by rw [HDl.out]; omega) (Or.inl (by rw [hds]; exact gb4))
        rw [HDl.out] at hput
        have HD5 : Hid (DrS w w5 p cv sz (at' + 1 + k * 6 + 1 + 5) B (.slice (some ⟨g, 0, none⟩) (n * 64) gcap) dur []) := hD5
        have HYl : Hid (ys.length = 64) := hyl
        clear hD5 hB5 hO5 hP5 hA5 ho5 hyl HS hc5
        go_simp
        refine held_one 5 rfl rfl (by kernel_rfl) ?_
        refine wp_enter 56 #[.slice (some ⟨g, 0, none⟩) (n * 64) gcap, .int .i64 k, .slice (some ⟨g5, 0, none⟩) 64 cap5] (by first | kernel_rfl | go_simp) hput ?_
        rintro e w6 ⟨rfl, ho6, hc6⟩
        refine ⟨_, rfl, ?_⟩
        have HD6 : Hid (DrS w w6 p cv sz (at' + 1 + k * 6 + 1 + 5) B (.slice (some ⟨g, 0, none⟩) (n * 64) gcap) (splice dur (k * 64) ys) []) := HD5.out.put rfl hc6 ho6
        have HL6 : Hid ((splice dur (k * 64) ys).length = n * 64) := by show _ = _; rw [length_splice _ _ _ (by rw [HYl.out, HDl.out]; omega)]; exact HDl.out
        have HS6 : Hid (w6.cell? ⟨B, 0, none⟩ = some (.slice (some ⟨g, 0, none⟩) (n * 64) gcap)) := by obtain ⟨_, _, _, h', _⟩ := HD6.out.told; exact (two_cells h').1
        clear HD5 hput ho6 hc6
        refine ⟨HS6.out, ?_⟩
        go_simp
        refine held_done (by kernel_rfl) (NoPanic.normal ?_)
        go_wp2
        go_roundw
        case rel => exact ⟨k + 1, by omega, by go_num, _, HL6.out, HD6.out.step (Chg.refl _ _ _) (by obtain ⟨a, ha, h'⟩ := HD6.out.src; exact ⟨a, by omega, h'⟩)⟩
        case measure => simp [intOf]; omega
      · have HD4 : Hid (DrS w w4 p cv sz (at' + 1 + k * 6 + 1) B (.slice (some ⟨g, 0, none⟩) (n * 64) gcap) dur []) := hD4
        clear hD4
        go_wp2
        go_roundw
        case rel => exact ⟨k + 1, by omega, by go_num, _, HDl.out, HD4.out.step (Chg.refl _ _ _) (by obtain ⟨a, ha, h'⟩ := HD4.out.src; exact ⟨a, by omega, h'⟩)⟩
        case measure => simp [intOf]; omega
    · obtain rfl : k = n := by omega
      have HDl : Hid (dur.length = k * 64) := hdl
      have hN := hD.next HK.out (by omega) 30 (by omega)
      clear hdl hD hk hlt
      go_wp2_with fail
      refine hN.mono ?_
      rintro e w4 ⟨xk, rfl, hx0, hx1, hD4, _⟩
      clear hN
      obtain ⟨kk, rfl⟩ := Int.eq_ofNat_of_zero_le hx0
      have hN := hD4.next HK.out (by omega) (4 + (sz : Int)) (by omega)
      obtain ⟨a4, _, s4⟩ := hD4.src
      obtain ⟨_, _, c2, _, _, _⟩ := three_cells s4
      clear hx0 hx1 hD4 s4
      go_wp2_with fail
      refine hN.mono ?_
      rintro e w5 ⟨xw, rfl, hx0, hx1, hD5, _⟩
      clear hN c2
      obtain ⟨wn, rfl⟩ := Int.eq_ofNat_of_zero_le hx0
      have hwn : wn < 16 := by have := hx1 (by omega); omega
      clear hx0 hx1
      have HD5 : Hid (DrS w w5 p cv sz (at' + 1 + k * 6 + 1 + 1) B (.slice (some ⟨g, 0, none⟩) (k * 64) gcap) dur []) := hD5
      clear hD5
      go_upto_if 38 with fail
      go_cut [7] (fun s7 wx => (∃ m : Nat, m ≤ 601 ∧ s7 = .int .i64 m) ∧ DrS w wx p cv sz (at' + 1 + k * 6 + 3) B (.slice (some ⟨g, 0, none⟩) (k * 64) gcap) dur [])
      case first =>
        by_cases hk0 : kk = 0
        · subst hk0
          have hN := HD5.out.next HK.out (by omega) 2 (by omega)
          go_wp2_with fail
          refine hN.mono ?_
          rintro e w6 ⟨xw, rfl, hx0, hx1, hD6, _⟩
          clear hN
          obtain ⟨qn, rfl⟩ := Int.eq_ofNat_of_zero_le hx0
          have hq2 : qn < 2 := by have := hx1 (by omega); omega
          have HD6 : Hid (DrS w w6 p cv sz (at' + 1 + k * 6 + 3) B (.slice (some ⟨g, 0, none⟩) (k * 64) gcap) dur []) := hD6
          clear hx0 hx1 hD6 HD5
          go_wp2
          go_meet
          exact ⟨⟨600 + qn, by omega, by go_num⟩, HD6.out⟩
        · have hk0' : ((kk : Int) == 0) = false := by simp only [beq_eq_false_iff_ne, ne_eq]; omega
          go_wp2
          go_meet
          exact ⟨⟨wn, by omega, rfl⟩, HD5.out.step (Chg.refl _ _ _) (by obtain ⟨a, ha, h'⟩ := HD5.out.src; exact ⟨a, by omega, h'⟩)⟩
      case rest =>
        obtain ⟨⟨m, hm, rfl⟩, hD6⟩ := hcut
        have HD6 : Hid (DrS w wc p cv sz (at' + 1 + k * 6 + 3) B (.slice (some ⟨g, 0, none⟩) (k * 64) gcap) dur []) := hD6
        clear hD6 HD5
        go_wp2
        go_loopw [8] (fun i wr => ∃ j : Nat, j ≤ m ∧ i = .int .i64 j ∧ ∃ ps, ps.length = j ∧ P64 ps ∧ DrS w wr p cv sz (at' + 1 + k * 6 + 3 + j * 6) B (.slice (some ⟨g, 0, none⟩) (k * 64) gcap) dur ps) (fun i _ => m - (intOf i).toNat)
        case atStart => exact ⟨0, Nat.zero_le _, rfl, [], rfl, by intro i hi; simp at hi, HD6.out⟩
        case round =>
          obtain ⟨j, hj, rfl, ps, hpl, hp64, hD⟩ := hrel
          clear HD6
          by_cases hlt : j < m
          · have hij : (j : Int) < (m : Int) := by omega
            have HPl : Hid (ps.length = j ∧ P64 ps) := ⟨hpl, hp64⟩
            have HD : Hid (DrS w wr p cv sz (at' + 1 + k * 6 + 3 + j * 6) B (.slice (some ⟨g, 0, none⟩) (k * 64) gcap) dur ps) := hD
            obtain ⟨pv, cells, dvs, hB0, _, hP0, _⟩ := hD.told
            obtain ⟨po, pl, pc, rfl⟩ := row_slice hP0.row
            have HS : Hid ((fun w' : World => w'.cell? ⟨B, 1, none⟩ = some (.slice po pl pc)) wr.drew) := (two_cells hB0).2.1
            clear hB0 hP0 hpl hp64 hD
            go_wp2
            refine weak_region 11 (fun w' : World => w'.cell? ⟨B, 1, none⟩ = some (.slice po pl pc)) (by kernel_rfl) ?_
            refine weak_take 0 (.pointer (some ⟨B, 1, none⟩)) rfl (by kernel_rfl) (by kernel_rfl) (by kernel_rfl) (by kernel_rfl) (fun _ _ _ h => h) (.inl ⟨by kernel_rfl, fun w' hw' => by go_simp⟩) HS.out ?_
            go_simp
            refine weak_take 1 (.slice po pl pc) rfl (by kernel_rfl) (by kernel_rfl) (by kernel_rfl) (by kernel_rfl) (fun _ _ _ h => h) (.inl ⟨by kernel_rfl, fun w' hw' => by have h4 := hw'; go_simp⟩) HS.out ?_
            go_simp
            refine weak_take 2 (.pointer (some ⟨p, 0, none⟩)) rfl (by kernel_rfl) (by kernel_rfl) (by kernel_rfl) (by kernel_rfl) (fun _ _ _ h => h) (.inl ⟨by kernel_rfl, fun w' hw' => by go_simp⟩) HS.out ?_
            go_simp
            refine weak_take 3 (.int .i64 (k : Int)) rfl (by kernel_rfl) (by kernel_rfl) (by kernel_rfl) (by kernel_rfl) (fun _ _ _ h => h) (.inl ⟨by kernel_rfl, fun w' hw' => by go_simp⟩) HS.out ?_
            go_simp
            refine weak_take 5 (.pointer (some ⟨p, 0, none⟩)) rfl (by kernel_rfl) (by kernel_rfl) (by kernel_rfl) (by kernel_rfl) (fun _ _ _ h => h) (.inl ⟨by kernel_rfl, fun w' hw' => by go_simp⟩) HS.out ?_
            go_simp
            refine weak_one 4 rfl rfl (by kernel_rfl) ?_
            refine wp_enter 62 #[.pointer (some ⟨p, 0, none⟩), .int .i64 (k : Int)] (by first | kernel_rfl | go_simp) (HD.out.drew.next HK.out (by omega) (k : Int) (by omega)) ?_
            rintro e w4 ⟨q, rfl, _, _, hD4, hc4⟩
            refine ⟨_, rfl, ?_⟩
            have HD4 : Hid (DrS w w4 p cv sz (at' + 1 + k * 6 + 3 + j * 6 + 1) B (.slice (some ⟨g, 0, none⟩) (k * 64) gcap) dur ps) := hD4
            have HS4 : Hid ((fun w' : World => w'.cell? ⟨B, 1, none⟩ = some (.slice po pl pc)) w4) := hc4.cell HS.out (by have := HD.out.low; have := HD.out.psz; omega)
            clear hD4 HS hc4
            refine ⟨fun _ => HS4.out, ?_⟩
            go_simp
            refine weak_one 6 rfl rfl (by kernel_rfl) ?_
            refine wp_enter 63 #[.pointer (some ⟨p, 0, none⟩)] (by first | kernel_rfl | go_simp) (HD4.out.fill HK.out (by omega)) ?_
            rintro e w5 ⟨g5, cap5, ys, rfl, hyl, ho5, hD5, hc5⟩
            refine ⟨_, rfl, ?_⟩
            have HD5 : Hid (DrS w w5 p cv sz (at' + 1 + k * 6 + 3 + j * 6 + 1 + 5) B (.slice (some ⟨g, 0, none⟩) (k * 64) gcap) dur ps) := hD5
            have HS5 : Hid ((fun w' : World => w'.cell? ⟨B, 1, none⟩ = some (.slice po pl pc)) w5) := hc5.cell HS4.out (by have := HD4.out.low; have := HD4.out.psz; omega)
            have HO5 : Hid (OwnB w5 w4.heap.size 5 (.slice (some ⟨g5, 0, none⟩) 64 cap5) ys) := ho5
            have HYl : Hid (ys.length = 64) := hyl
            have HT5 : Hid (∃ cells dvs, w5.heap[B]? = some (.cells #[.slice (some ⟨g, 0, none⟩) (k * 64) gcap, .slice po pl pc] 29 (0, 0)) ∧ OwnB w5 (w.heap.size + 1) 5 (.slice (some ⟨g, 0, none⟩) (k * 64) gcap) dur ∧
                OwnPx w5 (w.heap.size + 1) 55 5 (.slice po pl pc) ps cells dvs ∧ (∀ i j, i < ps.length → (Value.slice (some ⟨g, 0, none⟩) (k * 64) gcap).ownBlock = some j → (dvs i).ownBlock ≠ some j) ∧
                (∀ i g', i < ps.length → (dvs i).ownBlock = some g' → g' < w4.heap.size) ∧ g < w4.heap.size) := by
              obtain ⟨pv4, cells, dvs, hB4, hO4, hP4, hA4⟩ := HD4.out.told
              obtain rfl : pv4 = .slice po pl pc := by have h1 := (two_cells hB4).2.1; rw [HS4.out] at h1; cases h1; rfl
              have hpz := HD4.out.psz
              have hlw := HD4.out.low
              refine ⟨cells, dvs, (hc5.block B (Array.getElem?_eq_some_iff.1 hB4).1 (by omega)).trans hB4, hO4.chg hc5 (fun g' hg' => by have := (hO4.lt g' hg').1; omega), hP4.chg hc5 (fun g' hg' => by have := (World.ownsRow.lt hP4.row g' hg').1; omega) (fun i g' hi hg' => by have := ((hP4.data i hi).lt g' hg').1; omega), hA4, fun i g' hi hg' => ((hP4.data i hi).lt g' hg').2, (hO4.lt g rfl).2⟩
            clear hD5 hc5 ho5 hyl HS4
            refine ⟨fun _ => HS5.out, ?_⟩
            go_simp
            refine weak_take 7 (.agg #[.int .i64 q, .slice (some ⟨g5, 0, none⟩) 64 cap5]) rfl (by kernel_rfl) (by kernel_rfl) (by kernel_rfl) (by kernel_rfl) (fun _ _ _ h => h) (.inl ⟨by kernel_rfl, fun w' hw' => by go_simp⟩) HS5.out ?_
            go_simp
            obtain ⟨ic, hic, hcz0, hcz1, hcz2⟩ := info_parts Try.infoW'
            refine weak_one 8 rfl rfl (by kernel_rfl) ?_
            refine wp_buildSlice 27 55 1 #[(0, .tmp 54)] rfl #[.int .i64 q, .slice (some ⟨g5, 0, none⟩) 64 cap5] ic _ Try.underlying27 hic hcz0 (by rw [hcz1]; decide) (by rw [hcz1]; decide) (by rw [hcz1, Array.toList_map]; refine fill_row 2 _ ?_ [.int .i64 q, .slice (some ⟨g5, 0, none⟩) 64 cap5] rfl; simp) ?_
            refine ⟨fun _ => (Chg.alloc (Chg.refl 0 0 w5) _).cell HS5.out (by omega), ?_⟩
            go_simp
            obtain ⟨cells, dvs, hB5, hO5, hP5, hA5, hfr, hgr⟩ := HT5.out
            have P6 := hP5.chg (Chg.alloc (Chg.refl 0 0 w5) (.cells #[.int .i64 q, .slice (some ⟨g5, 0, none⟩) 64 cap5] 55)) (by intro g' _; omega) (by intro i g' _ _; omega)
            have B6 := heap_new w5 (.cells #[.int .i64 q, .slice (some ⟨g5, 0, none⟩) 64 cap5] 55)
            have s6 : (w5.alloc (.cells #[.int .i64 q, .slice (some ⟨g5, 0, none⟩) 64 cap5] 55)).heap.size = w5.heap.size + 1 := by simp
            have sw5 := HD5.out.chg.size
            have hnews : ∀ j u, [Value.int .i64 q, .slice (some ⟨g5, 0, none⟩) 64 cap5][j]? = some u → (w5.alloc (.cells #[.int .i64 q, .slice (some ⟨g5, 0, none⟩) 64 cap5] 55)).cell? ((⟨w5.heap.size, 0, none⟩ : Addr).add j) = some u := by
              intro j u hj
              rw [Addr.add_mid, Nat.zero_add, cell_of_row _ w5.heap.size j _ _ _ B6]
              simpa using hj
            refine weak_one 9 rfl rfl (by kernel_rfl) ?_
            refine wp_append_own _ (.tmp 48) (.tmp 55) 27 rfl (w.heap.size + 1) 55 ic _ 2 32 Try.underlying27 hic hcz0 hcz1 hcz2 rfl (by decide) _ _ cells rfl P6.row ⟨w5.heap.size, 0, none⟩ 1 1 [.int .i64 q, .slice (some ⟨g5, 0, none⟩) 64 cap5] rfl rfl hnews (by simp [Value.oneCell']) (by rw [HPl.out.1]; unfold maxLen; omega) (by rw [HPl.out.1]; omega) (by omega) ?_
            intro v' w8 hown8 hgrow _
            obtain ⟨vo, vl, vc, rfl⟩ := row_slice hown8
            have hO6 : OwnB w5 (w.heap.size + 1) 5 (.slice (some ⟨g5, 0, none⟩) 64 cap5) ys := HO5.out.base (fun g' hg' => by have := (HO5.out.lt g' hg').1; have := HD4.out.chg.size; have := (Array.getElem?_eq_some_iff.1 HD4.out.res).1; omega)
            have hg5 := (HO5.out.lt g5 rfl).1
            obtain ⟨hS8, e1, ef1⟩ := HD5.out.snoc (q := q) hB5 hO5 hP5 hA5 hO6 (fun i g' hi hg' e => by have := hfr i g' hi hg'; have e2 : g5 = g' := (by simpa [Value.ownBlock] using e); omega) (fun j hj e => by cases hj; cases e; omega) _ hown8 hgrow
            have HD9 : Hid (DrS w (w8.setCell ⟨B, 1, none⟩ (.slice vo vl vc)) p cv sz (at' + 1 + k * 6 + 3 + j * 6 + 1 + 5) B (.slice (some ⟨g, 0, none⟩) (k * 64) gcap) dur (ps ++ [(q, ys)])) := hS8
            have HP9 : Hid ((ps ++ [(q, ys)]).length = j + 1 ∧ P64 (ps ++ [(q, ys)])) := ⟨by rw [List.length_append, HPl.out.1]; rfl, HPl.out.2.snoc q HYl.out⟩
            have HS8 : Hid (w8.cell? ⟨B, 1, none⟩ = some (.slice po pl pc)) := e1
            refine ⟨fun _ => HS8.out, ?_⟩
            clear hS8 hown8 hgrow hO6 hnews B6 P6 hB5 hO5 hP5 hA5 s6 hfr hgr HT5
            go_simp
            refine weak_one 10 rfl rfl (by kernel_rfl) ?_
            go_simp
            refine weak_one 11 rfl rfl (by kernel_rfl) ?_
            go_simp
            refine weak_done (by kernel_rfl) (NoPanic.normal ?_)
            go_wp2
            go_roundw
            case rel => exact ⟨j + 1, by omega, by go_num, _, HP9.out.1, HP9.out.2, HD9.out.step (Chg.refl _ _ _) (by obtain ⟨a, ha, h'⟩ := HD9.out.src; exact ⟨a, by omega, h'⟩)⟩
            case measure => simp [intOf]; omega
          · obtain rfl : j = m := by omega
            have HPl : Hid (ps.length = j ∧ P64 ps) := ⟨hpl, hp64⟩
            have HD : Hid (DrS w wr p cv sz (at' + 1 + k * 6 + 3 + j * 6) B (.slice (some ⟨g, 0, none⟩) (k * 64) gcap) dur ps) := hD
            obtain ⟨pv, cells, dvs, hB0, hO0, hP0, hA0⟩ := hD.told
            have HT : Hid (OwnB wr (w.heap.size + 1) 5 (.slice (some ⟨g, 0, none⟩) (k * 64) gcap) dur ∧ OwnPx wr (w.heap.size + 1) 55 5 pv ps cells dvs) := ⟨hO0, hP0⟩
            obtain ⟨po, pl, pc, rfl⟩ := row_slice hP0.row
            obtain rfl : pl = j := by
              rcases hP0.row.2 with ⟨e, h0⟩ | ⟨_, _, _, e, _⟩
              · simp only [Value.slice.injEq] at e; omega
              · simp only [Value.slice.injEq] at e; omega
            have HB0 : Hid (wr.heap[B]? = some (.cells #[.slice (some ⟨g, 0, none⟩) (k * 64) gcap, .slice po pl pc] 29 (0, 0))) := hB0
            obtain ⟨b0, b1, bf0, bf1⟩ := two_cells hB0
            obtain ⟨r0, r1, rf0, rf1⟩ := two_cells hD.res
            have hlow := hD.low
            have hijn : ¬ (pl : Int) < (pl : Int) := by omega
            have HA0 : Hid (∀ i j, i < ps.length → (Value.slice (some ⟨g, 0, none⟩) (k * 64) gcap).ownBlock = some j → (dvs i).ownBlock ≠ some j) := hA0
            clear hB0 hO0 hP0 hA0 hpl hp64 hD hlt
            by_cases hk1 : kk = 1
            · subst hk1
              obtain ⟨ti, hti, hz0, hz1, hz2⟩ := info_parts Try.infoU5
              have hge : w.heap.size + 1 ≤ wr.heap.size := (Array.getElem?_eq_some_iff.1 HD.out.res).1
              have C4 : Chg 0 0 wr (wr.alloc (.cells #[.int .u8 0] 5)) := Chg.alloc (Chg.refl 0 0 wr) _
              have hB4 := (C4.block B (Array.getElem?_eq_some_iff.1 HB0.out).1 (by omega)).trans HB0.out
              have hR4 := (C4.block w.heap.size (Array.getElem?_eq_some_iff.1 HD.out.res).1 (by omega)).trans HD.out.res
              have hO4 := HT.out.1.chg C4 (by intro g' _; omega)
              have hP4 := HT.out.2.chg C4 (by intro g' _; omega) (by intro i g' _ _; omega)
              have HO2 : Hid ((wr.alloc (.cells #[.int .u8 0] 5)).ownsRow (w.heap.size + 1) 5 1 (.slice (some ⟨g, 0, none⟩) (k * 64) gcap) (k * 64) (dur.map (Value.int .u8))) := by
                have := hO4; unfold OwnB at this; rw [HDl.out] at this; exact this
              have HNW : Hid (∀ j u, [Value.int .u8 0][j]? = some u → (wr.alloc (.cells #[.int .u8 0] 5)).cell? ((⟨wr.heap.size, 0, none⟩ : Addr).add j) = some u) := by
                intro j u hj
                have hj0 : j = 0 := by have := (List.getElem?_eq_some_iff.1 hj).1; simp at this; exact this
                subst hj0
                simp at hj
                subst hj
                simp [Addr.add]
              have bs : Hid (w.heap.size + 1 ≤ (wr.alloc (.cells #[.int .u8 0] 5)).heap.size) := by show _ ≤ _; simp; omega
              have HB4 : Hid ((wr.alloc (.cells #[.int .u8 0] 5)).heap[B]? = some (.cells #[.slice (some ⟨g, 0, none⟩) (k * 64) gcap, .slice po pl pc] 29 (0, 0))) := hB4
              have HR4 : Hid ((wr.alloc (.cells #[.int .u8 0] 5)).heap[w.heap.size]? = some (.cells #[.slice none 0 0, .slice none 0 0] 29 (0, 0))) := hR4
              have HP4 : Hid (OwnPx (wr.alloc (.cells #[.int .u8 0] 5)) (w.heap.size + 1) 55 5 (.slice po pl pc) ps cells dvs) := hP4
              have HO4 : Hid (OwnB (wr.alloc (.cells #[.int .u8 0] 5)) (w.heap.size + 1) 5 (.slice (some ⟨g, 0, none⟩) (k * 64) gcap) dur) := hO4
              have HC4 : Hid (Chg 0 0 wr (wr.alloc (.cells #[.int .u8 0] 5))) := C4
              clear C4 hB4 hR4 hO4 hP4
              go_wp2_with (at_builtin; refine wpList_append_own _ rfl (.tmp 61) (.tmp 62) 22 rfl (w.heap.size + 1) 5 ti (.int .u8 0) 1 1 Try.underlying22 hti hz0 hz1 hz2 rfl (by decide) _ (k * 64) (dur.map (Value.int .u8)) rfl HO2.out ⟨wr.heap.size, 0, none⟩ 1 1 [.int .u8 0] rfl rfl HNW.out (by simp [Value.oneCell']) (by unfold maxLen; omega) (by omega) bs.out ?_)
              intro v' w8 hown hgrow hnn'
              have C8 : Chg g (g + 1) (wr.alloc (.cells #[.int .u8 0] 5)) w8 := Chg.ofGrown hgrow (fun k' hk' _ => by have e : g = k' := (by simpa [Value.ownBlock] using hk'); omega)
              obtain ⟨cur, hcur⟩ := HO4.out.elem (g := g) rfl
              have gb4 := (HO4.out.lt g rfl).1
              have hgB : g ≠ B := fun e => by subst e; exact cells_ne hcur HB4.out (by decide) rfl
              obtain ⟨vo, vl, vc, rfl⟩ := row_slice hown
              have HO8 : Hid (OwnB w8 (w.heap.size + 1) 5 (.slice vo vl vc) (dur ++ [0])) := by
                show OwnB _ _ _ _ _
                unfold OwnB
                rw [List.length_append, HDl.out, List.map_append]
                exact hown
              have HB8 : Hid (w8.heap[B]? = some (.cells #[.slice (some ⟨g, 0, none⟩) (k * 64) gcap, .slice po pl pc] 29 (0, 0))) := (C8.block B (Array.getElem?_eq_some_iff.1 HB4.out).1 (by omega)).trans HB4.out
              have HR8 : Hid (w8.heap[w.heap.size]? = some (.cells #[.slice none 0 0, .slice none 0 0] 29 (0, 0))) := (C8.block w.heap.size (Array.getElem?_eq_some_iff.1 HR4.out).1 (by omega)).trans HR4.out
              have HP8 : Hid (OwnPx w8 (w.heap.size + 1) 55 5 (.slice po pl pc) ps cells dvs) := HP4.out.chg C8 (fun g' hg' => by
                  obtain ⟨cur', hcur'⟩ := row_elem' HP4.out.row hg'
                  have : g' ≠ g := fun e => by subst e; exact cells_ne hcur' hcur (by decide) rfl
                  omega) (fun i g' hi hg' => by
                  have : g' ≠ g := fun e => by subst e; exact HA0.out i g' hi rfl hg'
                  omega)
              have HC8 : Hid (Chg g (g + 1) (wr.alloc (.cells #[.int .u8 0] 5)) w8) := C8
              obtain ⟨t0, t1⟩ := two_set (nv := .slice vo vl vc) HB8.out HR8.out (by omega)
              obtain ⟨b0, b1, bf0, bf1⟩ := two_cells t0
              obtain ⟨r0, r1, rf0, rf1⟩ := two_cells t1
              obtain ⟨d0, d1, df0, df1⟩ := two_cells HB8.out
              clear t0 t1 C8 hown hgrow hnn' hcur HNW HO2 bs
              go_wp2
              refine bodyPost_ret (v := .agg #[.slice vo vl vc, .slice po pl pc]) (by simp [results, Try.results61, go_sem, r0, r1]) rfl ?_
              obtain ⟨a, ha, hsrc⟩ := HD.out.src
              exact fin_dur (at' := at') hlow HB8.out HO8.out HP8.out ((hsrc.chg HC4.out (by omega)).chg HC8.out (by omega)) (by omega) ((HD.out.chg.step HC4.out (by omega)).step HC8.out (by omega)) hps (by rw [List.length_append, HDl.out]; simp; omega) (by rw [HPl.out.1]; omega) HPl.out.2
            by_cases hk2 : kk = 2
            · subst hk2
              clear hk1
              by_cases hj0 : pl = 0
              · subst hj0
                go_wp2
                refine bodyPost_ret (v := .agg #[.slice (some ⟨g, 0, none⟩) (k * 64) gcap, .slice po 0 pc]) (by simp [results, Try.results61, go_sem, r0, r1]) rfl ?_
                obtain ⟨a, ha, hsrc⟩ := HD.out.src
                exact fin_disk (at' := at') hsrc (by omega) HD.out.chg hps (HT.out.1.vw (by rw [HDl.out]; omega)) (HT.out.2.vw (by rw [HPl.out.1]; omega) HPl.out.2.le) ⟨by show dur.length ≤ _; rw [HDl.out]; omega, by show ps.length ≤ _; rw [HPl.out.1]; omega, HPl.out.2.le⟩
              · have hjp : (pl : Int) > 0 := by omega
                obtain ⟨pb, pcap, epv⟩ := HT.out.2.slice_of (by rw [HPl.out.1]; omega)
                rw [HPl.out.1] at epv
                simp only [Value.slice.injEq, true_and] at epv
                obtain ⟨rfl, rfl⟩ := epv
                have hP := HT.out.2
                have hrow := hP.row
                rw [HPl.out.1] at hrow
                have pbb := World.ownsRow.lt hrow pb rfl
                obtain ⟨cur, hcur⟩ := hP.row_elem
                have hpB : pb ≠ B := fun e => by subst e; exact cells_ne hcur HB0.out (by decide) rfl
                obtain ⟨jj, hjj⟩ : ∃ jj, pl = jj + 1 := ⟨pl - 1, by omega⟩
                have HJ : Hid (pl = jj + 1) := hjj
                have ej : (pl : Int) - 1 = (jj : Int) := by omega
                have ejl : (jj : Int) < (pl : Int) := by omega
                have cu : ∃ u, wr.cell? ⟨pb, jj * 2, none⟩ = some u := by
                  rw [World.ownsRow.cellAt hrow (jj * 2) (by omega)]
                  exact ⟨_, List.getElem?_eq_getElem (by rw [hrow.1]; omega)⟩
                obtain ⟨u, cu⟩ := cu
                have fu := World.ownsRow.frozenAt hrow (jj * 2)
                have C9 : Chg pb (pb + 1) wr (wr.setCell ⟨pb, jj * 2, none⟩ (.int .i64 k)) := Chg.setCell (p := ⟨pb, jj * 2, none⟩) (Chg.refl _ _ _) (Or.inl ⟨Nat.le_refl _, Nat.lt_succ_self _⟩) _
                have HC9 : Hid (Chg pb (pb + 1) wr (wr.setCell ⟨pb, jj * 2, none⟩ (.int .i64 k))) := C9
                have b9 := (C9.block B (Array.getElem?_eq_some_iff.1 HB0.out).1 (by omega)).trans HB0.out
                have r9 := (C9.block w.heap.size (Array.getElem?_eq_some_iff.1 HD.out.res).1 (by omega)).trans HD.out.res
                have HP9 : Hid _ := hP.setBlk HPl.out.1 (k := jj) (by omega) (by decide) (k : Int)
                have HO9 : Hid (OwnB (wr.setCell ⟨pb, jj * 2, none⟩ (.int .i64 k)) (w.heap.size + 1) 5 (.slice (some ⟨g, 0, none⟩) (k * 64) gcap) dur) := HT.out.1.set (p := ⟨pb, jj * 2, none⟩) (HT.out.1.ne_row hcur (by decide)) _
                obtain ⟨c0, c1, cf0, cf1⟩ := two_cells b9
                obtain ⟨s0', s1', sf0, sf1⟩ := two_cells r9
                clear hP hrow hcur b9 r9 C9 hjj hj0
                go_wp2
                refine bodyPost_ret (v := .agg #[.slice (some ⟨g, 0, none⟩) (k * 64) gcap, .slice (some ⟨pb, 0, none⟩) pl pc]) (by simp [results, Try.results61, go_sem, s0', s1']) rfl ?_
                obtain ⟨a, ha, hsrc⟩ := HD.out.src
                exact fin_disk (at' := at') (hsrc.chg HC9.out (by omega)) (by omega) (HD.out.chg.step HC9.out (by omega)) hps (HO9.out.vw (by rw [HDl.out]; omega)) (HP9.out.vw (by rw [List.length_set, HPl.out.1]; omega) (HPl.out.2.setBlk _ _).le) ⟨by show dur.length ≤ _; rw [HDl.out]; omega, by show (ps.set _ _).length ≤ _; rw [List.length_set, HPl.out.1]; omega, (HPl.out.2.setBlk _ _).le⟩
            by_cases hk3 : kk = 3
            · subst hk3
              clear hk1 hk2
              by_cases hj0 : pl = 0
              · subst hj0
                go_wp2
                refine bodyPost_ret (v := .agg #[.slice (some ⟨g, 0, none⟩) (k * 64) gcap, .slice po 0 pc]) (by simp [results, Try.results61, go_sem, r0, r1]) rfl ?_
                obtain ⟨a, ha, hsrc⟩ := HD.out.src
                exact fin_disk (at' := at') hsrc (by omega) HD.out.chg hps (HT.out.1.vw (by rw [HDl.out]; omega)) (HT.out.2.vw (by rw [HPl.out.1]; omega) HPl.out.2.le) ⟨by show dur.length ≤ _; rw [HDl.out]; omega, by show ps.length ≤ _; rw [HPl.out.1]; omega, HPl.out.2.le⟩
              · have hjp : (pl : Int) > 0 := by omega
                obtain ⟨pb, pcap, epv⟩ := HT.out.2.slice_of (by rw [HPl.out.1]; omega)
                rw [HPl.out.1] at epv
                simp only [Value.slice.injEq, true_and] at epv
                obtain ⟨rfl, rfl⟩ := epv
                have hP := HT.out.2
                have hrow := hP.row
                rw [HPl.out.1] at hrow
                have pbb := World.ownsRow.lt hrow pb rfl
                obtain ⟨cur, hcur⟩ := hP.row_elem
                have hpB : pb ≠ B := fun e => by subst e; exact cells_ne hcur HB0.out (by decide) rfl
                have h640 := HPl.out.2 0 (by rw [HPl.out.1]; omega)
                obtain ⟨g0, c0, ed0⟩ := (hP.data 0 (by rw [HPl.out.1]; omega)).slice_of (by rw [h640]; omega)
                rw [h640] at ed0
                have hc64 : 64 ≤ c0 := by
                  obtain ⟨ao, cp, ev, _, ⟨hc1, _⟩, _⟩ := (hP.data 0 (by rw [HPl.out.1]; omega)).vw (by omega)
                  rw [ed0] at ev
                  simp only [Value.slice.injEq] at ev
                  omega
                have cu : wr.cell? ⟨pb, 1, none⟩ = some (.slice (some ⟨g0, 0, none⟩) 64 c0) := by
                  rw [World.ownsRow.cellAt hrow 1 (by omega), ← ed0]
                  exact hP.at1 0 (by rw [HPl.out.1]; omega)
                have fu := World.ownsRow.frozenAt hrow 1
                have hc1 : ¬ c0 = 1 := by omega
                have C9 : Chg pb (pb + 1) wr (wr.setCell ⟨pb, 1, none⟩ (.slice (some ⟨g0, 1, none⟩) 63 (c0 - 1))) := Chg.setCell (p := ⟨pb, 1, none⟩) (Chg.refl _ _ _) (Or.inl ⟨Nat.le_refl _, Nat.lt_succ_self _⟩) _
                have HC9 : Hid (Chg pb (pb + 1) wr (wr.setCell ⟨pb, 1, none⟩ (.slice (some ⟨g0, 1, none⟩) 63 (c0 - 1)))) := C9
                have b9 := (C9.block B (Array.getElem?_eq_some_iff.1 HB0.out).1 (by omega)).trans HB0.out
                have r9 := (C9.block w.heap.size (Array.getElem?_eq_some_iff.1 HD.out.res).1 (by omega)).trans HD.out.res
                have HP9 : Hid _ := hP.cut0 HPl.out.1 (by omega) (by omega) (by decide) HPl.out.2 ed0
                have HO9 : Hid (OwnB (wr.setCell ⟨pb, 1, none⟩ (.slice (some ⟨g0, 1, none⟩) 63 (c0 - 1))) (w.heap.size + 1) 5 (.slice (some ⟨g, 0, none⟩) (k * 64) gcap) dur) := HT.out.1.set (p := ⟨pb, 1, none⟩) (HT.out.1.ne_row hcur (by decide)) _
                have HS : Hid ((fun w' : World => w'.cell? ⟨B, 1, none⟩ = some (.slice (some ⟨pb, 0, none⟩) pl pc) ∧ w'.cell? ⟨pb, 1, none⟩ = some (.slice (some ⟨g0, 0, none⟩) 64 c0)) wr.drew) := ⟨b1, cu⟩
                obtain ⟨x0, x1, xf0, xf1⟩ := two_cells b9
                obtain ⟨s0', s1', sf0, sf1⟩ := two_cells r9
                have fud : wr.drew.frozen? ⟨pb, 1, none⟩ = false := fu
                have cud : wr.drew.cell? ⟨pb, 1, none⟩ = some (.slice (some ⟨g0, 0, none⟩) 64 c0) := cu
                have hsz63 : Hid (Small ⟨dur, ps.set 0 ((ps.getD 0 (0, [])).1, (ps.getD 0 (0, [])).2.drop 1)⟩) := by
                  refine ⟨by show dur.length ≤ _; rw [HDl.out]; omega, by show (ps.set _ _).length ≤ _; rw [List.length_set, HPl.out.1]; omega, fun i hi => ?_⟩
                  have hi' : i < ps.length := by simpa using hi
                  show ((ps.set 0 ((ps.getD 0 (0, [])).1, (ps.getD 0 (0, [])).2.drop 1)).getD i (0, [])).2.length ≤ 64
                  by_cases e : i = 0
                  · subst e
                    have e0 : (ps.set 0 ((ps.getD 0 (0, [])).1, (ps.getD 0 (0, [])).2.drop 1)).getD 0 (0, []) = ((ps.getD 0 (0, [])).1, (ps.getD 0 (0, [])).2.drop 1) := by simp [List.getD_eq_getElem?_getD, hi']
                    rw [e0, List.length_drop, h640]; omega
                  · have ei : (ps.set 0 ((ps.getD 0 (0, [])).1, (ps.getD 0 (0, [])).2.drop 1)).getD i (0, []) = ps.getD i (0, []) := by
                      simp only [List.getD_eq_getElem?_getD, List.getElem?_set_ne (fun h => e h.symm)]
                    rw [ei]; exact HPl.out.2.le i hi'
                clear hP hrow hcur b9 r9 C9 hj0 h640 ed0
                go_wp2
                refine weak_region 10 (fun w' : World => w'.cell? ⟨B, 1, none⟩ = some (.slice (some ⟨pb, 0, none⟩) pl pc) ∧ w'.cell? ⟨pb, 1, none⟩ = some (.slice (some ⟨g0, 0, none⟩) 64 c0)) (by kernel_rfl) ?_
                refine weak_take 0 (.pointer (some ⟨B, 1, none⟩)) rfl (by kernel_rfl) (by kernel_rfl) (by kernel_rfl) (by kernel_rfl) (fun _ _ _ h => h) (.inl ⟨by kernel_rfl, fun w' hw' => by go_simp⟩) HS.out ?_
                go_simp
                refine weak_take 1 (.slice (some ⟨pb, 0, none⟩) pl pc) rfl (by kernel_rfl) (by kernel_rfl) (by kernel_rfl) (by kernel_rfl) (fun _ _ _ h => h) (.inl ⟨by kernel_rfl, fun w' hw' => by have h4 := hw'.1; go_simp⟩) HS.out ?_
                go_simp
                refine weak_take 2 (.pointer (some ⟨B, 1, none⟩)) rfl (by kernel_rfl) (by kernel_rfl) (by kernel_rfl) (by kernel_rfl) (fun _ _ _ h => h) (.inl ⟨by kernel_rfl, fun w' hw' => by go_simp⟩) HS.out ?_
                go_simp
                refine weak_take 3 (.slice (some ⟨pb, 0, none⟩) pl pc) rfl (by kernel_rfl) (by kernel_rfl) (by kernel_rfl) (by kernel_rfl) (fun _ _ _ h => h) (.inl ⟨by kernel_rfl, fun w' hw' => by have h4 := hw'.1; go_simp⟩) HS.out ?_
                go_simp
                refine weak_take 4 (.pointer (some ⟨pb, 0, none⟩)) rfl (by kernel_rfl) (by kernel_rfl) (by kernel_rfl) (by kernel_rfl) (fun _ _ _ h => h) (.inl ⟨by kernel_rfl, fun w' hw' => by go_simp⟩) HS.out ?_
                go_simp
                refine weak_take 5 (.pointer (some ⟨pb, 1, none⟩)) rfl (by kernel_rfl) (by kernel_rfl) (by kernel_rfl) (by kernel_rfl) (fun _ _ _ h => h) (.inl ⟨by kernel_rfl, fun w' hw' => by go_simp⟩) HS.out ?_
                go_simp
                refine weak_take 6 (.slice (some ⟨g0, 0, none⟩) 64 c0) rfl (by kernel_rfl) (by kernel_rfl) (by kernel_rfl) (by kernel_rfl) (fun _ _ _ h => h) (.inl ⟨by kernel_rfl, fun w' hw' => by have h4 := hw'.2; go_simp⟩) HS.out ?_
                go_simp
                refine weak_take 7 (.slice (some ⟨g0, 1, none⟩) 63 (c0 - 1)) rfl (by kernel_rfl) (by kernel_rfl) (by kernel_rfl) (by kernel_rfl) (fun _ _ _ h => h) (.inl ⟨by kernel_rfl, fun w' hw' => by go_simp⟩) HS.out ?_
                go_simp
                refine weak_one 8 rfl rfl (by kernel_rfl) ?_
                go_simp
                refine weak_one 9 rfl rfl (by kernel_rfl) ?_
                go_simp
                refine weak_one 10 rfl rfl (by kernel_rfl) ?_
                go_simp
                refine weak_done (by kernel_rfl) (NoPanic.normal ?_)
                go_wp2
                refine bodyPost_ret (v := .agg #[.slice (some ⟨g, 0, none⟩) (k * 64) gcap, .slice (some ⟨pb, 0, none⟩) pl pc]) (by simp [results, Try.results61, go_sem, s0', s1']) rfl ?_
                obtain ⟨a, ha, hsrc⟩ := HD.out.src
                have hz : (wr.setCell ⟨pb, 1, none⟩ (.slice (some ⟨g0, 1, none⟩) 63 (c0 - 1))).heap.size = wr.heap.size := by simp
                exact DrawnD.drew (fin_disk (at' := at') (hsrc.chg HC9.out (by omega)) (by omega) (HD.out.chg.step HC9.out (by omega)) hps (HO9.out.vw (by rw [HDl.out]; omega)) (by rw [hz]; exact HP9.out) hsz63.out)
            by_cases hk4 : kk = 4
            · subst hk4
              clear hk1 hk2 hk3
              have C4 : Chg 0 0 wr (wr.alloc (.cells #[] 5)) := Chg.alloc (Chg.refl 0 0 wr) _
              have HB4 : Hid ((wr.alloc (.cells #[] 5)).heap[B]? = some (.cells #[.slice (some ⟨g, 0, none⟩) (k * 64) gcap, .slice po pl pc] 29 (0, 0))) := (C4.block B (Array.getElem?_eq_some_iff.1 HB0.out).1 (by omega)).trans HB0.out
              have HR4 : Hid ((wr.alloc (.cells #[] 5)).heap[w.heap.size]? = some (.cells #[.slice none 0 0, .slice none 0 0] 29 (0, 0))) := (C4.block w.heap.size (Array.getElem?_eq_some_iff.1 HD.out.res).1 (by omega)).trans HD.out.res
              have HO4 : Hid (OwnB (wr.alloc (.cells #[] 5)) (w.heap.size + 1) 5 (.slice (some ⟨wr.heap.size, 0, none⟩) 0 0) []) := by
                show OwnB _ _ _ _ _
                have hge : w.heap.size + 1 ≤ wr.heap.size := (Array.getElem?_eq_some_iff.1 HD.out.res).1
                have := World.ownsRow_lit (base := w.heap.size + 1) (e := 5) (size := 1) wr #[] 0 hge (by unfold maxLen; omega) rfl
                simpa [OwnB] using this
              obtain ⟨t0, t1⟩ := two_set (nv := .slice (some ⟨wr.heap.size, 0, none⟩) 0 0) HB4.out HR4.out (by omega)
              obtain ⟨b0, b1, bf0, bf1⟩ := two_cells t0
              obtain ⟨r0, r1, rf0, rf1⟩ := two_cells t1
              obtain ⟨d0, d1, df0, df1⟩ := two_cells HB4.out
              have HC4 : Hid (Chg 0 0 wr (wr.alloc (.cells #[] 5))) := C4
              clear t0 t1 C4
              go_wp2
              refine bodyPost_ret (v := .agg #[.slice (some ⟨wr.heap.size, 0, none⟩) 0 0, .slice po pl pc]) (by simp [results, Try.results61, go_sem, r0, r1]) rfl ?_
              obtain ⟨a, ha, hsrc⟩ := HD.out.src
              exact fin_dur (at' := at') hlow HB4.out HO4.out (HT.out.2.chg HC4.out (by intro g' _; omega) (by intro i g' _ _; omega)) (hsrc.chg HC4.out (by omega)) (by omega) (HD.out.chg.step HC4.out (by omega)) hps (by simp) (by rw [HPl.out.1]; omega) HPl.out.2
            by_cases hk5 : kk = 5
            · subst hk5
              clear hk1 hk2 hk3 hk4
              have hN := HD.out.next HK.out (by omega) 2 (by omega)
              go_wp2_with fail
              refine hN.mono ?_
              rintro e w5 ⟨x5, rfl, hx0, hx1, hD5, hc5⟩
              clear hN
              obtain ⟨q5, rfl⟩ := Int.eq_ofNat_of_zero_le hx0
              have hq5 : q5 < 2 := by have := hx1 (by omega); omega
              have HD5 : Hid (DrS w w5 p cv sz (at' + 1 + k * 6 + 3 + pl * 6 + 1) B (.slice (some ⟨g, 0, none⟩) (k * 64) gcap) dur ps) := hD5
              have hge5 : w.heap.size + 1 ≤ w5.heap.size := (Array.getElem?_eq_some_iff.1 hD5.res).1
              have HB5 : Hid (w5.heap[B]? = some (.cells #[.slice (some ⟨g, 0, none⟩) (k * 64) gcap, .slice po pl pc] 29 (0, 0))) := (hc5.block B (Array.getElem?_eq_some_iff.1 HB0.out).1 (by omega)).trans HB0.out
              have HP5 : Hid (OwnPx w5 (w.heap.size + 1) 55 5 (.slice po pl pc) ps cells dvs) := HT.out.2.chg hc5 (fun g' hg' => by have := (World.ownsRow.lt HT.out.2.row g' hg').1; omega) (fun i g' hi hg' => by have := ((HT.out.2.data i hi).lt g' hg').1; omega)
              clear hx0 hx1 hD5 hc5 b0 b1 bf0 bf1 r0 r1 rf0 rf1
              obtain ⟨ti, hti, hz0, hz1, hz2⟩ := info_parts Try.infoU5
              go_wp2_with (at_make; refine wpList_make_full _ rfl _ _ 22 rfl (w.heap.size + 1) 5 ti (.int .u8 0) 1 Try.underlying22 hti hz0 hz1 _ _ _ _ ((2048 + q5) * 64) rfl rfl (by omega) (by omega) (by rw [hz2]; omega) (by unfold maxLen; omega) (by omega) ?_)
              intro w6 hown hgrow
              have C6 : Chg 0 0 w5 w6 := Chg.ofGrown hgrow (by simp)
              have HO6 : Hid (OwnB w6 (w.heap.size + 1) 5 (.slice (some ⟨w5.heap.size, 0, none⟩) ((2048 + q5) * 64) ((2048 + q5) * 64)) (List.replicate ((2048 + q5) * 64) 0)) := by
                show OwnB _ _ _ _ _
                have := hown
                unfold OwnB
                simpa [toList_madeCells_one] using this
              have HB6 : Hid (w6.heap[B]? = some (.cells #[.slice (some ⟨g, 0, none⟩) (k * 64) gcap, .slice po pl pc] 29 (0, 0))) := (C6.block B (Array.getElem?_eq_some_iff.1 HB5.out).1 (by omega)).trans HB5.out
              have HR6 : Hid (w6.heap[w.heap.size]? = some (.cells #[.slice none 0 0, .slice none 0 0] 29 (0, 0))) := (C6.block w.heap.size (by omega) (by omega)).trans HD5.out.res
              have HC6 : Hid (Chg 0 0 w5 w6) := C6
              obtain ⟨t0, t1⟩ := two_set (nv := .slice (some ⟨w5.heap.size, 0, none⟩) ((2048 + q5) * 64) ((2048 + q5) * 64)) HB6.out HR6.out (by omega)
              obtain ⟨b0, b1, bf0, bf1⟩ := two_cells t0
              obtain ⟨r0, r1, rf0, rf1⟩ := two_cells t1
              obtain ⟨d0, d1, df0, df1⟩ := two_cells HB6.out
              clear t0 t1 C6 hown hgrow
              go_wp2
              refine bodyPost_ret (v := .agg #[.slice (some ⟨w5.heap.size, 0, none⟩) ((2048 + q5) * 64) ((2048 + q5) * 64), .slice po pl pc]) (by simp [results, Try.results61, go_sem, r0, r1]) rfl ?_
              obtain ⟨a, ha, hsrc⟩ := HD5.out.src
              exact fin_dur (at' := at') hlow HB6.out HO6.out (HP5.out.chg HC6.out (by intro g' _; omega) (by intro i g' _ _; omega)) (hsrc.chg HC6.out (by omega)) (by omega) (HD5.out.chg.step HC6.out (by omega)) hps (by rw [List.length_replicate]; omega) (by rw [HPl.out.1]; omega) HPl.out.2
            have e1 : ((kk : Int) == 1) = false := by simp only [beq_eq_false_iff_ne, ne_eq]; omega
            have e2 : ((kk : Int) == 2) = false := by simp only [beq_eq_false_iff_ne, ne_eq]; omega
            have e3 : ((kk : Int) == 3) = false := by simp only [beq_eq_false_iff_ne, ne_eq]; omega
            have e4 : ((kk : Int) == 4) = false := by simp only [beq_eq_false_iff_ne, ne_eq]; omega
            have e5 : ((kk : Int) == 5) = false := by simp only [beq_eq_false_iff_ne, ne_eq]; omega
            clear hk1 hk2 hk3 hk4 hk5
            go_wp2
            refine bodyPost_ret (v := .agg #[.slice (some ⟨g, 0, none⟩) (k * 64) gcap, .slice po pl pc]) (by simp [results, Try.results61, go_sem, r0, r1]) rfl ?_
            obtain ⟨a, ha, hsrc⟩ := HD.out.src
            exact fin_disk (at' := at') hsrc (by omega) HD.out.chg hps (HT.out.1.vw (by rw [HDl.out]; omega)) (HT.out.2.vw (by rw [HPl.out.1]; omega) HPl.out.2.le) ⟨by show dur.length ≤ _; rw [HDl.out]; omega, by show ps.length ≤ _; rw [HPl.out.1]; omega, HPl.out.2.le⟩

end Go.Proofs.Ytplfehjaakkldaa
