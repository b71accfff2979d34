/- Escape of the program. -/
import Derived.Test.YtihiaodadbndaaaDoorEsc
import Derived.Test.YtihiaodadbndaaaDoorImplUnesc
namespace Go.Proofs.YtihiaodadbndaaaDoor
open Go.RowKit

/-- What Escape answers. -/
def escD (xs : List Int) : List Int := if xs.length = 64 then escL xs else []
def escG (xs : List Int) : Bool := decide (xs.length = 64)
def escE (xs : List Int) : Bool := decide (xs.length = 64) && decide (xs.take 4 = mg)

theorem escD_length (xs : List Int) : (escD xs).length ≤ 64 := by
  unfold escD
  split
  · rename_i h; rw [escL_length h]; exact Nat.le_refl _
  · simp

theorem three_all' {w : World} {s : Nat} {a b c : Value} {t : TypeId} (h : w.heap[s]? = some (.cells #[a, b, c] t (0, 0))) :
    (w.cell? ⟨s, 0, none⟩ = some a ∧ w.cell? ⟨s, 1, none⟩ = some b ∧ w.cell? ⟨s, 2, none⟩ = some c) ∧ w.frozen? ⟨s, 0, none⟩ = false ∧ w.frozen? ⟨s, 1, none⟩ = false ∧ w.frozen? ⟨s, 2, none⟩ = false := by
  simp [World.cell?, World.frozen?, h]

set_option maxRecDepth 20000 in
set_option maxHeartbeats 4000000 in
theorem implEscape_calls (w : World) {lo hi : Nat} {a : Value} {xs : List Int} {aL aM aK : Addr} (h1 : View w lo hi .u8 a xs) (hB : Byt xs) (hG : GlobA w aL aM aK) :
    Calls Tryd.prog 5 #[a] w fun e w' => ∃ v, e = .returned (.agg #[.bool (escG xs), v, .bool (escE xs)]) ∧ OwnB w' w.heap.size 5 v (escD xs) ∧ Chg 0 0 w w' := by
  have C0 : Chg 0 0 w (w.alloc (.cells #[.bool false, .slice none 0 0, .bool false] 25)) := Chg.alloc (Chg.refl 0 0 w) _
  have R0 := heap_new w (.cells #[.bool false, .slice none 0 0, .bool false] 25)
  have s0 : (w.alloc (.cells #[.bool false, .slice none 0 0, .bool false] 25)).heap.size = w.heap.size + 1 := by simp
  have HR0 : Hid ((w.alloc (.cells #[.bool false, .slice none 0 0, .bool false] 25)).heap[w.heap.size]? = some (.cells #[.bool false, .slice none 0 0, .bool false] 25 (0, 0))) := R0
  have HC0 : Hid (Chg 0 0 w (w.alloc (.cells #[.bool false, .slice none 0 0, .bool false] 25))) := C0
  have h1' := h1.chg C0 (by omega)
  have hG' := hG.chg C0
  have hO : ∀ w : World, View w lo hi .u8 a xs → GlobA w aL aM aK → Calls Tryd.prog 12 #[a] w fun e w' => ∃ (L : List Value) (h0 h1 h2 h3 h4 h5 h6 : Int) (ev : Value), e = .returned (.tuple #[.agg L.toArray, .agg #[.int .u8 h0, .int .u8 h1, .int .u8 h2, .int .u8 h3, .int .i64 h4, .int .i64 h5, .int .i64 h6], ev]) ∧ L.length = 64 ∧ (∀ v ∈ L, v.oneCell' = true) ∧ Chg 0 0 w w' ∧
      ∃ b : Bool, (∀ w'', Chg 0 0 w' w'' → Calls Tryd.prog 13 #[ev, .iface 93 (.pointer (some aL))] w'' fun e w3 => e = .returned (.bool b) ∧ w3 = w'') ∧ ((b = true ∧ xs.length ≠ 64) ∨ (b = false ∧ xs.length = 64 ∧ L = xs.map (Value.int .u8))) := by
    intro w h1 hG
    have wrapN : ∀ (w' w'' : World) (ev : Value) (v : Addr), Chg 0 0 w w'' → Wraps w'' w.heap.size ev 93 (.pointer (some v)) → v ≠ aL → (∃ c t, w''.heap[v.block]? = some (.cells c t (0, 0))) → Calls Tryd.prog 13 #[ev, .iface 93 (.pointer (some aL))] w'' fun e w3 => e = .returned (.bool false) ∧ w3 = w'' := by
      rintro _ w'' ev v hc ⟨pb, k, _, rfl, hf⟩ hne ⟨c, t, hv⟩
      obtain ⟨c', t', hl⟩ := (hG.chg hc).rL
      exact is_wrap_other pb aL v c c' t t' w'' (by have : w''.heap[pb]? = _ := hf; simp [World.cell?, this]) hne hv hl
    by_cases hx : xs.length = 64
    · refine (openBlock_full w h1 hB hG.glob hx).mono ?_
      rintro e w' ⟨ev, rfl, hc, hr⟩
      refine ⟨_, _, _, _, _, _, _, _, ev, rfl, by simpa using hx, ints_oneCell _ _, hc, false, ?_, Or.inr ⟨rfl, hx, rfl⟩⟩
      intro w'' hc2
      rcases hr with ⟨_, hw⟩ | ⟨_, _, hw⟩ | ⟨_, _, he⟩
      · exact wrapN w' w'' ev aM (hc.trans hc2) (hw.chg hc2 (by omega)) hG.neM (hG.chg (hc.trans hc2)).rM
      · exact wrapN w' w'' ev aK (hc.trans hc2) (hw.chg hc2 (by omega)) hG.neK (hG.chg (hc.trans hc2)).rK
      · subst he; exact is_nil aL w''
    · refine (openBlock_short w h1 hG.glob hx).mono ?_
      rintro e w' ⟨ev, rfl, hw, hc⟩
      refine ⟨Z64, 0, 0, 0, 0, 0, 0, 0, ev, rfl, Z64_length, Z64_one, hc, true, ?_, Or.inl ⟨rfl, hx⟩⟩
      intro w'' hc2
      obtain ⟨pb, k, _, rfl, hf⟩ := hw.chg hc2 (by omega)
      exact is_wrap_same pb aL w'' (by have : w''.heap[pb]? = _ := hf; simp [World.cell?, this])
  have hO1 := hO _ h1' hG'
  obtain ⟨ao, cap, rfl, hl, _, _⟩ := h1
  have HG : Hid (GlobA w aL aM aK) := hG
  have HB : Hid (Byt xs) := hB
  clear hG hB hO h1' hG' C0 R0
  go_enter Tryd.func5, Tryd.ntmps5
  go_wp2_with fail
  generalize w.alloc (.cells #[.bool false, .slice none 0 0, .bool false] 25) = wq at *
  refine hO1.mono ?_
  rintro e w1 ⟨L, h0, h1, h2, h3, h4, h5, h6, ev, rfl, L1, L2, hc1, b, hI, hr⟩
  have sq := hc1.size
  have HL1 : Hid (L.length = 64) := L1
  have HL2 : Hid (∀ v ∈ L, v.oneCell' = true) := L2
  have hi44 : (Tryd.prog.info? 36).map (·.size) = some L.length := by rw [L1]; kernel_rfl
  have HC1 : Hid (Chg 0 0 wq w1) := hc1
  have HI : Hid (∀ w'', Chg 0 0 w1 w'' → Calls Tryd.prog 13 #[ev, .iface 93 (.pointer (some aL))] w'' fun e w3 => e = .returned (.bool b) ∧ w3 = w'') := hI
  clear hO1 L1 L2 hc1 hI
  go_upto_region 2 with (first
    | (refine wpList_store_row rfl 36 (.tmp 3) (.tmp 11) rfl rfl w1.heap.size rfl L Z64 36 rfl (by rw [← Z64_eq]; exact alloc_two _ _ _) (by rw [Z64_length]; exact HL1.out) hi44 HL2.out ?_; intro w2 hb2 hc2)
    | (refine wpList_store_row rfl 39 (.tmp 4) (.tmp 12) rfl rfl (w1.heap.size + 1) rfl [.int .u8 h0, .int .u8 h1, .int .u8 h2, .int .u8 h3, .int .i64 h4, .int .i64 h5, .int .i64 h6] z7 39 rfl ((hc2.block (w1.heap.size + 1) (by simp) (by omega)).trans (alloc_twoN _ _ _)) rfl (by kernel_rfl) (by simp [Value.oneCell']) ?_; intro w3 hb3 hc3))
  have s2 := hc2.size
  have s3 := hc3.size
  have hz : ∀ o1 o2 : Obj, ((w1.alloc o1).alloc o2).heap.size = w1.heap.size + 2 := fun o1 o2 => (alloc2 w1 o1 o2).1
  have C3 : Chg 0 0 w1 w3 := (((Chg.alloc (Chg.refl 0 0 w1) _).alloc _).step hc2 (by omega)).step hc3 (by omega)
  have Cq3 := HC1.out.trans C3
  have HC3 : Hid (Chg 0 0 w w3) := HC0.out.trans Cq3
  have HG3 : Hid (GlobA w3 aL aM aK) := HG.out.chg HC3.out
  have HR3 : Hid (w3.rangeAt w1.heap.size 0 L) := row_rng ((hc3.block w1.heap.size (Array.getElem?_eq_some_iff.1 hb2).1 (by omega)).trans hb2)
  have HQ3 : Hid (w3.heap[w.heap.size]? = some (.cells #[.bool false, .slice none 0 0, .bool false] 25 (0, 0))) := (Cq3.block w.heap.size (Array.getElem?_eq_some_iff.1 HR0.out).1 (by omega)).trans HR0.out
  have eL := HG3.out.glob.eL
  have hN := HI.out w3 C3
  clear hb2 hb3 hc2 hc3 C3 hz Cq3
  go_wp2_with fail
  refine hN.mono ?_
  rintro e w4 ⟨rfl, rfl⟩
  clear hN
  rcases hr with ⟨rfl, hx⟩ | ⟨rfl, hx, hLe⟩
  · have HD : Hid (escD xs = [] ∧ escG xs = false ∧ escE xs = false) := by
      refine ⟨by unfold escD; rw [if_neg hx], by unfold escG; rw [decide_eq_false hx], by unfold escE; rw [decide_eq_false hx]; rfl⟩
    obtain ⟨⟨r0, r1, r2⟩, rf0, rf1, rf2⟩ := three_all' HQ3.out
    clear hx
    have HCe : Hid (Chg 0 0 w (((w4.setCell ⟨w.heap.size, 0, none⟩ (.bool false)).setCell ⟨w.heap.size, 1, none⟩ (.slice none 0 0)).setCell ⟨w.heap.size, 2, none⟩ (.bool false))) := ((HC3.out.setCell (p := ⟨w.heap.size, 0, none⟩) (Or.inr (Nat.le_refl _)) _).setCell (p := ⟨w.heap.size, 1, none⟩) (Or.inr (Nat.le_refl _)) _).setCell (p := ⟨w.heap.size, 2, none⟩) (Or.inr (Nat.le_refl _)) _
    go_wp2
    rw [HD.out.2.1, HD.out.2.2, HD.out.1]
    exact bodyPost_ret (v := .agg #[.bool false, .slice none 0 0, .bool false]) (by simp [results, Tryd.results5, go_sem, r0, r1, r2]) rfl ⟨_, rfl, OwnB.nothing _ _ _, HCe.out⟩
  · have hN2 := escapeBlock_calls w4 xs hx HB.out HG3.out.glob
    rw [← hLe] at hN2
    have hul := escL_length hx
    have Hul : Hid ((escL xs).length = 64) := hul
    have Hx : Hid (xs.length = 64) := hx
    have u44 := Tryd.underlying36
    have HD : Hid (escD xs = escL xs ∧ escG xs = true ∧ escE xs = decide (xs.take 4 = mg)) := by
      refine ⟨by unfold escD; rw [if_pos hx], by unfold escG; rw [decide_eq_true hx], by unfold escE; rw [decide_eq_true hx]; rfl⟩
    clear hx hLe hul
    generalize escL xs = us at *
    generalize decide (xs.take 4 = mg) = bm at *
    go_wp2_with (refine wpList_load_mid rfl 36 (.tmp 3) rfl w1.heap.size 0 rfl L _ HR3.out u44 rfl hi44 ?_)
    refine hN2.mono ?_
    rintro e w5 ⟨rfl, hc5⟩
    have HC5 : Hid (Chg 0 0 w w5) := HC3.out.trans hc5
    have HQ5 : Hid (w5.heap[w.heap.size]? = some (.cells #[.bool false, .slice none 0 0, .bool false] 25 (0, 0))) := (hc5.block w.heap.size (Array.getElem?_eq_some_iff.1 HQ3.out).1 (by omega)).trans HQ3.out
    have s5 := hc5.size
    obtain ⟨vs, hvs⟩ : ∃ vs, vs = us.map (Value.int .u8) := ⟨_, rfl⟩
    have V1 : vs.length = 64 := by rw [hvs]; simpa using Hul.out
    have HV1 : Hid (vs.length = 64) := V1
    have HV2 : Hid (∀ v ∈ vs, v.oneCell' = true) := by show ∀ v ∈ vs, v.oneCell' = true; rw [hvs]; exact ints_oneCell _ _
    have hiv : (Tryd.prog.info? 36).map (·.size) = some vs.length := by rw [V1]; kernel_rfl
    have hN3 := fun w6 => bytesOf_calls w6 us Hul.out
    rw [← hvs] at hN3
    rw [← hvs]
    clear hN2 hc5 hvs V1
    go_upto_region 5 with (refine wpList_store_row rfl 36 (.tmp 6) (.tmp 21) rfl rfl w5.heap.size rfl vs Z64 36 rfl (by rw [← Z64_eq]; exact heap_new _ _) (by rw [Z64_length]; exact HV1.out) hiv HV2.out ?_; intro w6 hb6 hc6)
    have s6 := hc6.size
    have C6 : Chg 0 0 w5 w6 := (Chg.alloc (Chg.refl 0 0 w5) _).step hc6 (by omega)
    have HC6 : Hid (Chg 0 0 w w6) := HC5.out.trans C6
    have HR6 : Hid (w6.rangeAt w5.heap.size 0 vs) := row_rng hb6
    have HQ6 : Hid (w6.heap[w.heap.size]? = some (.cells #[.bool false, .slice none 0 0, .bool false] 25 (0, 0))) := (C6.block w.heap.size (Array.getElem?_eq_some_iff.1 HQ5.out).1 (by omega)).trans HQ5.out
    have hw6 := HC6.out.size
    have hlt6 : w.heap.size < w6.heap.size := (Array.getElem?_eq_some_iff.1 HQ6.out).1
    clear hb6 hc6 C6
    go_wp2_with (refine wpList_load_mid rfl 36 (.tmp 6) rfl w5.heap.size 0 rfl vs _ HR6.out u44 rfl hiv ?_)
    refine (hN3 w6).mono ?_
    rintro e w7 ⟨g, rfl, ho, hc7⟩
    have hgb := (ho.lt g rfl).1
    have HO : Hid (OwnB w7 w.heap.size 5 (.slice (some ⟨g, 0, none⟩) 64 64) us) := ho.base (fun g' hg' => by have := (ho.lt g' hg').1; omega)
    have HC7 : Hid (Chg 0 0 w w7) := HC6.out.trans hc7
    obtain ⟨⟨r0, r1, r2⟩, rf0, rf1, rf2⟩ := three_all' ((hc7.block w.heap.size (Array.getElem?_eq_some_iff.1 HQ6.out).1 (by omega)).trans HQ6.out)
    have HCe : Hid (Chg 0 0 w (((w7.setCell ⟨w.heap.size, 0, none⟩ (.bool true)).setCell ⟨w.heap.size, 1, none⟩ (.slice (some ⟨g, 0, none⟩) 64 64)).setCell ⟨w.heap.size, 2, none⟩ (.bool bm))) := ((HC7.out.setCell (p := ⟨w.heap.size, 0, none⟩) (Or.inr (Nat.le_refl _)) _).setCell (p := ⟨w.heap.size, 1, none⟩) (Or.inr (Nat.le_refl _)) _).setCell (p := ⟨w.heap.size, 2, none⟩) (Or.inr (Nat.le_refl _)) _
    have hne : (Value.slice (some ⟨g, 0, none⟩) 64 64).ownBlock ≠ some w.heap.size := by intro e; simp only [Value.ownBlock, Option.some.injEq] at e; omega
    have HOe : Hid (OwnB (((w7.setCell ⟨w.heap.size, 0, none⟩ (.bool true)).setCell ⟨w.heap.size, 1, none⟩ (.slice (some ⟨g, 0, none⟩) 64 64)).setCell ⟨w.heap.size, 2, none⟩ (.bool bm)) w.heap.size 5 (.slice (some ⟨g, 0, none⟩) 64 64) us) := ((HO.out.set (p := ⟨w.heap.size, 0, none⟩) hne _).set (p := ⟨w.heap.size, 1, none⟩) hne _).set (p := ⟨w.heap.size, 2, none⟩) hne _
    clear hN3 ho hc7 hne
    go_wp2
    rw [HD.out.1, HD.out.2.1, HD.out.2.2]
    exact bodyPost_ret (v := .agg #[.bool true, .slice (some ⟨g, 0, none⟩) 64 64, .bool bm]) (by simp [results, Tryd.results5, go_sem, r0, r1, r2]) rfl ⟨_, rfl, HOe.out, HCe.out⟩

end Go.Proofs.YtihiaodadbndaaaDoor
