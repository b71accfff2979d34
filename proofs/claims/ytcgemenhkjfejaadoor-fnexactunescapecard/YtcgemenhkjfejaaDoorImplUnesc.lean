/- Unescape of the program. -/
import Derived.Test.YtcgemenhkjfejaaDoorSmall
import Derived.Test.YtcgemenhkjfejaaDoorUnesc
import Derived.Test.YtcgemenhkjfejaaDoorIs
namespace Go.Proofs.YtcgemenhkjfejaaDoor
open Go.RowKit

/-- The package's errors: three pointers, the first unlike the others. -/
structure GlobA (w : World) (aL aM aK : Addr) : Prop where
  glob : Glob w 70 70 70 (.pointer (some aL)) (.pointer (some aM)) (.pointer (some aK))
  neM : aM ≠ aL
  neK : aK ≠ aL
  rL : ∃ c t, w.heap[aL.block]? = some (.cells c t (0, 0))
  rM : ∃ c t, w.heap[aM.block]? = some (.cells c t (0, 0))
  rK : ∃ c t, w.heap[aK.block]? = some (.cells c t (0, 0))

theorem GlobA.chg {w w' : World} {aL aM aK : Addr} (h : GlobA w aL aM aK) (c : Chg 0 0 w w') : GlobA w' aL aM aK := by
  have k : ∀ {b : Nat}, (∃ x t, w.heap[b]? = some (.cells x t (0, 0))) → ∃ x t, w'.heap[b]? = some (.cells x t (0, 0)) := by
    rintro b ⟨x, t, e⟩
    exact ⟨x, t, (c.block b (Array.getElem?_eq_some_iff.1 e).1 (by omega)).trans e⟩
  exact ⟨h.glob.chg c (by omega), h.neM, h.neK, k h.rL, k h.rM, k h.rK⟩

/-- What Unescape answers. -/
def unescD (xs : List Int) (esc : Bool) : List Int := if xs.length = 64 ∧ unescB xs esc = true then unescL xs esc else []

theorem unescL_length {xs : List Int} (h : xs.length = 64) (esc : Bool) : (unescL xs esc).length = 64 := by
  unfold unescL
  split
  · simp [mg, h]
  · exact h



set_option maxRecDepth 20000 in
set_option maxHeartbeats 4000000 in
theorem implUnescape_calls (w : World) {lo hi : Nat} {a : Value} {xs : List Int} (esc : Bool) {aL aM aK : Addr} (h1 : View w lo hi .u8 a xs) (hB : Byt xs) (hG : GlobA w aL aM aK) :
    Calls Tryd.prog 6 #[a, .bool esc] w fun e w' => ∃ v, e = .returned v ∧ OwnB w' w.heap.size 5 v (unescD xs esc) ∧ Chg 0 0 w w' := by
  have hO : Calls Tryd.prog 16 #[a] w fun e w' => ∃ (L : List Value) (h0 h1 h2 h3 h4 h5 h6 : Int) (ev : Value), e = .returned (.tuple #[.agg L.toArray, .agg #[.int .u8 h0, .int .u8 h1, .int .u8 h2, .int .u8 h3, .int .i64 h4, .int .i64 h5, .int .i64 h6], ev]) ∧ L.length = 64 ∧ (∀ v ∈ L, v.oneCell' = true) ∧ Chg 0 0 w w' ∧
      ∃ b : Bool, (∀ w'', Chg 0 0 w' w'' → Calls Tryd.prog 17 #[ev, .iface 70 (.pointer (some aL))] w'' fun e w3 => e = .returned (.bool b) ∧ w3 = w'') ∧ ((b = true ∧ xs.length ≠ 64) ∨ (b = false ∧ xs.length = 64 ∧ L = xs.map (Value.int .u8))) := by
    have wrapN : ∀ (w' w'' : World) (ev : Value) (v : Addr), Chg 0 0 w w'' → Wraps w'' w.heap.size ev 70 (.pointer (some v)) → v ≠ aL → (∃ c t, w''.heap[v.block]? = some (.cells c t (0, 0))) → Calls Tryd.prog 17 #[ev, .iface 70 (.pointer (some aL))] w'' fun e w3 => e = .returned (.bool false) ∧ w3 = w'' := by
      rintro _ w'' ev v hc ⟨pb, k, _, rfl, hf⟩ hne ⟨c, t, hv⟩
      obtain ⟨c', t', hl⟩ := (hG.chg hc).rL
      exact is_wrap_other pb aL v c c' t t' w'' (by have : w''.heap[pb]? = _ := hf; simp [World.cell?, this]) hne hv hl
    by_cases hx : xs.length = 64
    · refine (openBlock_full w h1 hB hG.glob hx).mono ?_
      rintro e w' ⟨ev, rfl, hc, hr⟩
      refine ⟨_, _, _, _, _, _, _, _, ev, rfl, by simpa using hx, ints_oneCell _ _, hc, false, ?_, Or.inr ⟨rfl, hx, rfl⟩⟩
      intro w'' hc2
      rcases hr with ⟨_, hw⟩ | ⟨_, _, hw⟩ | ⟨_, _, he⟩
      · exact wrapN w' w'' ev aM (hc.trans hc2) (hw.chg hc2 (by omega)) hG.neM (hG.chg (hc.trans hc2)).rM
      · exact wrapN w' w'' ev aK (hc.trans hc2) (hw.chg hc2 (by omega)) hG.neK (hG.chg (hc.trans hc2)).rK
      · subst he; exact is_nil aL w''
    · refine (openBlock_short w h1 hG.glob hx).mono ?_
      rintro e w' ⟨ev, rfl, hw, hc⟩
      refine ⟨Z64, 0, 0, 0, 0, 0, 0, 0, ev, rfl, Z64_length, Z64_one, hc, true, ?_, Or.inl ⟨rfl, hx⟩⟩
      intro w'' hc2
      obtain ⟨pb, k, _, rfl, hf⟩ := hw.chg hc2 (by omega)
      exact is_wrap_same pb aL w'' (by have : w''.heap[pb]? = _ := hf; simp [World.cell?, this])
  obtain ⟨ao, cap, rfl, hl, _, _⟩ := h1
  have HG : Hid (GlobA w aL aM aK) := hG
  have HB : Hid (Byt xs) := hB
  clear hG hB
  go_enter Tryd.func6, Tryd.ntmps6
  go_wp2_with fail
  refine hO.mono ?_
  rintro e w1 ⟨L, h0, h1, h2, h3, h4, h5, h6, ev, rfl, L1, L2, hc1, b, hI, hr⟩
  have HL1 : Hid (L.length = 64) := L1
  have HL2 : Hid (∀ v ∈ L, v.oneCell' = true) := L2
  have hi44 : (Tryd.prog.info? 33).map (·.size) = some L.length := by rw [L1]; kernel_rfl
  have HC1 : Hid (Chg 0 0 w w1) := hc1
  have HI : Hid (∀ w'', Chg 0 0 w1 w'' → Calls Tryd.prog 17 #[ev, .iface 70 (.pointer (some aL))] w'' fun e w3 => e = .returned (.bool b) ∧ w3 = w'') := hI
  clear hO L1 L2 hc1 hI
  go_upto_region 2 with (first
    | (refine wpList_store_row rfl 33 (.tmp 5) (.tmp 13) rfl rfl w1.heap.size rfl L Z64 33 rfl (by rw [← Z64_eq]; exact alloc_two _ _ _) (by rw [Z64_length]; exact HL1.out) hi44 HL2.out ?_; intro w2 hb2 hc2)
    | (refine wpList_store_row rfl 36 (.tmp 6) (.tmp 14) rfl rfl (w1.heap.size + 1) rfl [.int .u8 h0, .int .u8 h1, .int .u8 h2, .int .u8 h3, .int .i64 h4, .int .i64 h5, .int .i64 h6] z7 36 rfl ((hc2.block (w1.heap.size + 1) (by simp) (by omega)).trans (alloc_twoN _ _ _)) rfl (by kernel_rfl) (by simp [Value.oneCell']) ?_; intro w3 hb3 hc3))
  have s2 := hc2.size
  have s3 := hc3.size
  have hz : ∀ o1 o2 : Obj, ((w1.alloc o1).alloc o2).heap.size = w1.heap.size + 2 := fun o1 o2 => (alloc2 w1 o1 o2).1
  have C3 : Chg 0 0 w1 w3 := (((Chg.alloc (Chg.refl 0 0 w1) _).alloc _).step hc2 (by omega)).step hc3 (by omega)
  have HC3 : Hid (Chg 0 0 w w3) := HC1.out.trans C3
  have HG3 : Hid (GlobA w3 aL aM aK) := HG.out.chg HC3.out
  have HR3 : Hid (w3.rangeAt w1.heap.size 0 L) := row_rng ((hc3.block w1.heap.size (Array.getElem?_eq_some_iff.1 hb2).1 (by omega)).trans hb2)
  have eL := HG3.out.glob.eL
  have hN := HI.out w3 C3
  clear hb2 hb3 hc2 hc3 C3 hz
  go_wp2_with fail
  refine hN.mono ?_
  rintro e w4 ⟨rfl, rfl⟩
  clear hN
  rcases hr with ⟨rfl, hx⟩ | ⟨rfl, hx, hLe⟩
  · have HD : Hid (unescD xs esc = []) := by show _ = _; unfold unescD; rw [if_neg (fun h => hx h.1)]
    clear hx
    go_wp2
    go_ret
    exact ⟨_, rfl, by rw [HD.out]; exact OwnB.nothing _ _ _, HC3.out⟩
  · have hN2 := unescapeBlock_calls w4 xs esc hx HB.out HG3.out.glob
    rw [← hLe] at hN2
    have hul := unescL_length hx esc
    have Hul : Hid ((unescL xs esc).length = 64) := hul
    have Hx : Hid (xs.length = 64) := hx
    have u44 := Tryd.underlying33
    clear hx hLe hul
    go_wp2_with (refine wpList_load_mid rfl 33 (.tmp 5) rfl w1.heap.size 0 rfl L _ HR3.out u44 rfl hi44 ?_)
    refine hN2.mono ?_
    rintro e w5 ⟨rfl, hc5⟩
    have HC5 : Hid (Chg 0 0 w w5) := HC3.out.trans hc5
    have hb := bytesOf_calls
    obtain ⟨us, hus⟩ : ∃ us, us = unescL xs esc := ⟨_, rfl⟩
    obtain ⟨bm, hbm⟩ : ∃ bm, bm = unescB xs esc := ⟨_, rfl⟩
    have HD : Hid (unescD xs esc = if bm = true then us else []) := by
      show _ = _
      unfold unescD
      rw [hus, hbm]
      have := Hx.out
      by_cases h : unescB xs esc = true
      · rw [if_pos ⟨this, h⟩, if_pos h]
      · rw [if_neg (fun h' => h h'.2), if_neg h]
    rw [← hus] at Hul
    rw [← hus, ← hbm]
    obtain ⟨vs, hvs⟩ : ∃ vs, vs = us.map (Value.int .u8) := ⟨_, rfl⟩
    have V1 : vs.length = 64 := by rw [hvs]; simpa using Hul.out
    have HV1 : Hid (vs.length = 64) := V1
    have HV2 : Hid (∀ v ∈ vs, v.oneCell' = true) := by show ∀ v ∈ vs, v.oneCell' = true; rw [hvs]; exact ints_oneCell _ _
    have hiv : (Tryd.prog.info? 33).map (·.size) = some vs.length := by rw [V1]; kernel_rfl
    have Hvs : Hid (vs = us.map (Value.int .u8)) := hvs
    rw [← hvs]
    clear hN2 hc5 hus hbm hvs V1 hb
    go_upto_region 5 with (refine wpList_store_row rfl 33 (.tmp 8) (.tmp 23) rfl rfl w5.heap.size rfl vs Z64 33 rfl (by rw [← Z64_eq]; exact heap_new _ _) (by rw [Z64_length]; exact HV1.out) hiv HV2.out ?_; intro w6 hb6 hc6)
    have s6 := hc6.size
    have C6 : Chg 0 0 w5 w6 := (Chg.alloc (Chg.refl 0 0 w5) _).step hc6 (by omega)
    have HC6 : Hid (Chg 0 0 w w6) := HC5.out.trans C6
    have HR6 : Hid (w6.rangeAt w5.heap.size 0 vs) := row_rng hb6
    clear hb6 hc6 C6
    cases bm
    · go_wp2
      go_ret
      exact ⟨_, rfl, by rw [HD.out]; exact OwnB.nothing _ _ _, HC6.out⟩
    · have hN3 := bytesOf_calls w6 us Hul.out
      rw [← Hvs.out] at hN3
      have hw6 := HC6.out.size
      go_wp2_with (refine wpList_load_mid rfl 33 (.tmp 8) rfl w5.heap.size 0 rfl vs _ HR6.out u44 rfl hiv ?_)
      refine hN3.mono ?_
      rintro e w7 ⟨g, rfl, ho, hc7⟩
      have HO : Hid (OwnB w7 w.heap.size 5 (.slice (some ⟨g, 0, none⟩) 64 64) us) := ho.base (fun g' hg' => by have := (ho.lt g' hg').1; omega)
      have HC7 : Hid (Chg 0 0 w w7) := HC6.out.trans hc7
      clear hN3 ho hc7
      go_wp2
      go_ret
      exact ⟨_, rfl, by rw [HD.out]; exact HO.out, HC7.out⟩

end Go.Proofs.YtcgemenhkjfejaaDoor
