/- EncodeEntry of the model. -/
import Derived.Test.YtkcijpmikgohcaaNameSpec
import Derived.Test.YtkcijpmikgohcaaEntBase
import Derived.Test.YtkcijpmikgohcaaJoin2
import Derived.Test.YtkcijpmikgohcaaPutLen
import Derived.Test.YtkcijpmikgohcaaBytSeen
import Derived.Test.YtkcijpmikgohcaaAppSeen
import Derived.Test.YtkcijpmikgohcaaHeld
import Derived.Test.YtkcijpmikgohcaaWeak
import Derived.Lib.AppendStr
import Derived.Deep.DeepCutAuto
import Derived.Great.BuildSlice
namespace Go.Proofs.Ytkcijpmikgohcaa
open Go.RowKit

/-- The bytes of a text. -/
def strL (s : ByteArray) : List Int := s.data.toList.map fun b => (b.toNat : Int)
theorem strL_len (s : ByteArray) : (strL s).length = s.size := by unfold strL; rw [List.length_map, Array.length_toList]; rfl
theorem strL_byt (s : ByteArray) : Byt (strL s) := by
  intro x hx
  obtain ⟨b, _, rfl⟩ := List.mem_map.1 hx
  have := b.toNat_lt
  omega
/-- The record of an entry. -/
def entL (q : Int) (s : ByteArray) : List Int := ((putN q 2 ++ [(s.size : Int)]) ++ strL s) ++ List.replicate (13 - s.size) 0
abbrev EntP (q : Int) (s : ByteArray) : Prop := NameP s ∧ 1 ≤ q ∧ q ≤ 256
def entB (q : Int) (s : ByteArray) : Bool := nameB s && (decide (1 ≤ q) && decide (q ≤ 256))
def encEnt (q : Int) (s : ByteArray) : List Int := if entB q s = true then entL q s else []

theorem ent_good {q : Int} {s : ByteArray} (h : entB q s = true) : 1 ≤ q ∧ q ≤ 256 ∧ 1 ≤ s.size ∧ s.size ≤ 13 := by
  unfold entB at h
  simp only [Bool.and_eq_true, decide_eq_true_eq] at h
  have hn : NameP s := of_decide_eq_true h.1
  exact ⟨h.2.1, h.2.2, hn.2.1, hn.2.2.1⟩

theorem entL_len {q : Int} {s : ByteArray} (h : entB q s = true) : (entL q s).length = 16 := by
  obtain ⟨h1, h2, h3, h4⟩ := ent_good h
  unfold entL
  rw [List.length_append, List.length_append, List.length_append, pn2 (by omega) (by omega), strL_len, List.length_replicate]
  simp
  omega

theorem encEnt_len (q : Int) (s : ByteArray) : (encEnt q s).length ≤ 16 := by
  unfold encEnt
  split
  · rename_i h; rw [entL_len h]; exact Nat.le_refl _
  · simp

theorem encEnt_byt (q : Int) (s : ByteArray) : Byt (encEnt q s) := by
  unfold encEnt
  split
  · rename_i h
    have hg := ent_good h
    intro x hx
    unfold entL at hx
    simp only [List.mem_append] at hx
    rcases hx with ((hx | hx) | hx) | hx
    · exact putN_byt _ _ x hx
    · simp at hx; omega
    · exact strL_byt s x hx
    · rw [List.eq_of_mem_replicate hx]; omega
  · intro x hx; cases hx

set_option maxRecDepth 20000 in
set_option maxHeartbeats 1000000 in
theorem goodEntry_calls (w : World) (q : Int) (s : ByteArray) (hl : s.size ≤ 1048576) :
    Calls Try.prog 25 #[.agg #[.int .i64 q, .string s]] w fun e w' => e = .returned (.bool (entB q s)) ∧ Chg 0 0 w w' := by
  have hA : Chg 0 0 w (w.alloc (.cells #[.int .i64 q, .string s] 30)) := Chg.alloc (Chg.refl 0 0 w) _
  have B0 := heap_new w (.cells #[.int .i64 q, .string s] 30)
  have s0 : (w.alloc (.cells #[.int .i64 q, .string s] 30)).heap.size = w.heap.size + 1 := by simp
  have hN := specValidName_calls (w.alloc (.cells #[.int .i64 q, .string s] 30)) s hl
  have HE : Hid (entB q s = (nameB s && (decide (1 ≤ q) && decide (q ≤ 256)))) := rfl
  go_enter Try.func25, Try.ntmps25
  go_wp2_with fail
  generalize w.alloc (.cells #[.int .i64 q, .string s] 30) = w0 at *
  refine hN.mono ?_
  rintro e w1 ⟨rfl, h1⟩
  have HC : Hid (Chg 0 0 w w1) := hA.trans h1
  obtain ⟨k0, k1, _⟩ := two_cells ((h1.block w.heap.size (by omega) (by omega)).trans B0)
  clear hA B0 h1 hN
  by_cases hn : nameB s = true
  · by_cases c1 : 1 ≤ q
    · by_cases c2 : q ≤ 256
      · have HR : Hid (entB q s = true) := by show _ = _; rw [HE.out, hn, decide_eq_true c1, decide_eq_true c2]; rfl
        rw [hn]
        clear hn HE
        go_wp2
        go_ret
        exact ⟨by rw [HR.out]; rfl, HC.out⟩
      · have HR : Hid (entB q s = false) := by show _ = _; rw [HE.out, hn, decide_eq_true c1, decide_eq_false c2]; rfl
        rw [hn]
        clear hn HE
        go_wp2
        go_ret
        exact ⟨by rw [HR.out]; show Ending.returned (Value.bool (decide (q ≤ 256))) = _; rw [decide_eq_false (by omega)], HC.out⟩
    · have HR : Hid (entB q s = false) := by show _ = _; rw [HE.out, hn, decide_eq_false c1]; rfl
      rw [hn]
      clear hn HE
      go_wp2
      go_ret
      exact ⟨by rw [HR.out]; rfl, HC.out⟩
  · rw [Bool.not_eq_true] at hn
    have HR : Hid (entB q s = false) := by show _ = _; rw [HE.out, hn]; rfl
    rw [hn]
    clear hn HE
    go_wp2
    go_ret
    exact ⟨by rw [HR.out]; rfl, HC.out⟩

theorem fill_byte (A : Array Value) (hr : A.size = 1) (a : Int) (k : IntKind) : Instr.fill (fun i => some (i * 1, 1)) A [(0, .int k a)] = some #[.int k a] := by
  obtain ⟨l⟩ := A
  match l, hr with
  | [x], _ => simp [Instr.fill, Value.cells]

theorem wrap_byt {x : Int} (h0 : 0 ≤ x) (h1 : x < 256) : IntKind.u8.wrap x = x := by
  unfold IntKind.wrap
  simp [IntKind.bits, IntKind.signed]
  omega

theorem byte_own (W : World) (base : Nat) (a : Int) (hb : base ≤ W.heap.size) : OwnB (W.alloc (.cells #[.int .u8 a] 5)) base 5 (.slice (some ⟨W.heap.size, 0, none⟩) 1 1) [a] := by
  have := World.ownsRow_lit (base := base) (e := 5) (size := 1) W #[.int .u8 a] 1 hb (by unfold maxLen; omega) rfl
  unfold OwnB
  simpa using this

set_option maxRecDepth 20000 in
set_option maxHeartbeats 4000000 in
theorem specEncEntry_calls (w : World) (q : Int) (s : ByteArray) (hl : s.size ≤ 1048576) :
    Calls Try.prog 16 #[.agg #[.int .i64 q, .string s]] w fun e w' => ∃ v, e = .returned v ∧ OwnB w' w.heap.size 5 v (encEnt q s) ∧ Chg 0 0 w w' := by
  have C0 : Chg 0 0 w (w.alloc (.cells #[.int .i64 q, .string s] 30)) := Chg.alloc (Chg.refl 0 0 w) _
  have B0 := heap_new w (.cells #[.int .i64 q, .string s] 30)
  have s0 : (w.alloc (.cells #[.int .i64 q, .string s] 30)).heap.size = w.heap.size + 1 := by simp
  have HB : Hid ((w.alloc (.cells #[.int .i64 q, .string s] 30)).heap[w.heap.size]? = some (.cells #[.int .i64 q, .string s] 30 (0, 0))) := B0
  have HC : Hid (Chg 0 0 w (w.alloc (.cells #[.int .i64 q, .string s] 30))) := C0
  have hN := goodEntry_calls (w.alloc (.cells #[.int .i64 q, .string s] 30)) q s hl
  clear C0 B0
  go_enter Try.func16, Try.ntmps16
  go_wp2_with fail
  generalize w.alloc (.cells #[.int .i64 q, .string s] 30) = w0 at *
  refine hN.mono ?_
  rintro e w1 ⟨rfl, h1⟩
  have HC1 : Hid (Chg 0 0 w w1) := HC.out.trans h1
  have HB1 : Hid (w1.heap[w.heap.size]? = some (.cells #[.int .i64 q, .string s] 30 (0, 0))) := (h1.block _ (by omega) (by omega)).trans HB.out
  have s1 := h1.size
  clear h1 hN HB HC
  by_cases hv : entB q s = true
  case neg =>
    have HE : Hid (encEnt q s = []) := by show _ = _; unfold encEnt; rw [if_neg hv]
    have HO : Hid (OwnB (w1.alloc (.cells #[] 5)) w.heap.size 5 (.slice (some ⟨w1.heap.size, 0, none⟩) 0 0) []) := OwnB.bnil w1 _ (by omega)
    have HCe : Hid (Chg 0 0 w (w1.alloc (.cells #[] 5))) := HC1.out.alloc _
    rw [Bool.not_eq_true] at hv
    rw [hv]
    clear hv
    go_wp2
    go_ret
    exact ⟨_, rfl, by rw [HE.out]; exact HO.out, HCe.out⟩
  have HE : Hid (encEnt q s = entL q s) := by show _ = _; unfold encEnt; rw [if_pos hv]
  obtain ⟨a1, a2, a3, a4⟩ := ent_good hv
  have Hq2 : Hid ((putN q 2).length = 2) := pn2 (by omega) (by omega)
  have hwr : IntKind.u8.wrap ((s.size : Nat) : Int) = (s.size : Int) := wrap_byt (by omega) (by omega)
  have hbw : w.heap.size < w1.heap.size := by omega
  rw [hv]
  clear hv
  go_upto_region 4 with fail
  go_cut [4] (fun s4 wx => ∃ g c, s4 = .slice (some ⟨g, 0, none⟩) 3 c ∧ OwnB wx w.heap.size 5 (.slice (some ⟨g, 0, none⟩) 3 c) (putN q 2 ++ [(s.size : Int)]) ∧ Chg 0 0 w wx ∧ w.heap.size < wx.heap.size ∧ wx.heap[w.heap.size]? = some (.cells #[.int .i64 q, .string s] 30 (0, 0)))
  case first =>
    have HS0 : Hid ((fun w' : World => w'.heap[w.heap.size]? = some (.cells #[.int .i64 q, .string s] 30 (0, 0))) w1.drew) := HB1.out
    have HC0 : Hid (Chg 0 0 w w1.drew) := HC1.out.trans (Chg.drew (Chg.refl 0 0 w1))
    have hbd : w.heap.size < w1.drew.heap.size := hbw
    clear HB1 HC1
    refine held_region (fun w' : World => w'.heap[w.heap.size]? = some (.cells #[.int .i64 q, .string s] 30 (0, 0))) (by kernel_rfl) ?_
    generalize w1.drew = wd at *
    refine held_take 0 (.pointer (some ⟨w.heap.size, 0, none⟩)) rfl (by kernel_rfl) (by kernel_rfl) (by kernel_rfl) (fun _ _ _ h => h) (.inl ⟨by kernel_rfl, fun w' hw' => by go_simp⟩) HS0.out ?_
    go_simp
    refine held_take 1 (.int .i64 q) rfl (by kernel_rfl) (by kernel_rfl) (by kernel_rfl) (fun _ _ _ h => h) (.inl ⟨by kernel_rfl, fun w' hw' => by obtain ⟨h4, h5, _⟩ := two_cells hw'; go_simp⟩) HS0.out ?_
    go_simp
    refine held_take 3 (.pointer (some ⟨w.heap.size, 1, none⟩)) rfl (by kernel_rfl) (by kernel_rfl) (by kernel_rfl) (fun _ _ _ h => h) (.inl ⟨by kernel_rfl, fun w' hw' => by go_simp⟩) HS0.out ?_
    go_simp
    refine held_take 4 (.string s) rfl (by kernel_rfl) (by kernel_rfl) (by kernel_rfl) (fun _ _ _ h => h) (.inl ⟨by kernel_rfl, fun w' hw' => by obtain ⟨h4, h5, _⟩ := two_cells hw'; go_simp⟩) HS0.out ?_
    go_simp
    refine held_take 5 (.int .i64 (s.size : Int)) rfl (by kernel_rfl) (by kernel_rfl) (by kernel_rfl) (fun _ _ _ h => h) (.inl ⟨by kernel_rfl, fun w' hw' => by go_simp⟩) HS0.out ?_
    go_simp
    refine held_take 6 (.int .u8 (s.size : Int)) rfl (by kernel_rfl) (by kernel_rfl) (by kernel_rfl) (fun _ _ _ h => h) (.inl ⟨by kernel_rfl, fun w' hw' => by go_simp⟩) HS0.out ?_
    go_simp
    refine held_two 2 7 rfl rfl rfl rfl (by kernel_rfl) ?_ ?_
    · refine wp_enter 26 #[.int .i64 q, .int .i64 2] (by first | kernel_rfl | go_simp) (specPut_calls wd q 2 (by omega)) ?_
      rintro e wa ⟨v5, rfl, o5, h5⟩
      have swa := h5.size
      obtain ⟨g5, c5, rfl⟩ := o5.some_of (by rw [Hq2.out]; omega)
      rw [Hq2.out] at o5
      rw [Hq2.out]
      have HSwa : Hid ((fun w' : World => w'.heap[w.heap.size]? = some (.cells #[.int .i64 q, .string s] 30 (0, 0))) wa) := (h5.block _ (by omega) (by omega)).trans HS0.out
      refine ⟨_, rfl, HSwa.out, ?_⟩
      go_simp
      refine held_one 7 rfl rfl (by kernel_rfl) ?_
      have Xwb := byte_own wa w.heap.size (s.size : Int) (by omega)
      have Cwb : Chg 0 0 wa (wa.alloc (.cells #[.int .u8 (s.size : Int)] 5)) := Chg.alloc (Chg.refl 0 0 wa) _
      have swb : (wa.alloc (.cells #[.int .u8 (s.size : Int)] 5)).heap.size = wa.heap.size + 1 := by simp
      obtain ⟨ic, hic, hcz0, hcz1, hcz2⟩ := info_parts Try.infoU1
      refine wp_buildSlice 22 5 1 #[(0, .tmp 16)] rfl #[.int .u8 (s.size : Int)] ic _ Try.underlying22 hic hcz0 (by rw [hcz1]; decide) (by rw [hcz1]; decide) (by rw [hcz1, Array.toList_map]; refine fill_byte _ ?_ _ _; simp) ?_
      generalize wa.alloc (.cells #[.int .u8 (s.size : Int)] 5) = wb at *
      have HSwb : Hid ((fun w' : World => w'.heap[w.heap.size]? = some (.cells #[.int .i64 q, .string s] 30 (0, 0))) wb) := (Cwb.block _ (by omega) (by omega)).trans HSwa.out
      refine ⟨HSwb.out, ?_⟩
      go_simp
      have HCt : Hid (Chg 0 0 w wb) := (HC0.out.trans h5).trans Cwb
      have HO1 : Hid (OwnB wb wd.heap.size 5 (.slice (some ⟨g5, 0, none⟩) 2 c5) (putN q 2)) := o5.chg Cwb (by intro g _; omega)
      have HV2 := (Xwb.seen (by simp))
      refine held_one 8 rfl rfl (by kernel_rfl) ?_
      refine wp_app_seen (.tmp 12) (.tmp 17) rfl wd.heap.size _ (putN q 2) rfl HO1.out (by omega) _ _ _ [(s.size : Int)] rfl HV2 (by simp) (by rw [Hq2.out]; simp) ?_
      intro v9 w9 o9 h9
      have H3 : Hid ((putN q 2 ++ [(s.size : Int)]).length = 3) := by show _ = _; rw [List.length_append, Hq2.out]; rfl
      obtain ⟨g9, c9, rfl⟩ := o9.some_of (by rw [H3.out]; omega)
      rw [H3.out] at o9
      rw [H3.out]
      have s9 := h9.size
      have HS9 : Hid ((fun w' : World => w'.heap[w.heap.size]? = some (.cells #[.int .i64 q, .string s] 30 (0, 0))) w9) := (h9.block _ (by omega) (by omega)).trans HSwb.out
      have HR : Hid (OwnB w9 w.heap.size 5 (.slice (some ⟨g9, 0, none⟩) 3 c9) (putN q 2 ++ [(s.size : Int)]) ∧ Chg 0 0 w w9 ∧ w.heap.size < w9.heap.size ∧ w9.heap[w.heap.size]? = some (.cells #[.int .i64 q, .string s] 30 (0, 0))) := ⟨o9.base (fun g hg => by have := (o9.lt g hg).1; omega), HCt.out.step h9 (by omega), by omega, HS9.out⟩
      clear o9 h9 HV2
      refine ⟨HS9.out, ?_⟩
      go_simp
      refine held_one 9 rfl rfl (by kernel_rfl) ?_
      go_simp
      refine ⟨HS9.out, ?_⟩
      refine held_done (by kernel_rfl) (NoPanic.normal ?_)
      go_wp2
      go_meet
      exact ⟨g9, c9, rfl, HR.out⟩
    · have Xwa := byte_own wd w.heap.size (s.size : Int) (by omega)
      have Cwa : Chg 0 0 wd (wd.alloc (.cells #[.int .u8 (s.size : Int)] 5)) := Chg.alloc (Chg.refl 0 0 wd) _
      have swa : (wd.alloc (.cells #[.int .u8 (s.size : Int)] 5)).heap.size = wd.heap.size + 1 := by simp
      obtain ⟨ic, hic, hcz0, hcz1, hcz2⟩ := info_parts Try.infoU1
      refine wp_buildSlice 22 5 1 #[(0, .tmp 16)] rfl #[.int .u8 (s.size : Int)] ic _ Try.underlying22 hic hcz0 (by rw [hcz1]; decide) (by rw [hcz1]; decide) (by rw [hcz1, Array.toList_map]; refine fill_byte _ ?_ _ _; simp) ?_
      generalize wd.alloc (.cells #[.int .u8 (s.size : Int)] 5) = wa at *
      have HSwa : Hid ((fun w' : World => w'.heap[w.heap.size]? = some (.cells #[.int .i64 q, .string s] 30 (0, 0))) wa) := (Cwa.block _ (by omega) (by omega)).trans HS0.out
      refine ⟨HSwa.out, ?_⟩
      go_simp
      refine held_one 2 rfl rfl (by kernel_rfl) ?_
      refine wp_enter 26 #[.int .i64 q, .int .i64 2] (by first | kernel_rfl | go_simp) (specPut_calls wa q 2 (by omega)) ?_
      rintro e wb ⟨v5, rfl, o5, h5⟩
      have swb := h5.size
      obtain ⟨g5, c5, rfl⟩ := o5.some_of (by rw [Hq2.out]; omega)
      rw [Hq2.out] at o5
      rw [Hq2.out]
      have HSwb : Hid ((fun w' : World => w'.heap[w.heap.size]? = some (.cells #[.int .i64 q, .string s] 30 (0, 0))) wb) := (h5.block _ (by omega) (by omega)).trans HSwa.out
      refine ⟨_, rfl, HSwb.out, ?_⟩
      go_simp
      have HCt : Hid (Chg 0 0 w wb) := (HC0.out.trans Cwa).trans h5
      have HO1 : Hid (OwnB wb wa.heap.size 5 (.slice (some ⟨g5, 0, none⟩) 2 c5) (putN q 2)) := o5
      have HV2 := ((Xwa.seen (by simp)).chg h5 (by omega))
      refine held_one 8 rfl rfl (by kernel_rfl) ?_
      refine wp_app_seen (.tmp 12) (.tmp 17) rfl wa.heap.size _ (putN q 2) rfl HO1.out (by omega) _ _ _ [(s.size : Int)] rfl HV2 (by simp) (by rw [Hq2.out]; simp) ?_
      intro v9 w9 o9 h9
      have H3 : Hid ((putN q 2 ++ [(s.size : Int)]).length = 3) := by show _ = _; rw [List.length_append, Hq2.out]; rfl
      obtain ⟨g9, c9, rfl⟩ := o9.some_of (by rw [H3.out]; omega)
      rw [H3.out] at o9
      rw [H3.out]
      have s9 := h9.size
      have HS9 : Hid ((fun w' : World => w'.heap[w.heap.size]? = some (.cells #[.int .i64 q, .string s] 30 (0, 0))) w9) := (h9.block _ (by omega) (by omega)).trans HSwb.out
      have HR : Hid (OwnB w9 w.heap.size 5 (.slice (some ⟨g9, 0, none⟩) 3 c9) (putN q 2 ++ [(s.size : Int)]) ∧ Chg 0 0 w w9 ∧ w.heap.size < w9.heap.size ∧ w9.heap[w.heap.size]? = some (.cells #[.int .i64 q, .string s] 30 (0, 0))) := ⟨o9.base (fun g hg => by have := (o9.lt g hg).1; omega), HCt.out.step h9 (by omega), by omega, HS9.out⟩
      clear o9 h9 HV2
      refine ⟨HS9.out, ?_⟩
      go_simp
      refine held_one 9 rfl rfl (by kernel_rfl) ?_
      go_simp
      refine ⟨HS9.out, ?_⟩
      refine held_done (by kernel_rfl) (NoPanic.normal ?_)
      go_wp2
      go_meet
      exact ⟨g9, c9, rfl, HR.out⟩
  case rest =>
    obtain ⟨g, c, rfl, ho, hc, hsz, hb⟩ := hcut
    obtain ⟨x4, hx4⟩ : ∃ x : List Int, x = putN q 2 ++ [(s.size : Int)] := ⟨_, rfl⟩
    have Hx4 : Hid (x4 = putN q 2 ++ [(s.size : Int)]) := hx4
    rw [← hx4] at ho
    have HX3 : Hid (x4.length = 3) := by show _ = _; rw [hx4, List.length_append, Hq2.out]; rfl
    have HO4 : Hid (wc.ownsRow w.heap.size 5 1 (.slice (some ⟨g, 0, none⟩) 3 c) 3 (x4.map (Value.int .u8))) := by
      have := ho
      unfold OwnB at this
      rw [HX3.out] at this
      exact this
    have HC4 : Hid (Chg 0 0 w wc) := hc
    obtain ⟨k0, k1, _⟩ := two_cells hb
    have HSC : Hid (Go.Lib.strCells s = (strL s).map (Value.int .u8)) := by
      show _ = _
      simp [Go.Lib.strCells, strL]
    obtain ⟨ic, hic, hcz0, hcz1, hcz2⟩ := info_parts Try.infoU1
    clear hx4 ho hc hb HB1 HC1 hwr
    go_wp2_with (at_builtin; refine Go.Lib.wpList_append_own_string _ rfl _ _ 22 9 rfl w.heap.size 5 ic Try.underlying22 Try.underlying9 hic hcz0 hcz1 hcz2 _ 3 _ rfl HO4.out s rfl (by unfold maxLen; omega) (by omega) (by omega) ?_)
    intro v5 w5 o5 h5 _
    obtain ⟨x5, hx5⟩ : ∃ x : List Int, x = x4 ++ strL s := ⟨_, rfl⟩
    have Hx5 : Hid (x5 = x4 ++ strL s) := hx5
    have HX5 : Hid (x5.length = 3 + s.size) := by show _ = _; rw [hx5, List.length_append, HX3.out, strL_len]
    have HO5 : Hid (OwnB w5 w.heap.size 5 v5 x5) := by
      show OwnB _ _ _ _ _
      unfold OwnB
      rw [HX5.out, hx5, List.map_append, ← HSC.out]
      exact o5
    have cz : Chg w.heap.size wc.heap.size wc w5 := Chg.ofGrown h5 (fun k hk hlt => ⟨(World.ownsRow.lt HO4.out k hk).1, hlt⟩)
    have HC5 : Hid (Chg 0 0 w w5) := HC4.out.step cz (by omega)
    have s5 := cz.size
    obtain ⟨g5, c5, rfl⟩ := HO5.out.some_of (by rw [HX5.out]; omega)
    rw [HX5.out] at HO5
    rw [HX5.out]
    have HIL : Hid (encEnt q s = x5 ++ List.replicate (13 - s.size) 0) := by show _ = _; rw [HE.out, Hx5.out, Hx4.out]; rfl
    have hZ := l2Zero_calls w5 (13 - s.size) (by omega)
    have Hz : Hid ((List.replicate (13 - s.size) (0 : Int)).length = 13 - s.size) := by show _ = _; rw [List.length_replicate]
    clear o5 h5 cz HO4 HC4 hx5 k0 k1
    go_wp2_with fail
    rw [show (16 : Int) - (3 + (s.size : Int)) = ((13 - s.size : Nat) : Int) by omega]
    refine hZ.mono ?_
    rintro e w7 ⟨g7, rfl, o7, h7⟩
    have s7 := h7.size
    have vx := (HO5.out.seen (by rw [HX5.out]; omega)).chg h7 (by omega)
    have vy := o7.seen (by rw [Hz.out]; omega)
    have hJ := l2Join_any (xs := x5) (ys := List.replicate (13 - s.size) 0) w7 (by rw [HX5.out]; omega) (by rw [Hz.out]; omega) vx vy
    have HC7 : Hid (Chg 0 0 w w7) := HC5.out.trans h7
    rw [← HIL.out] at hJ
    clear hZ o7 h7 vx vy HO5 HC5
    go_wp2_with fail
    refine hJ.mono ?_
    rintro e w8 ⟨v8, rfl, o8, h8⟩
    have HR : Hid (OwnB w8 w.heap.size 5 v8 (encEnt q s) ∧ Chg 0 0 w w8) := ⟨o8.base (fun g hg => by have := (o8.lt g hg).1; omega), HC7.out.trans h8⟩
    clear hJ o8 h8 HC7
    go_wp2
    go_ret
    exact ⟨_, rfl, HR.out⟩

end Go.Proofs.Ytkcijpmikgohcaa
