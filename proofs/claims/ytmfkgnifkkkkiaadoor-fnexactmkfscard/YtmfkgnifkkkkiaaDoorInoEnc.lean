/- EncodeInode of the model. -/
import Derived.Test.YtmfkgnifkkkkiaaDoorInoValid
import Derived.Test.YtmfkgnifkkkkiaaDoorSteps
import Derived.Test.YtmfkgnifkkkkiaaDoorBytSeen
import Derived.Test.YtmfkgnifkkkkiaaDoorEncRow
import Derived.Test.YtmfkgnifkkkkiaaDoorWeak
import Derived.Deep.DeepCutAuto
import Derived.Great.BuildSlice
namespace Go.Proofs.YtmfkgnifkkkkiaaDoor
open Go.RowKit

/-- The bytes of some numbers, two each. -/
def putAll (xs : List Int) : List Int := (xs.map fun x => putN x 2).flatten
/-- The record of an inode. -/
def inoL (i : Ino) : List Int := [i.kind, i.links] ++ putN i.size 2 ++ putAll i.dir ++ putN i.ind 2 ++ List.replicate 10 0
def encIno (i : Ino) : List Int := if inoB i = true then inoL i else []

theorem putAll_take (xs : List Int) (k : Nat) (h : k < xs.length) : putAll (xs.take (k + 1)) = putAll (xs.take k) ++ putN (xs.getD k 0) 2 := by
  unfold putAll
  rw [List.take_succ_eq_append_getElem h, List.map_append, List.flatten_append]
  simp [List.getD_eq_getElem?_getD, h]

theorem putAll_len {xs : List Int} (h : ∀ x ∈ xs, goodI x = true) : (putAll xs).length = 2 * xs.length := by
  unfold putAll
  induction xs with
  | nil => rfl
  | cons x r ih =>
    have h0 := goodI_iff.1 (h x (List.mem_cons_self ..))
    rw [List.map_cons, List.flatten_cons, List.length_append, ih (fun y hy => h y (List.mem_cons_of_mem _ hy)), pn2 h0.1 (by omega), List.length_cons]
    omega

/-- What a valid inode has. -/
theorem ino_good {i : Ino} (h : inoB i = true) : (0 ≤ i.kind ∧ i.kind ≤ 3) ∧ (0 ≤ i.links ∧ i.links ≤ 8) ∧ (0 ≤ i.size ∧ i.size ≤ 2560) ∧ i.dir.length = 8 ∧ (∀ x ∈ i.dir, goodI x = true) ∧ (0 ≤ i.ind ∧ i.ind < 2048) := by
  obtain ⟨⟨h1, h2, h3, h4, h5⟩, h6, h7⟩ := inoB_iff.1 h
  refine ⟨?_, ⟨h4, h5⟩, ⟨h2, h3⟩, h1, fun x hx => h6 x (List.mem_append_left _ hx), goodI_iff.1 (h6 i.ind (List.mem_append_right _ (List.mem_singleton.2 rfl)))⟩
  by_cases hk : i.kind = 0
  · omega
  · rw [if_neg hk] at h7
    rcases h7.1 with h | h | h <;> omega

theorem inoL_len {i : Ino} (h : inoB i = true) : (inoL i).length = 32 := by
  obtain ⟨h1, h2, h3, h4, h5, h6⟩ := ino_good h
  unfold inoL
  simp [pn2 (v := i.size) (by omega) (by omega), pn2 (v := i.ind) (by omega) (by omega), putAll_len h5, h4]

theorem encIno_len (i : Ino) : (encIno i).length ≤ 32 := by
  unfold encIno
  split
  · rename_i h; rw [inoL_len h]; exact Nat.le_refl _
  · simp

theorem wrap_u8 {x : Int} (h0 : 0 ≤ x) (h1 : x < 256) : IntKind.u8.wrap x = x := by
  unfold IntKind.wrap
  simp [IntKind.bits, IntKind.signed]
  omega

theorem two_own (W : World) (base : Nat) (a b : Int) (hb : base ≤ W.heap.size) : OwnB (W.alloc (.cells #[.int .u8 a, .int .u8 b] 5)) base 5 (.slice (some ⟨W.heap.size, 0, none⟩) 2 2) [a, b] := by
  have := World.ownsRow_lit (base := base) (e := 5) (size := 1) W #[.int .u8 a, .int .u8 b] 2 hb (by unfold maxLen; omega) rfl
  unfold OwnB
  simpa using this

theorem View.wide {w : World} {lo hi hi' : Nat} {k : IntKind} {v : Value} {xs : List Int} (h : View w lo hi k v xs) (hh : hi ≤ hi') : View w lo hi' k v xs := by
  obtain ⟨ao, cap, e, h1, h2, h3⟩ := h
  refine ⟨ao, cap, e, h1, h2, ?_⟩
  rcases h3 with h3 | ⟨b, off, h4, h5, h6, h7⟩
  · exact Or.inl h3
  · exact Or.inr ⟨b, off, h4, h5, Nat.lt_of_lt_of_le h6 hh, h7⟩

theorem fill_two (A : Array Value) (hr : A.size = 2) (a b : Int) (k : IntKind) : Instr.fill (fun i => some (i * 1, 1)) A [(0, .int k a), (1, .int k b)] = some #[.int k a, .int k b] := by
  obtain ⟨l⟩ := A
  match l, hr with
  | [x, y], _ => simp [Instr.fill, Value.cells]

set_option maxRecDepth 20000 in
set_option maxHeartbeats 4000000 in
theorem specEncInode_calls (w : World) {lo hi : Nat} (i : Ino) (ao : Option Addr) (cap : Nat) (hl : i.dir.length ≤ 1048576) (hV : View w lo hi .i64 (.slice ao i.dir.length cap) i.dir) :
    Calls Tryd.prog 20 #[inoV i ao cap] w fun e w' => ∃ v, e = .returned v ∧ OwnB w' w.heap.size 5 v (encIno i) ∧ Chg 0 0 w w' := by
  have HV : Hid _ := hV
  have C0 : Chg 0 0 w (w.alloc (.cells #[.int .i64 i.kind, .int .i64 i.links, .int .i64 i.size, .slice ao i.dir.length cap, .int .i64 i.ind] 51)) := Chg.alloc (Chg.refl 0 0 w) _
  have B0 := heap_new w (.cells #[.int .i64 i.kind, .int .i64 i.links, .int .i64 i.size, .slice ao i.dir.length cap, .int .i64 i.ind] 51)
  have s0 : (w.alloc (.cells #[.int .i64 i.kind, .int .i64 i.links, .int .i64 i.size, .slice ao i.dir.length cap, .int .i64 i.ind] 51)).heap.size = w.heap.size + 1 := by simp
  have HB : Hid _ := B0
  have HC : Hid _ := C0
  have hN := specValidInode_calls (w.alloc (.cells #[.int .i64 i.kind, .int .i64 i.links, .int .i64 i.size, .slice ao i.dir.length cap, .int .i64 i.ind] 51)) i ao cap hl (hV.chg C0 (by omega))
  clear C0 B0 hV
  go_enter Tryd.func20, Tryd.ntmps20
  go_wp2_with fail
  generalize w.alloc (.cells #[.int .i64 i.kind, .int .i64 i.links, .int .i64 i.size, .slice ao i.dir.length cap, .int .i64 i.ind] 51) = w0 at *
  refine hN.mono ?_
  rintro e w1 ⟨rfl, h1⟩
  have HC1 : Hid _ := HC.out.trans h1
  have HB1 : Hid _ := (h1.block _ (by omega) (by omega)).trans HB.out
  have s1 := h1.size
  clear h1 hN HB HC
  by_cases hv : inoB i = true
  case neg =>
    have HE : Hid (encIno i = []) := by show _ = _; unfold encIno; rw [if_neg hv]
    have HO : Hid (OwnB (w1.alloc (.cells #[] 5)) w.heap.size 5 (.slice (some ⟨w1.heap.size, 0, none⟩) 0 0) []) := OwnB.bnil w1 _ (by omega)
    have HCe : Hid (Chg 0 0 w (w1.alloc (.cells #[] 5))) := HC1.out.alloc _
    rw [Bool.not_eq_true] at hv
    rw [hv]
    clear hv
    go_wp2
    go_ret
    exact ⟨_, rfl, by rw [HE.out]; exact HO.out, HCe.out⟩
  have HE : Hid (encIno i = inoL i) := by show _ = _; unfold encIno; rw [if_pos hv]
  obtain ⟨⟨a1, a2⟩, ⟨a3, a4⟩, ⟨a5, a6⟩, a7, a8, a9, a10⟩ := ino_good hv
  have Hs2 : Hid ((putN i.size 2).length = 2) := pn2 (by omega) (by omega)
  have Hi2 : Hid _ := pn2 (by omega) (by omega)
  have HD8 : Hid _ := a7
  have HDg : Hid _ := a8
  have HL : Hid (inoL i = [i.kind, i.links] ++ putN i.size 2 ++ putAll i.dir ++ putN i.ind 2 ++ List.replicate 10 0) := rfl
  have hbw : w.heap.size < w1.heap.size := by omega
  rw [hv]
  have hk : IntKind.u8.wrap i.kind = i.kind := wrap_u8 a1 (by omega)
  have hk2 : IntKind.u8.wrap i.links = i.links := wrap_u8 a3 (by omega)
  clear hv a7 a8
  go_upto_region 3 with fail
  go_cut [3] (fun s3 wx => ∃ g c, s3 = .slice (some ⟨g, 0, none⟩) 4 c ∧ OwnB wx w.heap.size 5 (.slice (some ⟨g, 0, none⟩) 4 c) ([i.kind, i.links] ++ putN i.size 2) ∧ Chg 0 0 w wx ∧ w.heap.size < wx.heap.size ∧ wx.heap[w.heap.size]? = some (.cells #[.int .i64 i.kind, .int .i64 i.links, .int .i64 i.size, .slice ao i.dir.length cap, .int .i64 i.ind] 51 (0, 0)))
  case first =>
    have HS0 : Hid ((fun w' : World => w'.heap[w.heap.size]? = some (.cells #[.int .i64 i.kind, .int .i64 i.links, .int .i64 i.size, .slice ao i.dir.length cap, .int .i64 i.ind] 51 (0, 0))) w1.drew) := HB1.out
    have HC0 : Hid (Chg 0 0 w w1.drew) := HC1.out.trans (Chg.drew (Chg.refl 0 0 w1))
    have hbd : w.heap.size < w1.drew.heap.size := hbw
    clear HB1 HC1
    refine held_region (fun w' : World => w'.heap[w.heap.size]? = some (.cells #[.int .i64 i.kind, .int .i64 i.links, .int .i64 i.size, .slice ao i.dir.length cap, .int .i64 i.ind] 51 (0, 0))) (by kernel_rfl) ?_
    generalize w1.drew = wd at *
    refine held_take 0 (.pointer (some ⟨w.heap.size, 0, none⟩)) rfl (by kernel_rfl) (by kernel_rfl) (by kernel_rfl) (fun _ _ _ h => h) (.inl ⟨by kernel_rfl, fun w' hw' => by go_simp⟩) HS0.out ?_
    go_simp
    refine held_take 1 (.int .i64 i.kind) rfl (by kernel_rfl) (by kernel_rfl) (by kernel_rfl) (fun _ _ _ h => h) (.inl ⟨by kernel_rfl, fun w' hw' => by obtain ⟨⟨h4, h5, h6, h7, h8⟩, _⟩ := ino_all hw'; go_simp⟩) HS0.out ?_
    go_simp
    refine held_take 2 (.int .u8 i.kind) rfl (by kernel_rfl) (by kernel_rfl) (by kernel_rfl) (fun _ _ _ h => h) (.inl ⟨by kernel_rfl, fun w' hw' => by go_simp⟩) HS0.out ?_
    go_simp
    refine held_take 3 (.pointer (some ⟨w.heap.size, 1, none⟩)) rfl (by kernel_rfl) (by kernel_rfl) (by kernel_rfl) (fun _ _ _ h => h) (.inl ⟨by kernel_rfl, fun w' hw' => by go_simp⟩) HS0.out ?_
    go_simp
    refine held_take 4 (.int .i64 i.links) rfl (by kernel_rfl) (by kernel_rfl) (by kernel_rfl) (fun _ _ _ h => h) (.inl ⟨by kernel_rfl, fun w' hw' => by obtain ⟨⟨h4, h5, h6, h7, h8⟩, _⟩ := ino_all hw'; go_simp⟩) HS0.out ?_
    go_simp
    refine held_take 5 (.int .u8 i.links) rfl (by kernel_rfl) (by kernel_rfl) (by kernel_rfl) (fun _ _ _ h => h) (.inl ⟨by kernel_rfl, fun w' hw' => by go_simp⟩) HS0.out ?_
    go_simp
    refine held_take 7 (.pointer (some ⟨w.heap.size, 2, none⟩)) rfl (by kernel_rfl) (by kernel_rfl) (by kernel_rfl) (fun _ _ _ h => h) (.inl ⟨by kernel_rfl, fun w' hw' => by go_simp⟩) HS0.out ?_
    go_simp
    refine held_take 8 (.int .i64 i.size) rfl (by kernel_rfl) (by kernel_rfl) (by kernel_rfl) (fun _ _ _ h => h) (.inl ⟨by kernel_rfl, fun w' hw' => by obtain ⟨⟨h4, h5, h6, h7, h8⟩, _⟩ := ino_all hw'; go_simp⟩) HS0.out ?_
    go_simp
    refine held_two 6 9 rfl rfl rfl rfl (by kernel_rfl) ?_ ?_
    · have Xwa := two_own wd w.heap.size i.kind i.links (by omega)
      have Cwa : Chg 0 0 wd (wd.alloc (.cells #[.int .u8 i.kind, .int .u8 i.links] 5)) := Chg.alloc (Chg.refl 0 0 wd) _
      have swa : (wd.alloc (.cells #[.int .u8 i.kind, .int .u8 i.links] 5)).heap.size = wd.heap.size + 1 := by simp
      obtain ⟨ic, hic, hcz0, hcz1, hcz2⟩ := info_parts Tryd.infoU1
      refine wp_buildSlice 24 5 2 #[(0, .tmp 11), (1, .tmp 14)] rfl #[.int .u8 i.kind, .int .u8 i.links] ic _ Tryd.underlying24 hic hcz0 (by rw [hcz1]; decide) (by rw [hcz1]; decide) (by rw [hcz1, Array.toList_map]; refine fill_two _ ?_ _ _ _; simp) ?_
      generalize wd.alloc (.cells #[.int .u8 i.kind, .int .u8 i.links] 5) = wa at *
      have HSwa : Hid _ := (Cwa.block _ (by omega) (by omega)).trans HS0.out
      refine ⟨HSwa.out, ?_⟩
      go_simp
      refine held_one 9 rfl rfl (by kernel_rfl) ?_
      refine wp_enter 38 #[.int .i64 i.size, .int .i64 2] (by first | kernel_rfl | go_simp) (specPut_calls wa i.size 2 (by omega)) ?_
      rintro e wb ⟨v5, rfl, o5, h5⟩
      have swb := h5.size
      obtain ⟨g5, c5, rfl⟩ := o5.some_of (by rw [Hs2.out]; omega)
      rw [Hs2.out] at o5
      rw [Hs2.out]
      have HSwb : Hid _ := (h5.block _ (by omega) (by omega)).trans HSwa.out
      refine ⟨_, rfl, HSwb.out, ?_⟩
      go_simp
      have hJ := l2Join_any (xs := [i.kind, i.links]) (ys := putN i.size 2) wb (by simp) (by rw [Hs2.out]; omega) ((Xwa.seen (by simp)).chg h5 (by omega)) (o5.seen (by rw [Hs2.out]; omega))
      have HCt : Hid _ := (HC0.out.trans Cwa).trans h5
      refine held_one 10 rfl rfl (by kernel_rfl) ?_
      refine wp_enter 19 #[.slice (some ⟨wd.heap.size, 0, none⟩) 2 2, .slice (some ⟨g5, 0, none⟩) 2 c5] (by first | kernel_rfl | go_simp) hJ ?_
      rintro e w9 ⟨v9, rfl, o9, h9⟩
      have H4 : Hid (([i.kind, i.links] ++ putN i.size 2).length = 4) := by show _ = _; rw [List.length_append, Hs2.out]; rfl
      obtain ⟨g9, c9, rfl⟩ := o9.some_of (by rw [H4.out]; omega)
      rw [H4.out] at o9
      rw [H4.out]
      have s9 := h9.size
      have HS9 : Hid _ := (h9.block _ (by omega) (by omega)).trans HSwb.out
      have HR : Hid (OwnB w9 w.heap.size 5 (.slice (some ⟨g9, 0, none⟩) 4 c9) ([i.kind, i.links] ++ putN i.size 2) ∧ Chg 0 0 w w9 ∧ w.heap.size < w9.heap.size ∧ w9.heap[w.heap.size]? = some (.cells #[.int .i64 i.kind, .int .i64 i.links, .int .i64 i.size, .slice ao i.dir.length cap, .int .i64 i.ind] 51 (0, 0))) := ⟨o9.base (fun g hg => by have := (o9.lt g hg).1; omega), HCt.out.trans h9, by omega, HS9.out⟩
      clear o9 h9 hJ
      refine ⟨_, rfl, HS9.out, ?_⟩
      go_simp
      refine held_one 11 rfl rfl (by kernel_rfl) ?_
      go_simp
      refine ⟨HS9.out, ?_⟩
      refine held_done (by kernel_rfl) (NoPanic.normal ?_)
      go_wp2
      go_meet
      exact ⟨g9, c9, rfl, HR.out⟩
    · refine wp_enter 38 #[.int .i64 i.size, .int .i64 2] (by first | kernel_rfl | go_simp) (specPut_calls wd i.size 2 (by omega)) ?_
      rintro e wa ⟨v5, rfl, o5, h5⟩
      have swa := h5.size
      obtain ⟨g5, c5, rfl⟩ := o5.some_of (by rw [Hs2.out]; omega)
      rw [Hs2.out] at o5
      rw [Hs2.out]
      have HSwa : Hid _ := (h5.block _ (by omega) (by omega)).trans HS0.out
      refine ⟨_, rfl, HSwa.out, ?_⟩
      go_simp
      refine held_one 6 rfl rfl (by kernel_rfl) ?_
      have Xwb := two_own wa w.heap.size i.kind i.links (by omega)
      have Cwb : Chg 0 0 wa (wa.alloc (.cells #[.int .u8 i.kind, .int .u8 i.links] 5)) := Chg.alloc (Chg.refl 0 0 wa) _
      have swb : (wa.alloc (.cells #[.int .u8 i.kind, .int .u8 i.links] 5)).heap.size = wa.heap.size + 1 := by simp
      obtain ⟨ic, hic, hcz0, hcz1, hcz2⟩ := info_parts Tryd.infoU1
      refine wp_buildSlice 24 5 2 #[(0, .tmp 11), (1, .tmp 14)] rfl #[.int .u8 i.kind, .int .u8 i.links] ic _ Tryd.underlying24 hic hcz0 (by rw [hcz1]; decide) (by rw [hcz1]; decide) (by rw [hcz1, Array.toList_map]; refine fill_two _ ?_ _ _ _; simp) ?_
      generalize wa.alloc (.cells #[.int .u8 i.kind, .int .u8 i.links] 5) = wb at *
      have HSwb : Hid _ := (Cwb.block _ (by omega) (by omega)).trans HSwa.out
      refine ⟨HSwb.out, ?_⟩
      go_simp
      have hJ := l2Join_any (xs := [i.kind, i.links]) (ys := putN i.size 2) wb (by simp) (by rw [Hs2.out]; omega) (Xwb.seen (by simp)) (((o5.seen (by rw [Hs2.out]; omega)).chg Cwb (by omega)).wide (by omega))
      have HCt : Hid _ := (HC0.out.trans h5).trans Cwb
      refine held_one 10 rfl rfl (by kernel_rfl) ?_
      refine wp_enter 19 #[.slice (some ⟨wa.heap.size, 0, none⟩) 2 2, .slice (some ⟨g5, 0, none⟩) 2 c5] (by first | kernel_rfl | go_simp) hJ ?_
      rintro e w9 ⟨v9, rfl, o9, h9⟩
      have H4 : Hid (([i.kind, i.links] ++ putN i.size 2).length = 4) := by show _ = _; rw [List.length_append, Hs2.out]; rfl
      obtain ⟨g9, c9, rfl⟩ := o9.some_of (by rw [H4.out]; omega)
      rw [H4.out] at o9
      rw [H4.out]
      have s9 := h9.size
      have HS9 : Hid _ := (h9.block _ (by omega) (by omega)).trans HSwb.out
      have HR : Hid (OwnB w9 w.heap.size 5 (.slice (some ⟨g9, 0, none⟩) 4 c9) ([i.kind, i.links] ++ putN i.size 2) ∧ Chg 0 0 w w9 ∧ w.heap.size < w9.heap.size ∧ w9.heap[w.heap.size]? = some (.cells #[.int .i64 i.kind, .int .i64 i.links, .int .i64 i.size, .slice ao i.dir.length cap, .int .i64 i.ind] 51 (0, 0))) := ⟨o9.base (fun g hg => by have := (o9.lt g hg).1; omega), HCt.out.trans h9, by omega, HS9.out⟩
      clear o9 h9 hJ
      refine ⟨_, rfl, HS9.out, ?_⟩
      go_simp
      refine held_one 11 rfl rfl (by kernel_rfl) ?_
      go_simp
      refine ⟨HS9.out, ?_⟩
      refine held_done (by kernel_rfl) (NoPanic.normal ?_)
      go_wp2
      go_meet
      exact ⟨g9, c9, rfl, HR.out⟩
  case rest =>
    obtain ⟨g, c, rfl, ho, hc, hsz, hb⟩ := hcut
    obtain ⟨b, off, rfl, _, _, hcell⟩ : ∃ b off, ao = some ⟨b, off, none⟩ ∧ lo ≤ b ∧ b < hi ∧ ∀ j, j < i.dir.length → w.cell? ⟨b, off + j, none⟩ = some (.int .i64 (i.dir.getD j 0)) := by
      obtain ⟨ao', cap', e, _, _, h3⟩ := HV.out
      simp only [Value.slice.injEq] at e
      rcases h3 with h3 | ⟨b, off, h4, h5, h6, h7⟩
      · have := HD8.out; rw [h3] at this; cases this
      · exact ⟨b, off, by rw [e.1, h4], h5, h6, h7⟩
    have HCell : Hid _ := hcell
    obtain ⟨x3, hx3⟩ : ∃ x : List Int, x = [i.kind, i.links] ++ putN i.size 2 := ⟨_, rfl⟩
    have Hx3 : Hid _ := hx3
    rw [← hx3] at ho
    have HX4 : Hid (x3.length = 4) := by show _ = _; rw [hx3, List.length_append, Hs2.out]; rfl
    have HLen : Hid (∀ k, k ≤ 8 → (x3 ++ putAll (i.dir.take k)).length = 4 + 2 * k) := by
      intro k hk
      rw [List.length_append, HX4.out, putAll_len (fun x hx => HDg.out x (List.mem_of_mem_take hx)), List.length_take, HD8.out]
      omega
    have HO0 : Hid (OwnB wc w.heap.size 5 (.slice (some ⟨g, 0, none⟩) 4 c) (x3 ++ putAll (i.dir.take 0))) := by
      rw [show putAll (i.dir.take 0) = [] from rfl, List.append_nil]; exact ho
    have HC0 : Hid _ := hc
    have HBc : Hid _ := hb
    clear hx3 hcell ho hc hb HB1 HC1
    go_wp2
    go_loopw [3, 4] (fun s3 s4 wr => ∃ (k g c : Nat), k ≤ 8 ∧ s4 = .int .i64 k ∧ s3 = .slice (some ⟨g, 0, none⟩) (4 + 2 * k) c ∧ OwnB wr w.heap.size 5 (.slice (some ⟨g, 0, none⟩) (4 + 2 * k) c) (x3 ++ putAll (i.dir.take k)) ∧ Chg 0 0 w wr ∧ w.heap.size < wr.heap.size ∧ wr.heap[w.heap.size]? = some (.cells #[.int .i64 i.kind, .int .i64 i.links, .int .i64 i.size, .slice (some ⟨b, off, none⟩) i.dir.length cap, .int .i64 i.ind] 51 (0, 0))) (fun _ s4 _ => 8 - (intOf s4).toNat)
    case atStart => exact ⟨0, g, c, Nat.zero_le _, rfl, rfl, HO0.out, HC0.out, hsz, HBc.out⟩
    case round =>
      clear HO0 HC0 HBc
      obtain ⟨k, g, c, hk, rfl, rfl, ho, hch, hsz, hb⟩ := hrel
      have HC : Hid _ := hch
      have HB : Hid _ := hb
      have HO : Hid (OwnB wr w.heap.size 5 (.slice (some ⟨g, 0, none⟩) (4 + 2 * k) c) (x3 ++ putAll (i.dir.take k))) := ho
      obtain ⟨⟨q0, q1, q2, q3, q4⟩, _⟩ := ino_all hb
      have hl8 := HD8.out
      by_cases hlt : k < 8
      · have hi' : (k : Int) < (i.dir.length : Int) := by omega
        have d0 := hch.cell (HCell.out k (by omega)) (by omega)
        have hg := goodI_iff.1 (HDg.out (i.dir.getD k 0) (by rw [List.getD_eq_getElem?_getD, List.getElem?_eq_getElem (by omega)]; exact List.getElem_mem _))
        have HT : Hid _ := putAll_take i.dir k (by omega)
        have HLk := HLen.out k hk
        have HLk1 := HLen.out (k + 1) (by omega)
        have Hd2 : Hid _ := pn2 hg.1 (by omega)
        generalize i.dir.getD k 0 = dk at *
        have hP := specPut_calls wr dk 2 (by omega)
        clear ho hch hb hl8
        go_wp2_with fail
        refine hP.mono ?_
        rintro e w5 ⟨v5, rfl, o5, h5⟩
        have s5 := h5.size
        have vx := (HO.out.seen (by omega)).chg h5 (by omega)
        have vy := o5.seen (by rw [Hd2.out]; omega)
        obtain ⟨g5, c5, rfl⟩ := o5.some_of (by rw [Hd2.out]; omega)
        rw [Hd2.out] at vy
        rw [Hd2.out]
        have hJ := l2Join_any (xs := x3 ++ putAll (i.dir.take k)) (ys := putN dk 2) w5 (by omega) (by rw [Hd2.out]; omega) vx vy
        have HC5 : Hid _ := HC.out.trans h5
        have HB5 : Hid _ := (h5.block _ (by omega) (by omega)).trans HB.out
        rw [List.append_assoc, ← HT.out] at hJ
        clear hP o5 h5 vx vy HO HC HB q0 q1 q2 q3 q4 d0
        go_wp2_with fail
        refine hJ.mono ?_
        rintro e w6 ⟨v6, rfl, o6, h6⟩
        obtain ⟨g6, c6, rfl⟩ := o6.some_of (by omega)
        rw [HLk1] at o6
        rw [HLk1]
        have s6 := h6.size
        have HR : Hid (OwnB w6 w.heap.size 5 (.slice (some ⟨g6, 0, none⟩) (4 + 2 * (k + 1)) c6) (x3 ++ putAll (i.dir.take (k + 1))) ∧ Chg 0 0 w w6 ∧ w.heap.size < w6.heap.size ∧ w6.heap[w.heap.size]? = some (.cells #[.int .i64 i.kind, .int .i64 i.links, .int .i64 i.size, .slice (some ⟨b, off, none⟩) i.dir.length cap, .int .i64 i.ind] 51 (0, 0))) := ⟨o6.base (fun g hg => by have := (o6.lt g hg).1; omega), HC5.out.trans h6, by omega, (h6.block _ (by omega) (by omega)).trans HB5.out⟩
        clear hJ o6 h6 HC5 HB5 HLk HLk1
        go_wp2
        go_roundw
        case rel => exact ⟨k + 1, g6, c6, by omega, by go_num, rfl, HR.out⟩
        case measure => simp [intOf]; omega
      · obtain rfl : k = 8 := by omega
        have hnl : ¬ ((8 : Nat) : Int) < (i.dir.length : Int) := by omega
        have HX8 : Hid ((x3 ++ putAll i.dir).length = 20) := by
          have := HLen.out 8 (by omega)
          rw [List.take_of_length_le (by omega)] at this
          exact this
        have HO8 : Hid (OwnB wr w.heap.size 5 (.slice (some ⟨g, 0, none⟩) 20 c) (x3 ++ putAll i.dir)) := by
          have := ho
          rw [List.take_of_length_le (by omega)] at this
          exact this
        obtain ⟨x8, hx8⟩ : ∃ x : List Int, x = x3 ++ putAll i.dir := ⟨_, rfl⟩
        have Hx8 : Hid _ := hx8
        rw [← hx8] at HO8 HX8
        have HIL : Hid (encIno i = (x8 ++ putN i.ind 2) ++ List.replicate 10 0) := by show _ = _; rw [HE.out, HL.out, Hx8.out, Hx3.out]
        have hP := specPut_calls wr i.ind 2 (by omega)
        clear ho hch hb hl8 HO hx8 Hx8 HLen
        go_wp2_with fail
        refine hP.mono ?_
        rintro e w5 ⟨v5, rfl, o5, h5⟩
        have s5 := h5.size
        have vx := (HO8.out.seen (by rw [HX8.out]; omega)).chg h5 (by omega)
        have vy := o5.seen (by rw [Hi2.out]; omega)
        obtain ⟨g5, c5, rfl⟩ := o5.some_of (by rw [Hi2.out]; omega)
        rw [Hi2.out] at vy
        rw [Hi2.out]
        have hJ := l2Join_any (xs := x8) (ys := putN i.ind 2) w5 (by rw [HX8.out]; omega) (by rw [Hi2.out]; omega) vx vy
        have HC5 : Hid _ := HC.out.trans h5
        clear hP o5 h5 vx vy HO8 HC HB q0 q1 q2 q3 q4
        go_wp2_with fail
        refine hJ.mono ?_
        rintro e w6 ⟨v6, rfl, o6, h6⟩
        obtain ⟨y6, hy6⟩ : ∃ x : List Int, x = x8 ++ putN i.ind 2 := ⟨_, rfl⟩
        have Hy6 : Hid _ := hy6
        have HY22 : Hid (y6.length = 22) := by show _ = _; rw [hy6, List.length_append, HX8.out, Hi2.out]
        rw [← hy6] at o6
        have o6' := o6
        obtain ⟨g6, c6, rfl⟩ := o6'.some_of (by rw [HY22.out]; omega)
        have s6 := h6.size
        have HC6 : Hid _ := HC5.out.trans h6
        have HO6 : Hid (OwnB w6 w5.heap.size 5 (.slice (some ⟨g6, 0, none⟩) y6.length c6) y6) := o6
        have hZ := l2Zero_calls w6 10 (by omega)
        have Hz10 : Hid ((List.replicate 10 (0 : Int)).length = 10) := by show _ = _; rw [List.length_replicate]
        clear hJ o6 o6' h6 HC5 hy6
        go_wp2_with fail
        refine hZ.mono ?_
        rintro e w7 ⟨g7, rfl, o7, h7⟩
        have s7 := h7.size
        have vx := (HO6.out.seen (by rw [HY22.out]; omega)).chg h7 (by omega)
        have vy := o7.seen (by rw [Hz10.out]; omega)
        have hJ := l2Join_any (xs := y6) (ys := List.replicate 10 0) w7 (by rw [HY22.out]; omega) (by rw [Hz10.out]; omega) vx vy
        have HC7 : Hid _ := HC6.out.trans h7
        rw [show y6 ++ List.replicate 10 0 = encIno i from by rw [HIL.out, Hy6.out]] at hJ
        clear hZ o7 h7 vx vy HO6 HC6
        go_wp2_with fail
        refine hJ.mono ?_
        rintro e w8 ⟨v8, rfl, o8, h8⟩
        have HR : Hid (OwnB w8 w.heap.size 5 v8 (encIno i) ∧ Chg 0 0 w w8) := ⟨o8.base (fun g hg => by have := (o8.lt g hg).1; omega), HC7.out.trans h8⟩
        clear hJ o8 h8 HC7
        go_wp2
        go_ret
        exact ⟨_, rfl, HR.out⟩

end Go.Proofs.YtmfkgnifkkkkiaaDoor
