/- A line of the program, parsed. -/
import Derived.Test.YteaeikmgkmpkiaaGreatDoorShelfSplit
import Derived.Test.YteaeikmgkmpkiaaGreatDoorCutMath
import Derived.Test.YteaeikmgkmpkiaaGreatDoorDecL
import Derived.Test.YteaeikmgkmpkiaaGreatDoorBytSeen
namespace Go.Proofs.YteaeikmgkmpkiaaGreatDoor
open Go.RowKit Go.Lib

def cmdOf (key : ByteArray) : List Cmd → Option Cmd
  | [] => none
  | c :: r => if c.key = key then some c else cmdOf key r
theorem look_some {b0 : Nat} {W : World} {key : ByteArray} {v : Value} : ∀ (cs : List Cmd) (ps : List (ByteArray × Value)), CmdOk b0 W cs ps → ∀ n : Nat, ps[n]? = some (key, v) → (∀ m, m < n → ∀ p : ByteArray × Value, ps[m]? = some p → p.1 ≠ key) →
    ∃ c sv, c ∈ cs ∧ cmdOf key cs = some c ∧ v = cmdV c.line c.call sv c.nums ∧ FnR b0 W sv c.fns
  | [], [], _, n, h, _ => by simp at h
  | c :: cs, p :: ps, ⟨h1, ⟨sv, h2, h3⟩, h4⟩, 0, h, _ => by
    simp only [List.getElem?_cons_zero, Option.some.injEq] at h
    subst h
    exact ⟨c, sv, List.mem_cons_self .., by unfold cmdOf; rw [if_pos h1.symm], h2, h3⟩
  | c :: cs, p :: ps, ⟨h1, h2, h4⟩, n + 1, h, hl => by
    obtain ⟨d, sv, e0, e1, e2, e3⟩ := look_some cs ps h4 n (by simpa using h) (fun m hm q hq => hl (m + 1) (by omega) q (by simpa using hq))
    refine ⟨d, sv, List.mem_cons_of_mem _ e0, ?_, e2, e3⟩
    have hne := hl 0 (by omega) p rfl
    unfold cmdOf
    rw [if_neg (by rw [← h1]; exact hne)]
    exact e1
  | [], _ :: _, h, _, _, _ => h.elim
  | _ :: _, [], h, _, _, _ => h.elim
theorem look_none {b0 : Nat} {W : World} {key : ByteArray} : ∀ (cs : List Cmd) (ps : List (ByteArray × Value)), CmdOk b0 W cs ps → (∀ p ∈ ps, p.1 ≠ key) → cmdOf key cs = none
  | [], [], _, _ => rfl
  | c :: cs, p :: ps, ⟨h1, h2, h4⟩, h => by
    unfold cmdOf
    rw [if_neg (by rw [← h1]; exact h p (List.mem_cons_self ..))]
    exact look_none cs ps h4 (fun q hq => h q (List.mem_cons_of_mem _ hq))
  | [], _ :: _, h, _ => h.elim
  | _ :: _, [], h, _ => h.elim

def zeroL : Lst := ⟨0, 0, ⟨#[]⟩, ⟨#[]⟩, 0, 0, 0, ⟨#[]⟩, []⟩
def startC (c : Cmd) : Lst := ⟨c.line, c.call, ⟨#[]⟩, ⟨#[]⟩, 0, 0, 0, ⟨#[]⟩, []⟩
abbrev lineV (s : Lst) (nv : Value) : Value := .agg (cLine s nv)
/-- The line that the fields make. -/
def fieldsOf (f : List ByteArray) : Option Lst :=
  match cmdOf (f.getD 0 noText) theCmds with
  | none => none
  | some c => if containsS f ⟨#[]⟩ = true then none else if c.fns.length ≤ f.tail.length ∧ (f.tail.length : Int) ≤ c.fns.length + c.nums then takeAll c.fns 0 f.tail (startC c) else none
def lineOf (s : ByteArray) : Option Lst := if 65536 < s.size then none else fieldsOf (cutD s 32)

theorem cmds_known : ∀ c ∈ theCmds, (∀ f ∈ c.fns, f ∈ known) ∧ c.fns.length ≤ 4 ∧ 0 ≤ c.nums ∧ c.nums ≤ 600 := by decide

theorem nine_all {w : World} {s : Nat} {a b c d e f g h i : Value} {t : TypeId} (hh : w.heap[s]? = some (.cells #[a, b, c, d, e, f, g, h, i] t (0, 0))) :
    (w.cell? ⟨s, 0, none⟩ = some a ∧ w.cell? ⟨s, 1, none⟩ = some b ∧ w.cell? ⟨s, 2, none⟩ = some c ∧ w.cell? ⟨s, 3, none⟩ = some d ∧ w.cell? ⟨s, 4, none⟩ = some e ∧ w.cell? ⟨s, 5, none⟩ = some f ∧ w.cell? ⟨s, 6, none⟩ = some g ∧ w.cell? ⟨s, 7, none⟩ = some h ∧ w.cell? ⟨s, 8, none⟩ = some i) ∧
      w.frozen? ⟨s, 0, none⟩ = false ∧ w.frozen? ⟨s, 1, none⟩ = false ∧ w.frozen? ⟨s, 2, none⟩ = false ∧ w.frozen? ⟨s, 3, none⟩ = false ∧ w.frozen? ⟨s, 4, none⟩ = false ∧ w.frozen? ⟨s, 5, none⟩ = false ∧ w.frozen? ⟨s, 6, none⟩ = false ∧ w.frozen? ⟨s, 7, none⟩ = false ∧ w.frozen? ⟨s, 8, none⟩ = false := by
  simp [World.cell?, World.frozen?, hh]

theorem FnR.at {b0 : Nat} {W : World} {sv : Value} {fns : List Nat} (h : FnR b0 W sv fns) : ∃ ao, sv = .slice ao fns.length fns.length ∧ ∀ i, i < fns.length → ∃ g, ao = some ⟨g, 0, none⟩ ∧ g < W.heap.size ∧ W.cell? ⟨g, i, none⟩ = some (fnV (fnAt fns i)) := by
  rcases h with ⟨rfl, rfl⟩ | ⟨g, rfl, hg, hh⟩
  · exact ⟨none, rfl, fun i hi => by simp at hi⟩
  · refine ⟨_, rfl, fun i hi => ⟨g, rfl, (Array.getElem?_eq_some_iff.1 hh).1, ?_⟩⟩
    rw [Lib.cell_of_heap hh]
    simp [fnAt, List.getD_eq_getElem?_getD, hi]

theorem synE_chg {w w' : World} (h : SynE w) (c : Chg 0 0 w w') : SynE w' := by
  obtain ⟨te, pe, h⟩ := h
  exact ⟨te, pe, c.cell h (by omega)⟩

theorem OwnN.low {w : World} {base base' : Nat} {v : Value} {xs : List Int} (h : OwnN w base v xs) (hb : base' ≤ base) : OwnN w base' v xs := by
  obtain ⟨h1, h2⟩ := h
  refine ⟨h1, ?_⟩
  rcases h2 with h2 | ⟨g, cap, cur, hv, hg, rest⟩
  · exact Or.inl h2
  · exact Or.inr ⟨g, cap, cur, hv, by omega, rest⟩

theorem OwnN.set {w : World} {base : Nat} {v : Value} {xs : List Int} (h : OwnN w base v xs) (b i : Nat) (x : Value) (hb : b < base) : OwnN (w.setCell ⟨b, i, none⟩ x) base v xs :=
  h.chg ((Chg.refl b (b + 1) w).setCell (p := ⟨b, i, none⟩) (Or.inl ⟨Nat.le_refl _, Nat.lt_succ_self _⟩) _) (Or.inl hb)

theorem OwnN.slice {w : World} {base : Nat} {v : Value} {xs : List Int} (h : OwnN w base v xs) : ∃ a n c, v = .slice a n c := by
  rcases h.2 with ⟨rfl, _⟩ | ⟨g, cap, cur, rfl, _⟩
  · exact ⟨_, _, _, rfl⟩
  · exact ⟨_, _, _, rfl⟩

def Blank (w : World) : Prop := ∃ m : Int, w.cell? ⟨0, 0, none⟩ = some (.int .i64 m)

set_option maxRecDepth 20000 in
set_option maxHeartbeats 4000000 in
theorem parsed_calls (w0 w : World) {lo hi : Nat} (v : Value) (s : ByteArray) (xs : List Int) (hv : View w lo hi .u8 v xs) (hs : strOfNums xs = s) (hl : xs.length ≤ 1048576) (hC : CmdW w0 w theCmds)
    (hS : SynE w) (hR : RanE w) (hP : Pow w) (hB : Blank w) (hgb : 8 ≤ w.heap.size) :
    Calls Tryz.prog 18 #[v, .map (some w0.heap.size)] w fun e w' => ∃ nv, e = .returned (lineV ((lineOf s).getD zeroL) nv) ∧ OwnN w' w.heap.size nv ((lineOf s).getD zeroL).nums ∧ Chg 0 0 w w' := by
  have hsz : s.size = xs.length := by rw [← hs, strOfNums_size]
  have hst : ∀ W, Chg 0 0 w W → (convert 22 9 v).run Tryz.prog W = .ok (.string s) W := fun W c => by rw [← hs]; exact (hv.chg c (by omega)).str
  obtain ⟨ao, cap, rfl, _⟩ := hv
  have hst1 : (convert 22 9 (.slice ao xs.length cap)).run Tryz.prog (w.alloc (.cells #[.int .i64 0, .int .i64 0, .string ⟨#[]⟩, .string ⟨#[]⟩, .int .i64 0, .int .i64 0, .int .i64 0, .string ⟨#[]⟩, .slice none 0 0] 27)) = .ok (.string s) (w.alloc (.cells #[.int .i64 0, .int .i64 0, .string ⟨#[]⟩, .string ⟨#[]⟩, .int .i64 0, .int .i64 0, .int .i64 0, .string ⟨#[]⟩, .slice none 0 0] 27)) := hst _ (Chg.alloc (Chg.refl 0 0 w) _)
  have HA : Hid (Chg 0 0 w (w.alloc (.cells #[.int .i64 0, .int .i64 0, .string ⟨#[]⟩, .string ⟨#[]⟩, .int .i64 0, .int .i64 0, .int .i64 0, .string ⟨#[]⟩, .slice none 0 0] 27))) := Chg.alloc (Chg.refl 0 0 w) _
  have hmx : Tryz.prog.follows .mixedOrders = true := by kernel_rfl
  go_enter Tryz.func18, Tryz.ntmps18
  by_cases hbig : 65536 < s.size
  · have hn : lineOf s = none := by unfold lineOf; rw [if_pos hbig]
    rw [hn]
    have hb2 : (65536 : Int) < (xs.length : Int) := by omega
    clear hst hst1
    go_wp2
    exact bodyPost_ret (v := lineV zeroL (.slice none 0 0)) (by simp [results, Tryz.results18, go_sem, zeroL]) rfl ⟨_, rfl, World.ownsRow_nil _ _ _ _, HA.out⟩
  · have hb2 : ¬ ((65536 : Int) < (xs.length : Int)) := by omega
    have hn : lineOf s = fieldsOf (cutD s 32) := by unfold lineOf; rw [if_neg hbig]
    obtain ⟨RES, HRES⟩ : ∃ R, Hid (R = fieldsOf (cutD s 32)) := ⟨_, rfl⟩
    rw [hn, ← HRES.out]
    obtain ⟨mx, hmx⟩ := hB
    have hmx1 := HA.out.cell hmx (by omega)
    have HB1 : Hid ((w.alloc (.cells #[.int .i64 0, .int .i64 0, .string ⟨#[]⟩, .string ⟨#[]⟩, .int .i64 0, .int .i64 0, .int .i64 0, .string ⟨#[]⟩, .slice none 0 0] 27)).heap[w.heap.size]? = some (.cells (cLine zeroL (.slice none 0 0)) 27 (0, 0))) := heap_new w _
    go_wp2_with fail
    refine (splitBlank_calls _ s mx (by omega) hmx1).mono ?_
    rintro e W2 ⟨rfl, hW2⟩
    have hsize : (w.alloc (.cells #[.int .i64 0, .int .i64 0, .string ⟨#[]⟩, .string ⟨#[]⟩, .int .i64 0, .int .i64 0, .int .i64 0, .string ⟨#[]⟩, .slice none 0 0] 27)).heap.size = w.heap.size + 1 := by simp
    have hF1 : 1 ≤ (cutD s 32).length := by rw [cutD_len]; omega
    have hF2 : (cutD s 32).length ≤ 65537 := by have := cutD_le s; omega
    have HF3 : Hid (∀ x ∈ cutD s 32, x.size ≤ 1048576) := fun x hx => by have := cutD_small s x hx; omega
    have c2 : Chg 0 0 w W2 := by rw [hW2]; exact Chg.alloc HA.out _
    have HG2 : Hid (W2.heap[w.heap.size + 1]? = some (.cells ((cutD s 32).map Value.string).toArray 9 (0, 0))) := by
      have h := heap_new (w.alloc (.cells #[.int .i64 0, .int .i64 0, .string ⟨#[]⟩, .string ⟨#[]⟩, .int .i64 0, .int .i64 0, .int .i64 0, .string ⟨#[]⟩, .slice none 0 0] 27)) (.cells ((cutD s 32).map Value.string).toArray 9)
      rw [hsize] at h
      rw [hW2]; exact h
    have HR2 : Hid (W2.heap[w.heap.size]? = some (.cells (cLine zeroL (.slice none 0 0)) 27 (0, 0))) := by
      have h := (Chg.alloc (Chg.refl 0 0 (w.alloc (.cells #[.int .i64 0, .int .i64 0, .string ⟨#[]⟩, .string ⟨#[]⟩, .int .i64 0, .int .i64 0, .int .i64 0, .string ⟨#[]⟩, .slice none 0 0] 27))) (.cells ((cutD s 32).map Value.string).toArray 9)).block w.heap.size (by rw [hsize]; omega) (by omega)
      show _ = _
      rw [hW2, h]; exact HB1.out
    have hs2 : W2.heap.size = w.heap.size + 2 := by rw [hW2]; simp
    rw [hsize]
    obtain ⟨ps, hM, hO, hc0⟩ := hC.chg c2
    have hS2 : SynE W2 := by obtain ⟨te, pe, h⟩ := hS; exact ⟨te, pe, c2.cell h (by omega)⟩
    have hR2 := hR.chg c2
    have hP2 := hP.chg c2
    have HC2 : Hid (Chg 0 0 w W2) := c2
    have hw0 : w0.heap.size < w.heap.size := hC.lt
    generalize cutD s 32 = F at *
    clear HA HB1 hmx1 hW2 hst hst1 hmx hsize c2 hC hc0 hS hR hP hn hbig hb2 hs hl hsz
    have hcell : ∀ i, i < F.length → W2.cell? ⟨w.heap.size + 1, i, none⟩ = some (.string (F.getD i noText)) := fun i hi => by
      rw [Lib.cell_of_heap HG2.out]
      simp [List.getD_eq_getElem?_getD, hi]
    have hk0 := hcell 0 (by omega)
    have hpos : (0 : Int) < (F.length : Int) := by omega
    obtain ⟨lv, ok, hlk, hcase⟩ := run_lookT hM Tryz.underlying43 Tryz.underlying9 (z := cmdV 0 0 (.slice none 0 0) 0) (by rfl) (F.getD 0 noText)
    rcases hcase with ⟨rfl, nn, hn1, hn2⟩ | ⟨rfl, rfl, hno⟩
    · obtain ⟨c, sv, hcm, hcmd, rfl, hFn⟩ := look_some _ _ hO nn hn1 hn2
      obtain ⟨ao2, rfl, hFz⟩ := hFn.at
      obtain ⟨hkn, hl4, hnm0, hnm1⟩ := cmds_known c hcm
      obtain ⟨⟨x0, x1, x2, x3, x4, x5, x6, x7, x8⟩, f0, f1, f2, f3, f4, f5, f6, f7, f8⟩ := nine_all HR2.out
      have HRS : Hid (RES = if containsS F ⟨#[]⟩ = true then none else if c.fns.length ≤ F.tail.length ∧ (F.tail.length : Int) ≤ c.fns.length + c.nums then takeAll c.fns 0 F.tail (startC c) else none) := by
        show _ = _
        rw [HRES.out]
        unfold fieldsOf
        rw [hcmd]
      have HFn : Hid (∀ i, i < c.fns.length → ∃ g, ao2 = some ⟨g, 0, none⟩ ∧ g < W2.heap.size ∧ W2.cell? ⟨g, i, none⟩ = some (fnV (fnAt c.fns i))) := hFz
      have Hkn : Hid (∀ f ∈ c.fns, f ∈ known) := hkn
      have HS2 : Hid (SynE W2) := hS2
      have HR3 : Hid (RanE W2) := hR2
      have HP2 : Hid (Pow W2) := hP2
      have hcc := fun W hc => Any.slices_Contains_string Tryz.lays110 (w.heap.size + 1) 0 F.length F.length F ⟨#[]⟩ W (Nat.le_refl _) (by omega) hc
      rw [List.take_length] at hcc
      generalize F.getD 0 noText = key at *
      clear hFn hFz hn1 hn2 hcmd hcm hM hO HRES hS2 hR2 hP2 hkn
      by_cases hct : containsS F ⟨#[]⟩ = true
      · have HN : Hid (RES = none) := by show _ = _; rw [HRS.out, if_pos hct]
        rw [hct] at hcc
        go_wp2_with fail
        refine (hcc _ (fun j hj => ?_)).mono ?_
        · rw [Nat.zero_add]
          exact (Chg.alloc (Chg.refl 0 0 W2) _).cell (hcell j hj) (by omega)
        rintro e W4 ⟨rfl, rfl⟩
        go_wp2
        exact bodyPost_ret (v := lineV zeroL (.slice none 0 0)) (by simp [results, Tryz.results18, go_sem, zeroL, *]) rfl ⟨_, by rw [HN.out]; rfl, by rw [HN.out]; exact World.ownsRow_nil _ _ _ _, Chg.alloc (Chg.setCell (Chg.setCell (Chg.setCell (Chg.setCell (Chg.setCell (Chg.setCell (Chg.setCell (Chg.setCell (Chg.setCell HC2.out (Or.inr (Nat.le_refl _)) _) (Or.inr (Nat.le_refl _)) _) (Or.inr (Nat.le_refl _)) _) (Or.inr (Nat.le_refl _)) _) (Or.inr (Nat.le_refl _)) _) (Or.inr (Nat.le_refl _)) _) (Or.inr (Nat.le_refl _)) _) (Or.inr (Nat.le_refl _)) _) (Or.inr (Nat.le_refl _)) _) _⟩
      · have hcf : containsS F ⟨#[]⟩ = false := by simpa using hct
        rw [hcf] at hcc
        go_wp2_with fail
        refine (hcc _ (fun j hj => ?_)).mono ?_
        · rw [Nat.zero_add]
          exact (Chg.alloc (Chg.refl 0 0 W2) _).cell (hcell j hj) (by omega)
        rintro e W4 ⟨rfl, rfl⟩
        go_wp2_with fail
        have HBX : Hid (((W2.alloc (.cells #[.int .i64 c.line, .int .i64 c.call, .slice ao2 c.fns.length c.fns.length, .int .i64 c.nums] 57)).alloc (.cells #[.int .i64 c.line, .int .i64 c.call, .string ⟨#[]⟩, .string ⟨#[]⟩, .int .i64 0, .int .i64 0, .int .i64 0, .string ⟨#[]⟩, .slice none 0 0] 27)).heap[w.heap.size + 2]? = some (.cells #[.int .i64 c.line, .int .i64 c.call, .slice ao2 c.fns.length c.fns.length, .int .i64 c.nums] 57 (0, 0))) := by
          have h := heap_new W2 (.cells #[.int .i64 c.line, .int .i64 c.call, .slice ao2 c.fns.length c.fns.length, .int .i64 c.nums] 57)
          rw [hs2] at h
          exact ((Chg.alloc (Chg.refl 0 0 _) _).block _ (by simp; omega) (by omega)).trans h
        have HLN : Hid (LineAt ((W2.alloc (.cells #[.int .i64 c.line, .int .i64 c.call, .slice ao2 c.fns.length c.fns.length, .int .i64 c.nums] 57)).alloc (.cells #[.int .i64 c.line, .int .i64 c.call, .string ⟨#[]⟩, .string ⟨#[]⟩, .int .i64 0, .int .i64 0, .int .i64 0, .string ⟨#[]⟩, .slice none 0 0] 27)) (w.heap.size + 3) (startC c)) := by
          have h := heap_new (W2.alloc (.cells #[.int .i64 c.line, .int .i64 c.call, .slice ao2 c.fns.length c.fns.length, .int .i64 c.nums] 57)) (.cells #[.int .i64 c.line, .int .i64 c.call, .string ⟨#[]⟩, .string ⟨#[]⟩, .int .i64 0, .int .i64 0, .int .i64 0, .string ⟨#[]⟩, .slice none 0 0] 27)
          rw [show (W2.alloc (.cells #[.int .i64 c.line, .int .i64 c.call, .slice ao2 c.fns.length c.fns.length, .int .i64 c.nums] 57)).heap.size = w.heap.size + 3 by simp; omega] at h
          exact ⟨_, h, World.ownsRow_nil _ _ _ _⟩
        have HV2 : Hid (Chg 0 0 W2 ((W2.alloc (.cells #[.int .i64 c.line, .int .i64 c.call, .slice ao2 c.fns.length c.fns.length, .int .i64 c.nums] 57)).alloc (.cells #[.int .i64 c.line, .int .i64 c.call, .string ⟨#[]⟩, .string ⟨#[]⟩, .int .i64 0, .int .i64 0, .int .i64 0, .string ⟨#[]⟩, .slice none 0 0] 27))) := (Chg.alloc (Chg.refl 0 0 _) _).alloc _
        have hvs : w.heap.size + 4 ≤ ((W2.alloc (.cells #[.int .i64 c.line, .int .i64 c.call, .slice ao2 c.fns.length c.fns.length, .int .i64 c.nums] 57)).alloc (.cells #[.int .i64 c.line, .int .i64 c.call, .string ⟨#[]⟩, .string ⟨#[]⟩, .int .i64 0, .int .i64 0, .int .i64 0, .string ⟨#[]⟩, .slice none 0 0] 27)).heap.size := by simp; omega
        rw [show w.heap.size + 2 + 1 = w.heap.size + 3 from rfl]
        generalize (W2.alloc (.cells #[.int .i64 c.line, .int .i64 c.call, .slice ao2 c.fns.length c.fns.length, .int .i64 c.nums] 57)).alloc (.cells #[.int .i64 c.line, .int .i64 c.call, .string ⟨#[]⟩, .string ⟨#[]⟩, .int .i64 0, .int .i64 0, .int .i64 0, .string ⟨#[]⟩, .slice none 0 0] 27) = V at *
        have htl : F.tail.length = F.length - 1 := List.length_tail
        have HT : Hid (RES = if c.fns.length ≤ F.tail.length ∧ (F.tail.length : Int) ≤ c.fns.length + c.nums then takeAll c.fns 0 F.tail (startC c) else none) := by
          show _ = _
          rw [HRS.out, if_neg hct]
        obtain ⟨fo, HFO⟩ : ∃ fo : Nat, Hid (fo = if F.length = 1 then 0 else 1) := ⟨_, rfl⟩
        have HVt : Hid (∀ W, Chg (w.heap.size + 3) V.heap.size V W → ∀ i, i < F.tail.length → ∃ g off, some (⟨w.heap.size + 1, fo, none⟩ : Addr) = some ⟨g, off, none⟩ ∧ g < w.heap.size + 3 ∧ W.cell? ⟨g, off + i, none⟩ = some (.string (F.tail.getD i noText))) := fun W cW i hi => by
          have hf1 : fo = 1 := by rw [HFO.out, if_neg (by omega)]
          refine ⟨_, _, rfl, by omega, ?_⟩
          have h := hcell (i + 1) (by omega)
          have h2 := HV2.out.cell h (by omega)
          have h3 := cW.cell h2 (Or.inl (by show w.heap.size + 1 < _; omega))
          rw [hf1, Nat.add_comm 1 i, h3]
          cases F with
          | nil => simp at hi
          | cons x r => rfl
        have HFt : Hid (∀ W, Chg (w.heap.size + 3) V.heap.size V W → ∀ i, i < c.fns.length → ∃ g, ao2 = some ⟨g, 0, none⟩ ∧ g < w.heap.size + 3 ∧ W.cell? ⟨g, i, none⟩ = some (fnV (fnAt c.fns i))) := fun W cW i hi => by
          obtain ⟨g, e, hg, hh⟩ := HFn.out i hi
          refine ⟨g, e, by omega, ?_⟩
          exact cW.cell (HV2.out.cell hh (by omega)) (Or.inl (by show g < _; omega))
        have HFs : Hid (∀ x ∈ F.tail, x.size ≤ 1048576) := fun x hx => HF3.out x (List.mem_of_mem_tail hx)
        have HRV : Hid (V.heap[w.heap.size]? = some (.cells (cLine zeroL (.slice none 0 0)) 27 (0, 0))) := (HV2.out.block _ (by omega) (by omega)).trans HR2.out
        clear hcell HFn HF3 HR2 HG2 hcc x0 x1 x2 x3 x4 x5 x6 x7 x8 f0 f1 f2 f3 f4 f5 f6 f7 f8 HRS
        refine held_region (fun W => Chg (w.heap.size + 3) V.heap.size V W) hmx ?_
        have HRr : Hid (Chg (w.heap.size + 3) V.heap.size V V.drew) := Chg.drew (Chg.refl _ _ V)
        have HR0 : Hid (Chg 0 0 V V.drew) := Chg.drew (Chg.refl 0 0 V)
        generalize V.drew = wd at *
        have hF1i : (1 : Int) ≤ (F.length : Int) := by omega
        refine held_take 0 (cmdV c.line c.call (.slice ao2 c.fns.length c.fns.length) c.nums) rfl (by kernel_rfl) (by kernel_rfl) (by kernel_rfl) (fun _ _ _ h => h) (.inl ⟨by kernel_rfl, fun w' (hw' : Chg (w.heap.size + 3) V.heap.size V w') => by
          have hb := (hw'.block (w.heap.size + 2) (by omega) (by omega)).trans HBX.out
          have k0 := Lib.cell_of_heap hb 0
          have k1 := Lib.cell_of_heap hb 1
          have k2 := Lib.cell_of_heap hb 2
          have k3 := Lib.cell_of_heap hb 3
          go_simp⟩) HRr.out ?_
        go_simp
        refine held_take 1 (.slice (some ⟨w.heap.size + 1, 0, none⟩) F.length F.length) rfl (by kernel_rfl) (by kernel_rfl) (by kernel_rfl) (fun _ _ _ h => h) (.inl ⟨by kernel_rfl, fun w' (hw' : Chg (w.heap.size + 3) V.heap.size V w') => by go_simp⟩) HRr.out ?_
        go_simp
        refine held_take 2 (.slice (some ⟨w.heap.size + 1, fo, none⟩) (F.length - 1 : Nat) (F.length - 1 : Nat)) rfl (by kernel_rfl) (by kernel_rfl) (by kernel_rfl) (fun _ _ _ h => h) (.inl ⟨by kernel_rfl, fun w' (hw' : Chg (w.heap.size + 3) V.heap.size V w') => by
          rw [HFO.out]
          by_cases h1 : F.length = 1
          · rw [if_pos h1, h1]
            go_simp
          · rw [if_neg h1]
            go_simp⟩) HRr.out ?_
        go_simp
        refine held_one 3 rfl rfl (by kernel_rfl) ?_
        have hTC := take_calls wd (w.heap.size + 3) c.line c.call c.nums ao2 (some ⟨w.heap.size + 1, fo, none⟩) F.tail.length c.fns F.tail (startC c) Hkn.out (by omega) hnm0 (by omega) (HFt.out wd HRr.out) (HVt.out wd HRr.out) (by omega) HFs.out (SynE.up (synE_chg HS2.out HV2.out) HRr.out (by omega)) ((HR3.out.chg HV2.out).up HRr.out (by omega)) ((HP2.out.chg HV2.out).up HRr.out (by omega)) (HLN.out.keep HR0.out) rfl (by show (0 : Nat) ≤ _; omega) (by omega)
        have hTC2 : Calls Tryz.prog 29 #[cmdV c.line c.call (.slice ao2 c.fns.length c.fns.length) c.nums, .pointer (some ⟨w.heap.size + 3, 0, none⟩), .slice (some ⟨w.heap.size + 1, fo, none⟩) (F.length - 1) (F.length - 1)] wd fun e w' => e = .returned (.bool RES.isSome) ∧ (∀ s', RES = some s' → LineAt w' (w.heap.size + 3) s') ∧ Chg (w.heap.size + 3) wd.heap.size wd w' := by
          rw [← htl]
          refine hTC.mono ?_
          rintro e w' ⟨rfl, h1, h2⟩
          refine ⟨?_, fun s' hs' => ?_, h2⟩
          · rw [HT.out]
            by_cases hd : c.fns.length ≤ F.tail.length ∧ (F.tail.length : Int) ≤ c.fns.length + c.nums
            · rw [if_pos hd, decide_eq_true hd, Bool.true_and]
            · rw [if_neg hd, decide_eq_false hd, Bool.false_and]; rfl
          · rw [HT.out] at hs'
            split at hs'
            · rename_i hd; exact h1 hd.1 hd.2 s' hs'
            · cases hs'
        clear hTC HFt HVt HFs HT HLN
        refine wp_enter 29 #[cmdV c.line c.call (.slice ao2 c.fns.length c.fns.length) c.nums, .pointer (some ⟨w.heap.size + 3, 0, none⟩), .slice (some ⟨w.heap.size + 1, fo, none⟩) (F.length - 1) (F.length - 1)] (by first | kernel_rfl | go_simp) hTC2 ?_
        rintro e wz ⟨rfl, hlz, cz⟩
        have HCV : Hid (Chg (w.heap.size + 3) V.heap.size V wz) := chg_step2 HRr.out cz (by omega)
        have HCZ : Hid (Chg 0 0 w wz) := (HC2.out.trans HV2.out).step HCV.out (Or.inr (Or.inl (by omega)))
        have HRZ : Hid (wz.heap[w.heap.size]? = some (.cells (cLine zeroL (.slice none 0 0)) 27 (0, 0))) := (HCV.out.block _ (by omega) (by omega)).trans HRV.out
        refine ⟨_, rfl, HCV.out, ?_⟩
        go_simp
        refine held_take 4 (.bool (!RES.isSome)) rfl (by kernel_rfl) (by kernel_rfl) (by kernel_rfl) (fun _ _ _ h => h) (.inl ⟨by kernel_rfl, fun w' (hw' : Chg (w.heap.size + 3) V.heap.size V w') => by go_simp⟩) HCV.out ?_
        go_simp
        refine held_done (by kernel_rfl) (NoPanic.normal ?_)
        obtain ⟨⟨x0, x1, x2, x3, x4, x5, x6, x7, x8⟩, f0, f1, f2, f3, f4, f5, f6, f7, f8⟩ := nine_all HRZ.out
        clear hTC2 cz HRr HR0 HCV HRV HV2 HBX HS2 HR3 HP2 HRZ
        cases RES with
        | none =>
          rw [Option.isSome_none, Option.isNone_none]
          clear hlz
          go_wp2
          exact bodyPost_ret (v := lineV zeroL (.slice none 0 0)) (by simp [results, Tryz.results18, go_sem, zeroL, *]) rfl ⟨_, rfl, World.ownsRow_nil _ _ _ _, (Chg.setCell (Chg.setCell (Chg.setCell (Chg.setCell (Chg.setCell (Chg.setCell (Chg.setCell (Chg.setCell (Chg.setCell HCZ.out (Or.inr (Nat.le_refl _)) _) (Or.inr (Nat.le_refl _)) _) (Or.inr (Nat.le_refl _)) _) (Or.inr (Nat.le_refl _)) _) (Or.inr (Nat.le_refl _)) _) (Or.inr (Nat.le_refl _)) _) (Or.inr (Nat.le_refl _)) _) (Or.inr (Nat.le_refl _)) _) (Or.inr (Nat.le_refl _)) _)⟩
        | some s' =>
          rw [Option.isSome_some, Option.isNone_some]
          obtain ⟨nv, hln, hnv⟩ := hlz s' rfl
          clear hlz
          obtain ⟨na, nl, nc, rfl⟩ := hnv.slice
          obtain ⟨⟨y0, y1, y2, y3, y4, y5, y6, y7, y8⟩, _⟩ := nine_all hln
          have HNV : Hid (OwnN wz (w.heap.size + 3 + 1) (.slice na nl nc) s'.nums) := hnv
          clear hnv hln
          go_wp2
          exact bodyPost_ret (v := lineV s' (.slice na nl nc)) (by simp [results, Tryz.results18, go_sem, *]) rfl ⟨_, rfl, (OwnN.low (OwnN.set (OwnN.set (OwnN.set (OwnN.set (OwnN.set (OwnN.set (OwnN.set (OwnN.set (OwnN.set HNV.out _ _ _ (by omega)) _ _ _ (by omega)) _ _ _ (by omega)) _ _ _ (by omega)) _ _ _ (by omega)) _ _ _ (by omega)) _ _ _ (by omega)) _ _ _ (by omega)) _ _ _ (by omega)) (by omega)), (Chg.setCell (Chg.setCell (Chg.setCell (Chg.setCell (Chg.setCell (Chg.setCell (Chg.setCell (Chg.setCell (Chg.setCell HCZ.out (Or.inr (Nat.le_refl _)) _) (Or.inr (Nat.le_refl _)) _) (Or.inr (Nat.le_refl _)) _) (Or.inr (Nat.le_refl _)) _) (Or.inr (Nat.le_refl _)) _) (Or.inr (Nat.le_refl _)) _) (Or.inr (Nat.le_refl _)) _) (Or.inr (Nat.le_refl _)) _) (Or.inr (Nat.le_refl _)) _)⟩
    · have HN : Hid (RES = none) := by
        show _ = _
        rw [HRES.out]
        unfold fieldsOf
        rw [look_none _ _ hO hno]
      generalize F.getD 0 noText = key at *
      obtain ⟨⟨x0, x1, x2, x3, x4, x5, x6, x7, x8⟩, f0, f1, f2, f3, f4, f5, f6, f7, f8⟩ := nine_all HR2.out
      clear hcell HF3 hO hno hM HRES HR2 HG2 hS2 hR2 hP2
      go_wp2
      exact bodyPost_ret (v := lineV zeroL (.slice none 0 0)) (by simp [results, Tryz.results18, go_sem, zeroL, *]) rfl ⟨_, by rw [HN.out]; rfl, by rw [HN.out]; exact World.ownsRow_nil _ _ _ _, Chg.alloc (Chg.setCell (Chg.setCell (Chg.setCell (Chg.setCell (Chg.setCell (Chg.setCell (Chg.setCell (Chg.setCell (Chg.setCell HC2.out (Or.inr (Nat.le_refl _)) _) (Or.inr (Nat.le_refl _)) _) (Or.inr (Nat.le_refl _)) _) (Or.inr (Nat.le_refl _)) _) (Or.inr (Nat.le_refl _)) _) (Or.inr (Nat.le_refl _)) _) (Or.inr (Nat.le_refl _)) _) (Or.inr (Nat.le_refl _)) _) (Or.inr (Nat.le_refl _)) _) _⟩

end Go.Proofs.YteaeikmgkmpkiaaGreatDoor
