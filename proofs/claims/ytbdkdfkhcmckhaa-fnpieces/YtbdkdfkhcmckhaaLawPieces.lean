/- The law FnPieces: its walk. -/
import Derived.Test.YtbdkdfkhcmckhaaPieceMath
import Derived.Test.YtbdkdfkhcmckhaaPieceDraw
import Derived.Test.YtbdkdfkhcmckhaaImplSpans
import Derived.Test.YtbdkdfkhcmckhaaImplNeed
import Derived.Test.YtbdkdfkhcmckhaaInoValid
import Derived.Test.YtbdkdfkhcmckhaaHeld
import Derived.Test.YtbdkdfkhcmckhaaOpenB
import Derived.Great.BuildSlice
import Derived.Deep.DeepCutAuto
namespace Go.Proofs.Ytbdkdfkhcmckhaa
open Go.ChangeShapes Go.WideShapes Go.ChangeAt Go.RowKit

/-- The indexes of the first k pieces, each twice. -/
def twice (a : Nat) : Nat → List Int
  | 0 => []
  | k + 1 => twice a k ++ [((a + k : Nat) : Int), ((a + k : Nat) : Int)]

theorem twice_len (a : Nat) : ∀ k, (twice a k).length = 2 * k
  | 0 => rfl
  | k + 1 => by show (twice a k ++ _).length = _; rw [List.length_append, twice_len a k]; simp; omega

theorem twice_mem (a : Nat) : ∀ k (x : Int), x ∈ twice a k ↔ ∃ j, j < k ∧ x = ((a + j : Nat) : Int)
  | 0, x => by simp [twice]
  | k + 1, x => by
    show x ∈ twice a k ++ _ ↔ _
    rw [List.mem_append, twice_mem a k x]
    constructor
    · rintro (⟨j, hj, rfl⟩ | h)
      · exact ⟨j, by omega, rfl⟩
      · simp only [List.mem_cons, List.not_mem_nil, or_false, or_self] at h
        exact ⟨k, by omega, h⟩
    · rintro ⟨j, hj, rfl⟩
      by_cases e : j < k
      · exact Or.inl ⟨j, e, rfl⟩
      · obtain rfl : j = k := by omega
        exact Or.inr (by simp)

theorem twice_last (a k : Nat) : (twice a (k + 1)).getD (2 * k + 1) 0 = ((a + k : Nat) : Int) := by
  show (twice a k ++ _).getD _ 0 = _
  rw [List.getD_eq_getElem?_getD, List.getElem?_append_right (by rw [twice_len]; omega), twice_len, show 2 * k + 1 - 2 * k = 1 by omega]
  rfl

theorem need_twice {a K : Nat} (hK : 0 < K) (h40 : a + K ≤ 40) : needD (twice a K) = (K : Int) + (if 8 ≤ a + K - 1 then 1 else 0) := by
  refine need_interval hK h40 (by rw [twice_len]; omega) (fun k => ?_) (fun x hx => ?_)
  · rw [twice_mem]
    constructor
    · rintro ⟨j, hj, e⟩; omega
    · rintro ⟨h1, h2⟩; exact ⟨k - a, by omega, by omega⟩
  · obtain ⟨j, hj, rfl⟩ := (twice_mem a K x).1 hx
    omega

theorem fill_ints (A : Array Value) (hr : A.size = 2) (a b : Int) (k : IntKind) : Instr.fill (fun i => some (i * 1, 1)) A [(0, .int k a), (1, .int k b)] = some #[.int k a, .int k b] := by
  obtain ⟨l⟩ := A
  match l, hr with
  | [x, y], _ => simp [Instr.fill, Value.cells]

theorem ints_own (W : World) (base : Nat) (a b : Int) (hb : base ≤ W.heap.size) : OwnI (W.alloc (.cells #[.int .i64 a, .int .i64 b] 2)) base 2 (.slice (some ⟨W.heap.size, 0, none⟩) 2 2) [a, b] := by
  have := World.ownsRow_lit (base := base) (e := 2) (size := 1) W #[.int .i64 a, .int .i64 b] 2 hb (by unfold maxLen; omega) rfl
  unfold OwnI
  simpa using this

theorem ints_nil (w : World) : OwnI (w.alloc (.cells #[] 2)) w.heap.size 2 (.slice (some ⟨w.heap.size, 0, none⟩) 0 0) [] := by
  have := World.ownsRow_lit (base := w.heap.size) (e := 2) (size := 1) w #[] 0 (Nat.le_refl _) (by unfold maxLen; omega) rfl
  unfold OwnI
  simpa using this

theorem OwnI.view2 {w : World} {base : Nat} {e : TypeId} {v : Value} {xs : List Int} (h : OwnI w base e v xs) (hl : xs.length ≤ 1048576) : View w base w.heap.size .i64 v xs :=
  h.view (by omega) (fun g hg => (h.lt g hg).2)

/-- Where piece k begins. -/
def atP (fs : List Int) (k : Nat) : Int := if k = 0 then 0 else fs.getD (4 * (k - 1) + 3) 0 + fs.getD (4 * (k - 1) + 2) 0

set_option maxRecDepth 20000 in
set_option maxHeartbeats 8000000 in
theorem lawPieces_walk (w : World) {hi : Nat} {a : Value} {code : List Int} (hB : Byt code) (h1 : View w 0 hi .u8 a code) (hhi : hi ≤ w.heap.size) :
    Calls Try.prog 3 #[a] w fun e w' => e = .returned (.bool true) ∧ Below w.heap.size w w' := by
  have v0 := h1
  obtain ⟨ao, cap, rfl, hl0, _, _⟩ := h1
  by_cases hcl : code.length ≤ 1048576
  case neg =>
    clear v0
    go_enter Try.func3, Try.ntmps3
    go_wp2
    go_ret
    exact ⟨rfl, (Chg.refl 0 0 w).below (by omega)⟩
  have hD := drawSpans_calls w hB hcl v0 hhi
  clear v0
  go_enter Try.func3, Try.ntmps3
  go_wp2_with fail
  refine hD.mono ?_
  rintro e w1 ⟨⟨o, n, rfl⟩, c1⟩
  have HC1 : Hid (Chg 0 0 w w1) := c1
  have z1 := c1.size
  have hI := implSpans_calls w1 o n
  clear hD c1
  go_wp2_with fail
  refine hI.mono ?_
  rintro e w2 ⟨v2, K, rfl, o2, hK, c2⟩
  have hlen : (spansD o n).length = K * 4 := o2.len
  obtain ⟨ra, rc, rfl⟩ : ∃ ra rc, v2 = .slice ra K rc := (o2.view (by omega) (hi := w2.heap.size) (fun g hg => (o2.lt g hg).2)).slice
  have HR2 : Hid (FView 4 w2 w1.heap.size w2.heap.size (.slice ra K rc) K (spansD o n)) := o2.view (by omega) (fun g hg => (o2.lt g hg).2)
  have HC2 : Hid (Chg 0 0 w w2) := HC1.out.trans c2
  have z2 := c2.size
  have hS := specSpans_calls w2 o n
  clear hI o2 c2 HC1
  go_wp2_with fail
  refine hS.mono ?_
  rintro e w3 ⟨v3, K3, rfl, o3, hK3, c3⟩
  obtain rfl : K = K3 := by have := o3.len; omega
  obtain ⟨sa, sc, rfl⟩ : ∃ ra rc, v3 = .slice ra K rc := (o3.view (by omega) (hi := w3.heap.size) (fun g hg => (o3.lt g hg).2)).slice
  have HR3 : Hid (FView 4 w3 w1.heap.size w2.heap.size (.slice ra K rc) K (spansD o n)) := HR2.out.chg c3 (by omega)
  have HC3 : Hid (Chg 0 0 w w3) := HC2.out.trans c3
  have z3 := c3.size
  clear hS o3 c3 HC2 HR2
  by_cases hk0 : K = 0
  · subst hk0
    go_wp2
    go_ret
    exact ⟨rfl, HC3.out.below (by omega)⟩
  have hIn : InFile o n := by
    by_cases h : InFile o n
    · exact h
    · have e : spansD o n = [] := by unfold spansD; rw [if_neg h]
      rw [e] at hlen; simp at hlen; omega
  obtain ⟨i1, i2, i3, i4⟩ := id hIn
  obtain ⟨on, rfl⟩ : ∃ m : Nat, o = m := ⟨o.toNat, by omega⟩
  obtain ⟨nn, rfl⟩ : ∃ m : Nat, n = m := ⟨n.toNat, by omega⟩
  have HP : Hid (Pieces on nn (spansD on nn) K) := pieces_of hIn hlen
  have hk1 : ((K : Int) == 0) = false := by simpa using hk0
  generalize spansD on nn = fs at *
  have hIK : on / 64 + K ≤ 40 := by
    have f1 := HP.out.full (K - 1) (by omega)
    have f2 := HP.out.all (by omega)
    have f3 := HP.out.idx (K - 1) (by omega)
    have f4 := HP.out.cnt (K - 1) (by omega)
    have f5 : 0 ≤ fs.getD (4 * (K - 1) + 1) 0 := by rw [HP.out.frm (K - 1) (by omega)]; split <;> omega
    rw [f3] at f1
    omega
  have HON : Hid (OwnI (w3.alloc (.cells #[] 2)) w3.heap.size 2 (.slice (some ⟨w3.heap.size, 0, none⟩) 0 0) []) := ints_nil w3
  have HCN : Hid (Chg 0 0 w3 (w3.alloc (.cells #[] 2))) := Chg.alloc (Chg.refl 0 0 w3) _
  have zn : (w3.alloc (.cells #[] 2)).heap.size = w3.heap.size + 1 := by simp
  clear hIn hlen
  go_wp2
  go_loopw [6, 7, 8] (fun s6 s7 s8 wr => ∃ (k g cp : Nat), k ≤ K ∧ s8 = .int .i64 k ∧ s6 = .int .i64 (atP fs k) ∧ s7 = .slice (some ⟨g, 0, none⟩) (2 * k) cp ∧ OwnI wr w3.heap.size 2 (.slice (some ⟨g, 0, none⟩) (2 * k) cp) (twice (on / 64) k) ∧ Chg 0 0 w3 wr) (fun _ _ s8 _ => K - (intOf s8).toNat)
  case atStart => exact ⟨0, _, _, Nat.zero_le _, rfl, rfl, rfl, HON.out, HCN.out⟩
  case round =>
    obtain ⟨k, g, cp, hk, rfl, rfl, rfl, ho, hch⟩ := hrel
    clear HON HCN zn
    have HO : Hid (OwnI wr w3.heap.size 2 (.slice (some ⟨g, 0, none⟩) (2 * k) cp) (twice (on / 64) k)) := ho
    have HC : Hid (Chg 0 0 w3 wr) := hch
    have zr := hch.size
    have hRr := HR3.out.chg hch (by omega)
    clear ho hch
    obtain ⟨b, off, rfl, hcell⟩ : ∃ b off, ra = some ⟨b, off, none⟩ ∧ b < w3.heap.size ∧ ∀ i, i < K * 4 → wr.cell? ⟨b, off + i, none⟩ = some (.int .i64 (fs.getD i 0)) := by
      obtain ⟨ao', cap', e, _, _, _, h3⟩ := hRr
      simp only [Value.slice.injEq] at e
      rcases h3 with h3 | ⟨b, off, h4, _, h6, h7⟩
      · exact absurd h3 hk0
      · exact ⟨b, off, by rw [e.1, h4], by omega, h7⟩
    obtain ⟨hbw, hcell⟩ := hcell
    by_cases hlt : k < K
    · have hi' : (k : Int) < (K : Int) := by omega
      have d0 : wr.cell? ⟨b, off + k * 4, none⟩ = some (.int .i64 (fs.getD (4 * k) 0)) := by rw [Nat.mul_comm 4 k]; exact hcell (k * 4) (by omega)
      have d1 : wr.cell? ⟨b, off + k * 4 + 1, none⟩ = some (.int .i64 (fs.getD (4 * k + 1) 0)) := by rw [Nat.mul_comm 4 k, Nat.add_assoc]; exact hcell (k * 4 + 1) (by omega)
      have d2 : wr.cell? ⟨b, off + k * 4 + 2, none⟩ = some (.int .i64 (fs.getD (4 * k + 2) 0)) := by rw [Nat.mul_comm 4 k, Nat.add_assoc]; exact hcell (k * 4 + 2) (by omega)
      have d3 : wr.cell? ⟨b, off + k * 4 + 3, none⟩ = some (.int .i64 (fs.getD (4 * k + 3) 0)) := by rw [Nat.mul_comm 4 k, Nat.add_assoc]; exact hcell (k * 4 + 3) (by omega)
      have m0 := HP.out.idx k hlt
      have m1 := HP.out.frm k hlt
      have m2 := HP.out.cnt k hlt
      have m3 : fs.getD (4 * k + 3) 0 = atP fs k := by
        unfold atP
        by_cases e : k = 0
        · rw [if_pos e, e]; exact HP.out.at0 (by omega)
        · rw [if_neg e]
          have := HP.out.next (k - 1) (by omega)
          rw [show k - 1 + 1 = k by omega] at this
          exact this
      have m4 := HP.out.room k hlt
      have m5 := HP.out.full k hlt
      have m6 : 0 ≤ fs.getD (4 * k + 1) 0 := by rw [m1]; split <;> omega
      have m7 : 0 < k → fs.getD (4 * k + 1) 0 = 0 := fun e => by rw [m1, if_neg (by omega)]
      have HNx : Hid (atP fs (k + 1) = fs.getD (4 * k + 3) 0 + fs.getD (4 * k + 2) 0) := by show _ = _; unfold atP; rw [if_neg (by omega), Nat.add_sub_cancel]
      have HTw : Hid (twice (on / 64) (k + 1) = twice (on / 64) k ++ [((on / 64 + k : Nat) : Int), ((on / 64 + k : Nat) : Int)]) := rfl
      rw [m3] at HNx d3 m5
      rw [m0] at d0 m5
      clear m0 m1 m3 hcell hRr
      generalize hix : ((on / 64 + k : Nat) : Int) = IX at *
      have hix2 : 0 ≤ IX ∧ IX ≤ 40 := by omega
      have Hix : Hid (((on / 64 + k : Nat) : Int) = IX) := hix
      clear hix
      generalize fs.getD (4 * k + 1) 0 = FR at *
      generalize fs.getD (4 * k + 2) 0 = CT at *
      generalize atP fs k = AT at *
      have y1 : (AT != AT) = false := by simp
      have y2 : ¬ CT < 1 := by omega
      have y3 : (IX * 64 + FR != (on : Int) + AT) = false := by simp; omega
      have y4 : ¬ FR < 0 := by omega
      have y5 : ¬ 64 < FR + CT := by omega
      have q1 : IntKind.i64.wrap (IX * 64) = IX * 64 := by rw [IntKind.wrap_i64]; omega
      have q2 : IntKind.i64.wrap (IX * 64 + FR) = IX * 64 + FR := by rw [IntKind.wrap_i64]; omega
      have q3 : IntKind.i64.wrap ((on : Int) + AT) = (on : Int) + AT := by rw [IntKind.wrap_i64]; omega
      have q4 : IntKind.i64.wrap (FR + CT) = FR + CT := by rw [IntKind.wrap_i64]; omega
      go_upto_region 12 with fail
      go_cut [102] (fun s102 wx => s102 = .bool false ∧ ∃ n, wx = wr.drewN n)
      case first =>
        by_cases e : 0 < k
        · have e2 : (FR != 0) = false := by rw [m7 e]; rfl
          clear m7
          have e3 : (0 : Int) < (k : Int) := by omega
          go_quiet (fail)
          go_wp2
          go_meet
          exact ⟨rfl, _, rfl⟩
        · have e3 : ¬ (0 : Int) < (k : Int) := by omega
          go_quiet (fail)
          go_wp2
          go_meet
          exact ⟨rfl, _, rfl⟩
      obtain ⟨rfl, nq, hwc⟩ := hcut
      have cq : Chg 0 0 wr (wr.drewN nq) := Chg.drewN (Chg.refl 0 0 wr) nq
      rw [← hwc] at cq
      replace d0 := cq.cell d0 (by omega)
      replace d2 := cq.cell d2 (by omega)
      replace d3 := cq.cell d3 (by omega)
      replace HC : Hid (Chg 0 0 w3 wc) := HC.out.trans cq
      replace HO : Hid (OwnI wc w3.heap.size 2 (.slice (some ⟨g, 0, none⟩) (2 * k) cp) (twice (on / 64) k)) := HO.out.chg cq (by intro g _; omega)
      replace zr := HC.out.size
      clear y1 y2 y3 y4 y5 q1 q2 q3 q4 d1 cq hwc
      generalize wc = wr at *
      have HCT : Hid (Chg 0 0 w3 wr) := HC.out
      have HS0 : Hid ((fun w' : World => w'.cell? ⟨b, off + k * 4, none⟩ = some (.int .i64 IX)) wr.drew) := d0
      have HO0 : Hid (OwnI wr.drew w3.heap.size 2 (.slice (some ⟨g, 0, none⟩) (2 * k) cp) (twice (on / 64) k)) := HO.out.chg (Chg.drew (Chg.refl 0 0 wr)) (by intro g _; omega)
      have HC0 : Hid (Chg 0 0 w3 wr.drew) := HC.out.trans (Chg.drew (Chg.refl 0 0 wr))
      have zd : w3.heap.size ≤ wr.drew.heap.size := zr
      have HLt : Hid ((twice (on / 64) k).length = 2 * k) := twice_len _ _
      clear HO HC HCT
      go_wp2
      clear d0 d2 d3
      refine held_region (fun w' : World => w'.cell? ⟨b, off + k * 4, none⟩ = some (.int .i64 IX)) (by kernel_rfl) ?_
      generalize wr.drew = wd at *
      refine held_take 0 (.slice (some ⟨g, 0, none⟩) (2 * k) cp) rfl (by kernel_rfl) (by kernel_rfl) (by kernel_rfl) (fun _ _ _ h => h) (.inl ⟨by kernel_rfl, fun w' hw' => by go_simp⟩) HS0.out ?_
      go_simp
      refine held_take 1 (.slice (some ⟨b, off, none⟩) K rc) rfl (by kernel_rfl) (by kernel_rfl) (by kernel_rfl) (fun _ _ _ h => h) (.inl ⟨by kernel_rfl, fun w' hw' => by go_simp⟩) HS0.out ?_
      go_simp
      refine held_take 2 (.int .i64 (k : Int)) rfl (by kernel_rfl) (by kernel_rfl) (by kernel_rfl) (fun _ _ _ h => h) (.inl ⟨by kernel_rfl, fun w' hw' => by go_simp⟩) HS0.out ?_
      go_simp
      refine held_take 3 (.pointer (some ⟨b, off + k * 4, none⟩)) rfl (by kernel_rfl) (by kernel_rfl) (by kernel_rfl) (fun _ _ _ h => h) (.inl ⟨by kernel_rfl, fun w' hw' => by go_simp⟩) HS0.out ?_
      go_simp
      refine held_take 4 (.pointer (some ⟨b, off + k * 4, none⟩)) rfl (by kernel_rfl) (by kernel_rfl) (by kernel_rfl) (fun _ _ _ h => h) (.inl ⟨by kernel_rfl, fun w' hw' => by go_simp⟩) HS0.out ?_
      go_simp
      refine held_take 5 (.int .i64 IX) rfl (by kernel_rfl) (by kernel_rfl) (by kernel_rfl) (fun _ _ _ h => h) (.inl ⟨by kernel_rfl, fun w' hw' => by have h4 := hw'; go_simp⟩) HS0.out ?_
      go_simp
      refine held_take 6 (.slice (some ⟨b, off, none⟩) K rc) rfl (by kernel_rfl) (by kernel_rfl) (by kernel_rfl) (fun _ _ _ h => h) (.inl ⟨by kernel_rfl, fun w' hw' => by go_simp⟩) HS0.out ?_
      go_simp
      refine held_take 7 (.int .i64 (k : Int)) rfl (by kernel_rfl) (by kernel_rfl) (by kernel_rfl) (fun _ _ _ h => h) (.inl ⟨by kernel_rfl, fun w' hw' => by go_simp⟩) HS0.out ?_
      go_simp
      refine held_take 8 (.pointer (some ⟨b, off + k * 4, none⟩)) rfl (by kernel_rfl) (by kernel_rfl) (by kernel_rfl) (fun _ _ _ h => h) (.inl ⟨by kernel_rfl, fun w' hw' => by go_simp⟩) HS0.out ?_
      go_simp
      refine held_take 9 (.pointer (some ⟨b, off + k * 4, none⟩)) rfl (by kernel_rfl) (by kernel_rfl) (by kernel_rfl) (fun _ _ _ h => h) (.inl ⟨by kernel_rfl, fun w' hw' => by go_simp⟩) HS0.out ?_
      go_simp
      refine held_take 10 (.int .i64 IX) rfl (by kernel_rfl) (by kernel_rfl) (by kernel_rfl) (fun _ _ _ h => h) (.inl ⟨by kernel_rfl, fun w' hw' => by have h4 := hw'; go_simp⟩) HS0.out ?_
      go_simp
      have X6 := ints_own wd w3.heap.size IX IX (by omega)
      have C6 : Chg 0 0 wd (wd.alloc (.cells #[.int .i64 IX, .int .i64 IX] 2)) := Chg.alloc (Chg.refl 0 0 wd) _
      have z6 : (wd.alloc (.cells #[.int .i64 IX, .int .i64 IX] 2)).heap.size = wd.heap.size + 1 := by simp
      obtain ⟨ic, hic, hcz0, hcz1, hcz2⟩ := info_parts Try.infoI
      refine held_one 11 rfl rfl (by kernel_rfl) ?_
      refine wp_buildSlice 27 2 2 #[(0, .tmp 115), (1, .tmp 120)] rfl #[.int .i64 IX, .int .i64 IX] ic _ Try.underlying27 hic hcz0 (by rw [hcz1]; decide) (by rw [hcz1]; decide) (by rw [hcz1, Array.toList_map]; refine fill_ints _ ?_ _ _ _; simp) ?_
      generalize wd.alloc (.cells #[.int .i64 IX, .int .i64 IX] 2) = wb at *
      have HSb : Hid ((fun w' : World => w'.cell? ⟨b, off + k * 4, none⟩ = some (.int .i64 IX)) wb) := C6.cell HS0.out (by omega)
      have HCb : Hid (Chg 0 0 w3 wb) := HC0.out.trans C6
      have HOb : Hid (OwnI wb w3.heap.size 2 (.slice (some ⟨g, 0, none⟩) (2 * k) cp) (twice (on / 64) k)) := HO0.out.chg C6 (by intro g _; omega)
      have HVb : Hid (View wb w3.heap.size wb.heap.size .i64 (.slice (some ⟨wd.heap.size, 0, none⟩) 2 2) [IX, IX]) := X6.view2 (by simp)
      refine ⟨HSb.out, ?_⟩
      clear X6 C6 HS0 HC0 HO0
      go_simp
      refine held_one 12 rfl rfl (by kernel_rfl) ?_
      refine wp_app_ints (.tmp 110) (.tmp 121) rfl w3.heap.size _ (twice (on / 64) k) rfl HOb.out (by omega) _ _ _ [IX, IX] rfl HVb.out (by simp) (by rw [HLt.out]; simp; omega) ?_
      intro v8 w8 o8 h8
      rw [← HTw.out] at o8
      obtain ⟨g8, c8, rfl, _, _⟩ := o8.at (by rw [twice_len]; omega)
      rw [twice_len] at o8
      rw [twice_len]
      have HS8 : Hid ((fun w' : World => w'.cell? ⟨b, off + k * 4, none⟩ = some (.int .i64 IX)) w8) := h8.cell HSb.out (by omega)
      have HR8 : Hid (OwnI w8 w3.heap.size 2 (.slice (some ⟨g8, 0, none⟩) (2 * (k + 1)) c8) (twice (on / 64) (k + 1)) ∧ Chg 0 0 w3 w8) := ⟨o8, HCb.out.step h8 (Or.inr (Or.inl (Nat.le_refl _)))⟩
      clear o8 h8 HSb HCb HOb HVb
      refine ⟨HS8.out, ?_⟩
      go_simp
      refine held_one 13 rfl rfl (by kernel_rfl) ?_
      go_simp
      refine ⟨HS8.out, ?_⟩
      clear HS8
      refine held_done (by kernel_rfl) (NoPanic.normal ?_)
      go_wp2
      go_roundw
      case rel => exact ⟨k + 1, g8, c8, by omega, by go_num, by rw [HNx.out], rfl, HR8.out⟩
      case measure => simp [intOf]; omega
    · obtain rfl : k = K := by omega
      have hat : atP fs k = (nn : Int) := by unfold atP; rw [if_neg hk0]; exact HP.out.all (by omega)
      obtain ⟨M, rfl⟩ : ∃ M, k = M + 1 := ⟨k - 1, by omega⟩
      have hndw := need_twice (a := on / 64) (K := M + 1) (by omega) hIK
      have hlast := HO.out.cell (by rw [twice_len]) (2 * M + 1) (by omega)
      rw [twice_last, show 2 * M + 1 = 2 * (M + 1) - 1 by omega] at hlast
      have hN := implFileNeed_calls wr (by rw [twice_len]; omega) (HO.out.view2 (by rw [twice_len]; omega))
      rw [hndw] at hN
      have HCw : Hid (Chg 0 0 w wr) := HC3.out.trans HC.out
      have HL : Hid ((on / 64 + (M + 1) - 1) = on / 64 + M) := by show _ = _; omega
      rw [HL.out] at hN
      generalize hq : on / 64 + M = q at *
      rw [hat]
      have t1 : ((nn : Int) != (nn : Int)) = false := by simp
      have t2 : (((M + 1 : Nat) : Int) == 0) = false := by simp; omega
      have t3 : ((2 * (M + 1) : Nat) : Int) - 1 = ((2 * M + 1 : Nat) : Int) := by omega
      have t4 : ((2 * M + 1 : Nat) : Int) < ((2 * (M + 1) : Nat) : Int) := by omega
      clear hcell hRr hat hndw HC HO hq
      by_cases h8 : 8 ≤ q
      · have h8' : (8 : Int) ≤ (q : Int) := by omega
        rw [if_pos h8] at hN
        go_wp2_with fail
        refine hN.mono ?_
        rintro e w9 ⟨rfl, c9⟩
        have HC9 : Hid (Chg 0 0 w w9) := HCw.out.trans c9
        clear hN c9
        go_wp2
        go_ret
        exact ⟨by simp, HC9.out.below (by omega)⟩
      · have h8' : ¬ (8 : Int) ≤ (q : Int) := by omega
        rw [if_neg h8] at hN
        go_wp2_with fail
        refine hN.mono ?_
        rintro e w9 ⟨rfl, c9⟩
        have HC9 : Hid (Chg 0 0 w w9) := HCw.out.trans c9
        clear hN c9
        go_wp2
        go_ret
        exact ⟨by simp, HC9.out.below (by omega)⟩

end Go.Proofs.Ytbdkdfkhcmckhaa
