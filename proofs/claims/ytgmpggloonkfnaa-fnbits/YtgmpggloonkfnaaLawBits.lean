/- The law FnBits: its walk. -/
import Derived.Test.YtgmpggloonkfnaaBitMath2
import Derived.Test.YtgmpggloonkfnaaBitDraw
import Derived.Test.YtgmpggloonkfnaaImplBitGet
import Derived.Test.YtgmpggloonkfnaaImplBitCnt
import Derived.Test.YtgmpggloonkfnaaImplBitPut
import Derived.Test.YtgmpggloonkfnaaImplBitRuns
import Derived.Test.YtgmpggloonkfnaaAppOwn
import Derived.Test.YtgmpggloonkfnaaLwSame
import Derived.Test.YtgmpggloonkfnaaOpenB
namespace Go.Proofs.Ytgmpggloonkfnaa
open Go.ChangeShapes Go.WideShapes Go.ChangeAt Go.RowKit

/-- The law's bounds. -/
def lwLo (xs : List Int) (f : Int) : Int := min (max 0 f) (8 * (xs.length : Int))
def lwHi (xs : List Int) (f t : Int) : Int := max (lwLo xs f) (min (8 * (xs.length : Int)) t)

/-- What the program's answers are to each other, in the law's bounds. -/
structure BitsOk (xs : List Int) (LO HI : Int) (fs : List Int) (K : Nat) (fst : Int) (c : Nat) : Prop where
  low : ∀ j, j < K → LO ≤ fs.getD (2 * j) 0
  pos : ∀ j, j < K → 1 ≤ fs.getD (2 * j + 1) 0
  top : ∀ j, j < K → fs.getD (2 * j) 0 + fs.getD (2 * j + 1) 0 ≤ HI
  off : ∀ j, j < K → ∀ k : Int, fs.getD (2 * j) 0 ≤ k → k < fs.getD (2 * j) 0 + fs.getD (2 * j + 1) 0 → bitG xs k = false
  apart : ∀ j, j + 1 < K → fs.getD (2 * j) 0 + fs.getD (2 * j + 1) 0 < fs.getD (2 * (j + 1)) 0
  all : (c : Int) + lsum fs K = HI - LO
  none : K = 0 → fst = -1
  some : 0 < K → fst = fs.getD 0 0 ∧ 0 ≤ fst
  big : HI ≤ 8 * (xs.length : Int) ∧ 0 ≤ LO ∧ LO ≤ HI

theorem bits_ok {xs : List Int} (hx : xs.length ≤ 2048) (f t : Int) {K : Nat} (hK : (runsD xs f t).length = K * 2) : BitsOk xs (lwLo xs f) (lwHi xs f t) (runsD xs f t) K (firstD xs f t) (countD xs f t) := by
  obtain ⟨lo, hi, K', h, h0, hlh, hn, hs, rfl, hhi⟩ := bits_all xs f t
  obtain rfl : K' = K := by have := h.len; omega
  have hwn : wn xs = 8 * (xs.length : Int) := by unfold wn; rw [if_pos hx]
  have hwh : whi xs t = min (8 * (xs.length : Int)) t := by unfold whi; rw [hwn]; split <;> omega
  have hwl : wlo f = max 0 f := by unfold wlo; split <;> omega
  have e1 : lwHi xs f t - lwLo xs f = hi - wlo f := by
    unfold lwHi lwLo
    rw [hhi, ← hwl, ← hwh]
    have : whi xs t ≤ 8 * (xs.length : Int) := by rw [hwh]; omega
    omega
  have e2 : wlo f < hi → lwLo xs f = wlo f ∧ lwHi xs f t = hi := by
    intro hlt
    have : whi xs t ≤ 8 * (xs.length : Int) := by rw [hwh]; omega
    have h3 : lwLo xs f = wlo f := by unfold lwLo; rw [← hwl]; omega
    exact ⟨h3, by omega⟩
  have e3 : ∀ j, j < K' → wlo f < hi := fun j hj => by have := h.low j hj; have := h.pos j hj; have := h.top j hj; omega
  refine ⟨fun j hj => by rw [(e2 (e3 j hj)).1]; exact h.low j hj, h.pos, fun j hj => by rw [(e2 (e3 j hj)).2]; exact h.top j hj, h.off, h.apart, by rw [e1]; exact h.all, hn, fun hk => ⟨hs hk, ?_⟩, ?_, ?_⟩
  · rw [hs hk]; have : wlo f ≤ (runsD xs f t).getD 0 0 := h.low 0 hk; omega
  · unfold lwHi lwLo; omega
  · unfold lwHi lwLo; omega

theorem lsum_le {fs : List Int} {K : Nat} (h : ∀ j, j < K → 1 ≤ fs.getD (2 * j + 1) 0) : ∀ d k, k + d = K → 0 ≤ lsum fs k ∧ lsum fs k ≤ lsum fs K := by
  have h0 : ∀ k, k ≤ K → 0 ≤ lsum fs k := by
    intro k
    induction k with
    | zero => intro _; exact Int.le_refl _
    | succ k ih =>
      intro hk
      have := ih (by omega)
      have := h k (by omega)
      show 0 ≤ lsum fs k + fs.getD (2 * k + 1) 0
      omega
  intro d
  induction d with
  | zero =>
    intro k hk
    have e : k = K := hk
    rw [e]
    exact ⟨h0 K (Nat.le_refl _), Int.le_refl _⟩
  | succ d ih =>
    intro k hk
    have h1 := (ih (k + 1) (by omega)).2
    have h2 := h k (by omega)
    have h3 : lsum fs (k + 1) = lsum fs k + fs.getD (2 * k + 1) 0 := rfl
    exact ⟨h0 k (by omega), by omega⟩

theorem bits_big {xs : List Int} (hx : ¬ xs.length ≤ 2048) (f t : Int) : runsD xs f t = [] ∧ firstD xs f t = -1 ∧ countD xs f t = 0 := by
  have hwn : wn xs = 0 := by unfold wn; rw [if_neg hx]
  have hw : whi xs t ≤ 0 := by unfold whi; rw [hwn]; split <;> omega
  have hl := wlo_ge f
  have e : (whi xs t - wlo f).toNat = 0 := by omega
  unfold runsD firstD countD
  rw [e]
  exact ⟨rfl, rfl, rfl⟩

theorem count_next {xs : List Int} {m : Nat} (hB : Byt xs) (h : InMap xs m) (hb : bitG xs m = false) : countD (bitP xs m true) 0 (8 * (xs.length : Int)) = countD xs 0 (8 * (xs.length : Int)) + 1 := by
  obtain ⟨p1, _, p3, _⟩ := put_on hB h hb
  have hl := h.put (on := true)
  have e1 : ∀ ys : List Int, ys.length = xs.length → (whi ys (8 * (xs.length : Int)) - wlo 0).toNat = 8 * xs.length := by
    intro ys hy
    have := h.1
    unfold whi wn wlo
    rw [hy, if_pos h.1]
    split <;> omega
  unfold countD
  rw [e1 _ hl, e1 _ rfl, show wlo 0 = ((0 : Nat) : Int) from rfl, count_put hb p1 p3 (8 * xs.length) 0, if_pos ⟨Nat.zero_le _, by have := h.2.2; omega⟩]

theorem OwnB.sl {w : World} {base : Nat} {e : TypeId} {v : Value} {xs : List Int} (h : OwnB w base e v xs) : ∃ a c, v = .slice a xs.length c := by
  rcases h.2 with ⟨rfl, h0⟩ | ⟨g, cap, cur, rfl, _⟩
  · exact ⟨Option.none, 0, by rw [h0]⟩
  · exact ⟨_, _, rfl⟩

set_option maxRecDepth 20000 in
set_option maxHeartbeats 8000000 in
theorem lawBits_walk (w : World) {hi : Nat} {a : Value} {code : List Int} (hB : Byt code) (h1 : View w 0 hi .u8 a code) (hhi : hi ≤ w.heap.size) :
    Calls Try.prog 3 #[a] w fun e w' => e = .returned (.bool true) ∧ Below w.heap.size w w' := by
  have v0 := h1
  obtain ⟨ao, cap, rfl, hl0, _, _⟩ := h1
  by_cases hcl : code.length ≤ 1048576
  case neg =>
    clear v0
    go_enter Try.func3, Try.ntmps3
    go_wp2
    go_ret
    exact ⟨rfl, (Chg.refl 0 0 w).below (by omega)⟩
  have hD := drawBitRuns_calls w hB hcl v0 hhi
  clear v0
  go_enter Try.func3, Try.ntmps3
  go_wp2_with fail
  refine hD.mono ?_
  rintro e w1 ⟨v1, xs, f, t, rfl, o1, hxb, hxl, c1⟩
  obtain ⟨xa, xc, rfl⟩ := o1.sl
  have HV1 : Hid (View w1 w.heap.size w1.heap.size .u8 (.slice xa xs.length xc) xs) := o1.seen (by omega)
  have HXb : Hid (Byt xs) := hxb
  have HC1 : Hid (Chg 0 0 w w1) := c1
  have z1 := c1.size
  clear hD o1 hxb c1
  have ca2 : Chg 0 0 w1 (w1.alloc (.cells #[] 5)) := Chg.alloc (Chg.refl 0 0 w1) _
  have HN2 : Hid (OwnB (w1.alloc (.cells #[] 5)) w1.heap.size 5 (.slice (some ⟨w1.heap.size, 0, none⟩) 0 0) []) := OwnB.bnil w1 _ (Nat.le_refl _)
  have HVa2 : Hid (View (w1.alloc (.cells #[] 5)) w.heap.size w1.heap.size .u8 (.slice xa xs.length xc) xs) := HV1.out.chg ca2 (by omega)
  have za2 : (w1.alloc (.cells #[] 5)).heap.size = w1.heap.size + 1 := by simp
  have KHV2 : Hid (View (w1.alloc (.cells #[] 5)) w.heap.size w1.heap.size .u8 (.slice xa xs.length xc) xs) := HV1.out.chg ca2 (by omega)
  have HCa2 : Hid (Chg 0 0 w (w1.alloc (.cells #[] 5))) := HC1.out.trans ca2
  clear ca2 HC1 HV1
  go_wp2_with (at_builtin; refine wpList_app_own rfl _ _ rfl w1.heap.size rfl w1.heap.size HN2.out (by omega) _ _ _ xs rfl HVa2.out (by omega) ?_)
  intro vv2 w2 oo2 gg2 cc2
  obtain ⟨gy2, ⟨yc2, rfl⟩, _⟩ := gg2.out
  have zz2 := cc2.size
  have VY2 : Hid (View w2 w1.heap.size w2.heap.size .u8 (.slice (some ⟨gy2, 0, none⟩) xs.length yc2) xs) := oo2.seen (by omega)
  have HV2 : Hid (View w2 w.heap.size w1.heap.size .u8 (.slice xa xs.length xc) xs) := KHV2.out.chg cc2 (by omega)
  have HC2 : Hid (Chg 0 0 w w2) := HCa2.out.trans cc2
  clear oo2 gg2 cc2 HN2 HVa2 HCa2 KHV2
  have hN3 := implBitRuns_calls w2 f t HXb.out (by omega) VY2.out
  go_wp2_with fail
  refine hN3.mono ?_
  rintro e w3 ⟨vr, K, rfl, or3, hK3, cc3⟩
  have zz3 := cc3.size
  have HV3 : Hid (View w3 w.heap.size w1.heap.size .u8 (.slice xa xs.length xc) xs) := HV2.out.chg cc3 (by omega)
  have HC3 : Hid (Chg 0 0 w w3) := HC2.out.trans cc3
  have hlen : (runsD xs f t).length = K * 2 := or3.len
  obtain ⟨ra, rc, rfl⟩ : ∃ ra rc, vr = .slice ra K rc := (or3.view (by omega) (hi := w3.heap.size) (fun g hg => (or3.lt g hg).2)).slice
  have HR3 : Hid (FView 2 w3 w2.heap.size w3.heap.size (.slice ra K rc) K (runsD xs f t)) := or3.view (by omega) (fun g hg => (or3.lt g hg).2)
  clear or3 VY2
  clear hN3 cc3 HC2 HV2
  have ca4 : Chg 0 0 w3 (w3.alloc (.cells #[] 5)) := Chg.alloc (Chg.refl 0 0 w3) _
  have HN4 : Hid (OwnB (w3.alloc (.cells #[] 5)) w3.heap.size 5 (.slice (some ⟨w3.heap.size, 0, none⟩) 0 0) []) := OwnB.bnil w3 _ (Nat.le_refl _)
  have HVa4 : Hid (View (w3.alloc (.cells #[] 5)) w.heap.size w1.heap.size .u8 (.slice xa xs.length xc) xs) := HV3.out.chg ca4 (by omega)
  have za4 : (w3.alloc (.cells #[] 5)).heap.size = w3.heap.size + 1 := by simp
  have KHV4 : Hid (View (w3.alloc (.cells #[] 5)) w.heap.size w1.heap.size .u8 (.slice xa xs.length xc) xs) := HV3.out.chg ca4 (by omega)
  have KHR4 : Hid (FView 2 (w3.alloc (.cells #[] 5)) w2.heap.size w3.heap.size (.slice ra K rc) K (runsD xs f t)) := HR3.out.chg ca4 (by omega)
  have HCa4 : Hid (Chg 0 0 w (w3.alloc (.cells #[] 5))) := HC3.out.trans ca4
  clear ca4 HC3 HV3 HR3
  go_wp2_with (at_builtin; refine wpList_app_own rfl _ _ rfl w3.heap.size rfl w3.heap.size HN4.out (by omega) _ _ _ xs rfl HVa4.out (by omega) ?_)
  intro vv4 w4 oo4 gg4 cc4
  obtain ⟨gy4, ⟨yc4, rfl⟩, _⟩ := gg4.out
  have zz4 := cc4.size
  have VY4 : Hid (View w4 w3.heap.size w4.heap.size .u8 (.slice (some ⟨gy4, 0, none⟩) xs.length yc4) xs) := oo4.seen (by omega)
  have HV4 : Hid (View w4 w.heap.size w1.heap.size .u8 (.slice xa xs.length xc) xs) := KHV4.out.chg cc4 (by omega)
  have HR4 : Hid (FView 2 w4 w2.heap.size w3.heap.size (.slice ra K rc) K (runsD xs f t)) := KHR4.out.chg cc4 (by omega)
  have HC4 : Hid (Chg 0 0 w w4) := HCa4.out.trans cc4
  clear oo4 gg4 cc4 HN4 HVa4 HCa4 KHV4 KHR4
  have hN5 := implBitFirst_calls w4 f t HXb.out (by omega) VY4.out
  go_wp2_with fail
  refine hN5.mono ?_
  rintro e w5 ⟨rfl, cc5⟩
  have zz5 := cc5.size
  have HV5 : Hid (View w5 w.heap.size w1.heap.size .u8 (.slice xa xs.length xc) xs) := HV4.out.chg cc5 (by omega)
  have HR5 : Hid (FView 2 w5 w2.heap.size w3.heap.size (.slice ra K rc) K (runsD xs f t)) := HR4.out.chg cc5 (by omega)
  have HC5 : Hid (Chg 0 0 w w5) := HC4.out.trans cc5
  clear VY4
  clear hN5 cc5 HC4 HV4 HR4
  have HBO : Hid (xs.length ≤ 2048 → BitsOk xs (lwLo xs f) (lwHi xs f t) (runsD xs f t) K (firstD xs f t) (countD xs f t)) := fun hx => bits_ok hx f t hlen
  have HBig : Hid (¬ xs.length ≤ 2048 → runsD xs f t = [] ∧ firstD xs f t = -1 ∧ countD xs f t = 0) := fun hx => bits_big hx f t
  have HLen : Hid ((runsD xs f t).length = K * 2) := hlen
  clear hlen
  have HLo : Hid (lwLo xs f = min (max 0 f) (8 * (xs.length : Int))) := rfl
  have HHi : Hid (lwHi xs f t = max (lwLo xs f) (min (8 * (xs.length : Int)) t)) := rfl
  go_upto_region 6 with fail
  go_cut [8] (fun s8 wx => s8 = .int .i64 (lwLo xs f) ∧ wx = w5)
  case first =>
    go_wp2
    all_goals
      go_meet
      refine ⟨?_, rfl⟩
      rw [HLo.out]
      show Value.int .i64 _ = Value.int .i64 _
      congr 1
      omega
  obtain ⟨rfl, rfl⟩ := hcut
  generalize wc = w5 at *
  generalize lwLo xs f = LO at *
  go_upto_region 7 with fail
  go_cut [9] (fun s9 wx => s9 = .int .i64 (lwHi xs f t) ∧ wx = w5)
  case first =>
    go_wp2
    all_goals
      go_meet
      refine ⟨?_, rfl⟩
      rw [HHi.out]
      show Value.int .i64 _ = Value.int .i64 _
      congr 1
      omega
  obtain ⟨rfl, rfl⟩ := hcut
  generalize wc = w5 at *
  generalize lwHi xs f t = HI at *
  have HCnt : Hid (∀ (W : World) (lo hi : Nat) (v : Value), View W lo hi .u8 v xs → Calls Try.prog 7 #[v, .int .i64 f, .int .i64 t] W fun e w' => e = .returned (.int .i64 (countD xs f t)) ∧ Chg 0 0 W w') := fun W lo hi v h => implBitCount_calls W f t HXb.out (by omega) h
  generalize runsD xs f t = fs at *
  generalize firstD xs f t = FI at *
  generalize countD xs f t = CN at *
  clear HLo HHi
  by_cases hx : xs.length ≤ 2048
  case neg =>
    obtain ⟨e1, e2, e3⟩ := HBig.out hx
    obtain rfl : K = 0 := by have := HLen.out; rw [e1] at this; simp at this; omega
    have hb : (2048 : Int) < (xs.length : Int) := by omega
    have hN := HCnt.out w5 _ _ _ HV5.out
    rw [e3] at hN
    subst e2
    clear e1 e3
    go_wp2_with fail
    refine hN.mono ?_
    rintro e w6 ⟨rfl, c6⟩
    have HC6 : Hid (Chg 0 0 w w6) := HC5.out.trans c6
    clear hN c6
    go_wp2
    go_ret
    exact ⟨rfl, HC6.out.below (by omega)⟩
  have hnb : ¬ (2048 : Int) < (xs.length : Int) := by omega
  have HB : Hid (BitsOk xs LO HI fs K FI CN) := HBO.out hx
  clear HBO HBig
  have hbig := HB.out.big
  obtain ⟨hb1, hb2, hb3⟩ := hbig
  go_wp2
  go_loopw [10, 11, 12] (fun s10 s11 s12 wr => ∃ k : Nat, k ≤ K ∧ s12 = .int .i64 k ∧ s10 = .int .i64 (lsum fs k) ∧ s11 = .int .i64 (if k = 0 then LO else fs.getD (2 * (k - 1)) 0 + fs.getD (2 * (k - 1) + 1) 0) ∧ Chg 0 0 w5 wr) (fun _ _ s12 _ => K - (intOf s12).toNat)
  case atStart => exact ⟨0, Nat.zero_le _, rfl, rfl, by rw [if_pos rfl], Chg.refl 0 0 w5⟩
  case round =>
    obtain ⟨k, hk, rfl, rfl, rfl, hch⟩ := hrel
    have HCr : Hid (Chg 0 0 w5 wr) := hch
    have zr := hch.size
    by_cases hlt : k < K
    · have hi' : (k : Int) < (K : Int) := by omega
      obtain ⟨b, off, rfl, hcell⟩ : ∃ b off, ra = some ⟨b, off, none⟩ ∧ ∀ i, i < K * 2 → wr.cell? ⟨b, off + i, none⟩ = some (.int .i64 (fs.getD i 0)) := by
        obtain ⟨ao', cap', e, _, _, _, h3⟩ := HR5.out.chg hch (by omega)
        simp only [Value.slice.injEq] at e
        rcases h3 with h3 | ⟨b, off, h4, _, _, h7⟩
        · omega
        · exact ⟨b, off, by rw [e.1, h4], h7⟩
      have d0 : wr.cell? ⟨b, off + k * 2, none⟩ = some (.int .i64 (fs.getD (2 * k) 0)) := by rw [Nat.mul_comm 2 k]; exact hcell (k * 2) (by omega)
      have d1 : wr.cell? ⟨b, off + k * 2 + 1, none⟩ = some (.int .i64 (fs.getD (2 * k + 1) 0)) := by rw [Nat.mul_comm 2 k, Nat.add_assoc]; exact hcell (k * 2 + 1) (by omega)
      have hp := HB.out.pos k hlt
      have hlo := HB.out.low k hlt
      have htp := HB.out.top k hlt
      have HOff : Hid (∀ m : Int, fs.getD (2 * k) 0 ≤ m → m < fs.getD (2 * k) 0 + fs.getD (2 * k + 1) 0 → bitG xs m = false) := HB.out.off k hlt
      have hat : (if k = 0 then LO else fs.getD (2 * (k - 1)) 0 + fs.getD (2 * (k - 1) + 1) 0) ≤ fs.getD (2 * k) 0 := by
        by_cases e : k = 0
        · rw [if_pos e]; exact hlo
        · rw [if_neg e]
          have := HB.out.apart (k - 1) (by omega)
          rw [show k - 1 + 1 = k by omega] at this
          omega
      have hne : 0 < k → (if k = 0 then LO else fs.getD (2 * (k - 1)) 0 + fs.getD (2 * (k - 1) + 1) 0) ≠ fs.getD (2 * k) 0 := by
        intro e
        rw [if_neg (by omega)]
        have := HB.out.apart (k - 1) (by omega)
        rw [show k - 1 + 1 = k by omega] at this
        omega
      have HSum : Hid (lsum fs (k + 1) = lsum fs k + fs.getD (2 * k + 1) 0) := rfl
      have hs0 : 0 ≤ lsum fs k := (lsum_le HB.out.pos (K - k) k (by omega)).1
      have hs1 : lsum fs k + fs.getD (2 * k + 1) 0 ≤ 16384 := by
        have h3 := (lsum_le HB.out.pos (K - (k + 1)) (k + 1) (by omega)).2
        rw [HSum.out] at h3
        have h4 := HB.out.all
        omega
      have HNx : Hid ((if k + 1 = 0 then LO else fs.getD (2 * (k + 1 - 1)) 0 + fs.getD (2 * (k + 1 - 1) + 1) 0) = fs.getD (2 * k) 0 + fs.getD (2 * k + 1) 0) := by show _ = _; rw [if_neg (by omega), Nat.add_sub_cancel]
      generalize (if k = 0 then LO else fs.getD (2 * (k - 1)) 0 + fs.getD (2 * (k - 1) + 1) 0) = AT at *
      generalize fs.getD (2 * k) 0 = A at *
      generalize fs.getD (2 * k + 1) 0 = L at *
      clear hcell hch
      have x1 : ¬ L < 1 := by omega
      have x2 : ¬ A < AT := by omega
      have x3 : ¬ HI < A + L := by omega
      have y1 : A + L ≤ 16384 := by omega
      have hbx := heap_new wr (.cells #[.int .i64 A, .int .i64 L] 29)
      have cbx : Chg 0 0 wr (wr.alloc (.cells #[.int .i64 A, .int .i64 L] 29)) := Chg.alloc (Chg.refl 0 0 wr) _
      have HCb : Hid (Chg 0 0 w5 (wr.alloc (.cells #[.int .i64 A, .int .i64 L] 29))) := HCr.out.trans cbx
      have HBx : Hid ((wr.alloc (.cells #[.int .i64 A, .int .i64 L] 29)).heap[wr.heap.size]? = some (.cells #[.int .i64 A, .int .i64 L] 29 (0, 0))) := hbx
      have zb : (wr.alloc (.cells #[.int .i64 A, .int .i64 L] 29)).heap.size = wr.heap.size + 1 := by simp
      obtain ⟨g0, g1, _⟩ := two_cells hbx
      clear hbx cbx HCr
      go_upto_region 16 with fail
      go_cut [106] (fun s106 wx => s106 = .bool false ∧ wx = wr.alloc (.cells #[.int .i64 A, .int .i64 L] 29))
      case first =>
        by_cases e : 0 < k
        · have e2 : (A == AT) = false := by have := hne e; simp; omega
          have e3 : (0 : Int) < (k : Int) := by omega
          go_wp2
          go_meet
          exact ⟨rfl, rfl⟩
        · have e3 : ¬ (0 : Int) < (k : Int) := by omega
          go_wp2
          go_meet
          exact ⟨rfl, rfl⟩
      obtain ⟨rfl, hwc⟩ := hcut
      rw [← hwc] at HCb HBx zb
      clear hwc g0 g1 d0 d1 x1 x2 x3 hne hat
      generalize wc = wb at *
      have hnb' : wr.heap.size < wb.heap.size := by omega
      clear zb
      generalize wr.heap.size = NB at *
      obtain ⟨g0, g1, _⟩ := two_cells HBx.out
      go_wp2
      go_loopw [14] (fun s14 wr => ∃ m : Int, s14 = .int .i64 m ∧ A ≤ m ∧ m ≤ A + L ∧ Chg 0 0 wb wr) (fun s14 _ => (A + L - intOf s14).toNat)
      case atStart => exact ⟨A, rfl, Int.le_refl _, by omega, Chg.refl 0 0 wb⟩
      case round =>
        obtain ⟨m, rfl, hm1, hm2, hci⟩ := hrel
        have HCi : Hid (Chg 0 0 wb wr) := hci
        obtain ⟨j0, j1, _⟩ := two_cells ((hci.block NB (by omega) (by omega)).trans HBx.out)
        have zi := hci.size
        by_cases hml : m < A + L
        · have hbit := HOff.out m hm1 hml
          have hVi : View wr w.heap.size w1.heap.size .u8 (.slice xa xs.length xc) xs := ((HV5.out.chg HCb.out (by omega)).chg hci (by omega))
          have hG := specBitGet_calls wr m HXb.out (by omega) hVi
          have hG2 := implBitGet_calls wr m HXb.out (by omega) hVi
          rw [hbit] at hG hG2
          clear hci hVi hbit
          go_wp2_with fail
          refine hG.mono ?_
          rintro e wj ⟨rfl, hwj⟩
          subst wj
          clear hG
          go_wp2_with fail
          refine hG2.mono ?_
          rintro e wj ⟨rfl, cj⟩
          have HCj : Hid (Chg 0 0 wb wj) := HCi.out.trans cj
          clear hG2 cj HCi j0 j1
          go_wp2
          go_roundw
          case rel => exact ⟨m + 1, rfl, by omega, by omega, HCj.out⟩
          case measure => simp [intOf]; omega
        · obtain rfl : m = A + L := by omega
          have HCt : Hid (Chg 0 0 w5 wr) := HCb.out.trans hci
          clear hci
          go_wp2
          go_roundw
          case rel => exact ⟨k + 1, by omega, by go_num, by rw [HSum.out], by rw [HNx.out], HCt.out⟩
          case measure => simp [intOf]; omega
    · obtain rfl : k = K := by omega
      generalize (if k = 0 then LO else fs.getD (2 * (k - 1)) 0 + fs.getD (2 * (k - 1) + 1) 0) = AT at *
      have hall := HB.out.all
      have hls := (lsum_le HB.out.pos 0 k (by omega)).1
      have HCr5 : Hid (Chg 0 0 w wr) := HC5.out.trans hch
      have HVr : Hid (View wr w.heap.size w1.heap.size .u8 (.slice xa xs.length xc) xs) := HV5.out.chg hch (by omega)
      have HRr : Hid (FView 2 wr w2.heap.size w3.heap.size (.slice ra k rc) k fs) := HR5.out.chg hch (by omega)
      clear hch HCr HC5 HV5 HR5
      have ca : Chg 0 0 wr (wr.alloc (.cells #[] 5)) := Chg.alloc (Chg.refl 0 0 wr) _
      have HNa : Hid (OwnB (wr.alloc (.cells #[] 5)) wr.heap.size 5 (.slice (some ⟨wr.heap.size, 0, none⟩) 0 0) []) := OwnB.bnil wr _ (Nat.le_refl _)
      have HVa : Hid (View (wr.alloc (.cells #[] 5)) w.heap.size w1.heap.size .u8 (.slice xa xs.length xc) xs) := HVr.out.chg ca (by omega)
      have HRa : Hid (FView 2 (wr.alloc (.cells #[] 5)) w2.heap.size w3.heap.size (.slice ra k rc) k fs) := HRr.out.chg ca (by omega)
      have HCa : Hid (Chg 0 0 w (wr.alloc (.cells #[] 5))) := HCr5.out.trans ca
      have za : (wr.alloc (.cells #[] 5)).heap.size = wr.heap.size + 1 := by simp
      clear ca HVr HRr HCr5
      go_wp2_with (at_builtin; refine wpList_app_own rfl _ _ rfl wr.heap.size rfl wr.heap.size HNa.out (by omega) _ _ _ xs rfl HVa.out (by omega) ?_)
      intro v6 w6 o6 gg6 c6
      obtain ⟨g6, ⟨k6, rfl⟩, _⟩ := gg6.out
      have z6 := c6.size
      have hN := HCnt.out w6 _ _ _ (o6.seen (by omega))
      have HV6 : Hid (View w6 w.heap.size w1.heap.size .u8 (.slice xa xs.length xc) xs) := HVa.out.chg c6 (by omega)
      have HR6 : Hid (FView 2 w6 w2.heap.size w3.heap.size (.slice ra k rc) k fs) := HRa.out.chg c6 (by omega)
      have HC6 : Hid (Chg 0 0 w w6) := HCa.out.trans c6
      clear gg6 o6 c6 HNa HVa HRa HCa za
      go_wp2_with fail
      refine hN.mono ?_
      rintro e w7 ⟨rfl, c7⟩
      have HV7 : Hid (View w7 w.heap.size w1.heap.size .u8 (.slice xa xs.length xc) xs) := HV6.out.chg c7 (by omega)
      have hR7 := HR6.out.chg c7 (by omega)
      have HC7 : Hid (Chg 0 0 w w7) := HC6.out.trans c7
      have z7 := c7.size
      clear hN c7 HV6 HR6 HC6
      have ew : wrap64 ((CN : Int) + lsum fs k) = (CN : Int) + lsum fs k := by unfold wrap64; omega
      have eq1 : ((CN : Int) + lsum fs k != HI - LO) = false := by simp; omega
      by_cases hk0 : k = 0
      · subst hk0
        have hfi := HB.out.none rfl
        subst hfi
        clear hR7
        go_wp2
        go_ret
        exact ⟨rfl, HC7.out.below (by omega)⟩
      · obtain ⟨hf1, hf2⟩ := HB.out.some (by omega)
        have hp0 : 1 ≤ fs.getD 1 0 := HB.out.pos 0 (by omega)
        have ht0 : fs.getD 0 0 + fs.getD 1 0 ≤ HI := HB.out.top 0 (by omega)
        have hbf : bitG xs FI = false := by rw [hf1]; exact HB.out.off 0 (by omega) _ (Int.le_refl _) (show fs.getD 0 0 < fs.getD 0 0 + fs.getD 1 0 by omega)
        obtain ⟨m, rfl⟩ : ∃ m : Nat, FI = (m : Int) := ⟨FI.toNat, by omega⟩
        have hIn : InMap xs (m : Int) := ⟨hx, by omega, by omega⟩
        obtain ⟨p1, p2, p3, p4⟩ := put_on HXb.out hIn hbf
        have HP1 : Hid (bitG (bitP xs (m : Int) true) (m : Int) = true) := p1
        have HP2 : Hid (bitP (bitP xs (m : Int) true) (m : Int) false = xs) := p2
        have HP4 : Hid (Byt (bitP xs (m : Int) true)) := p4
        have HPl : Hid ((bitP xs (m : Int) true).length = xs.length) := hIn.put
        have HCt : Hid (countD (bitP xs (m : Int) true) 0 (8 * (xs.length : Int)) = countD xs 0 (8 * (xs.length : Int)) + 1) := count_next HXb.out hIn hbf
        obtain ⟨b, off, rfl, hcell⟩ : ∃ b off, ra = some ⟨b, off, none⟩ ∧ ∀ i, i < k * 2 → w7.cell? ⟨b, off + i, none⟩ = some (.int .i64 (fs.getD i 0)) := by
          obtain ⟨ao', cap', e, _, _, _, h3⟩ := hR7
          simp only [Value.slice.injEq] at e
          rcases h3 with h3 | ⟨b, off, h4, _, _, h7⟩
          · exact absurd h3 hk0
          · exact ⟨b, off, by rw [e.1, h4], h7⟩
        have d0 : w7.cell? ⟨b, off, none⟩ = some (.int .i64 (m : Int)) := by rw [hf1]; exact hcell 0 (by omega)
        have u1 : ((k : Int) == 0) = false := by simp; omega
        have u2 : ((m : Int) == -1) = false := by simp
        have u3 : (0 : Int) < (k : Int) := by omega
        have u4 : ((m : Int) != (m : Int)) = false := by simp
        have u5 : ¬ (m : Int) < 0 := by omega
        clear hf1 hf2 hp0 ht0 hbf hIn p1 p2 p3 p4 hcell hall hls
        generalize lsum fs k = LS at *
        have HPut : Hid (∀ (W : World) (lo hi : Nat) (v : Value), View W lo hi .u8 v xs → Calls Try.prog 10 #[v, .int .i64 (m : Int), .bool true] W fun e w' => ∃ v, e = .returned v ∧ OwnB w' W.heap.size 5 v (bitP xs (m : Int) true) ∧ Chg 0 0 W w') := fun W lo hi v h => implBitPut_calls W (m : Int) true HXb.out (by omega) h
        generalize bitP xs (m : Int) true = ys at *
        have ca : Chg 0 0 w7 (w7.alloc (.cells #[] 5)) := Chg.alloc (Chg.refl 0 0 w7) _
        have HNa : Hid (OwnB (w7.alloc (.cells #[] 5)) w7.heap.size 5 (.slice (some ⟨w7.heap.size, 0, none⟩) 0 0) []) := OwnB.bnil w7 _ (Nat.le_refl _)
        have HVa : Hid (View (w7.alloc (.cells #[] 5)) w.heap.size w1.heap.size .u8 (.slice xa xs.length xc) xs) := HV7.out.chg ca (by omega)
        have HCa : Hid (Chg 0 0 w (w7.alloc (.cells #[] 5))) := HC7.out.trans ca
        have za : (w7.alloc (.cells #[] 5)).heap.size = w7.heap.size + 1 := by simp
        clear ca HV7 HC7
        go_wp2_with (at_builtin; refine wpList_app_own rfl _ _ rfl w7.heap.size rfl w7.heap.size HNa.out (by omega) _ _ _ xs rfl HVa.out (by omega) ?_)
        intro v8 w8 o8 gg8 c8
        obtain ⟨g8, ⟨k8, rfl⟩, _⟩ := gg8.out
        have z8 := c8.size
        have hN := HPut.out w8 _ _ _ (o8.seen (by omega))
        have HV8 : Hid (View w8 w.heap.size w1.heap.size .u8 (.slice xa xs.length xc) xs) := HVa.out.chg c8 (by omega)
        have HC8 : Hid (Chg 0 0 w w8) := HCa.out.trans c8
        clear gg8 o8 c8 HNa HVa HCa za d0 u1 u2 u3 u4 u5 ew eq1
        go_wp2_with fail
        refine hN.mono ?_
        rintro e w9 ⟨v9, rfl, o9, c9⟩
        have z9 := c9.size
        obtain ⟨na, nc, rfl⟩ := o9.sl
        have HY9 : Hid (View w9 w8.heap.size w9.heap.size .u8 (.slice na ys.length nc) ys) := o9.seen (by rw [HPl.out]; omega)
        have HV9 : Hid (View w9 w.heap.size w1.heap.size .u8 (.slice xa xs.length xc) xs) := HV8.out.chg c9 (by omega)
        have HC9 : Hid (Chg 0 0 w w9) := HC8.out.trans c9
        have ca : Chg 0 0 w9 (w9.alloc (.cells #[] 5)) := Chg.alloc (Chg.refl 0 0 w9) _
        have HNa : Hid (OwnB (w9.alloc (.cells #[] 5)) w9.heap.size 5 (.slice (some ⟨w9.heap.size, 0, none⟩) 0 0) []) := OwnB.bnil w9 _ (Nat.le_refl _)
        have HYa : Hid (View (w9.alloc (.cells #[] 5)) w8.heap.size w9.heap.size .u8 (.slice na ys.length nc) ys) := HY9.out.chg ca (by omega)
        have HVa : Hid (View (w9.alloc (.cells #[] 5)) w.heap.size w1.heap.size .u8 (.slice xa xs.length xc) xs) := HV9.out.chg ca (by omega)
        have HCa : Hid (Chg 0 0 w (w9.alloc (.cells #[] 5))) := HC9.out.trans ca
        have za : (w9.alloc (.cells #[] 5)).heap.size = w9.heap.size + 1 := by simp
        clear hN o9 c9 ca HV8 HC8 HY9 HV9 HC9
        go_wp2_with (at_builtin; refine wpList_app_own rfl _ _ rfl w9.heap.size rfl w9.heap.size HNa.out (by omega) _ _ _ ys rfl HYa.out (by rw [HPl.out]; omega) ?_)
        intro v10 w10 o10 gg10 c10
        obtain ⟨g10, ⟨k10, rfl⟩, _⟩ := gg10.out
        have z10 := c10.size
        have hN := implBitPut_calls w10 (m : Int) false HP4.out (by rw [HPl.out]; omega) (o10.seen (by rw [HPl.out]; omega))
        rw [HP2.out] at hN
        have HV10 : Hid (View w10 w.heap.size w1.heap.size .u8 (.slice xa xs.length xc) xs) := HVa.out.chg c10 (by omega)
        have HY10 : Hid (View w10 w8.heap.size w9.heap.size .u8 (.slice na ys.length nc) ys) := HYa.out.chg c10 (by omega)
        have HC10 : Hid (Chg 0 0 w w10) := HCa.out.trans c10
        clear gg10 o10 c10 HNa HVa HYa HCa za
        go_wp2_with fail
        refine hN.mono ?_
        rintro e w11 ⟨v11, rfl, o11, c11⟩
        have z11 := c11.size
        obtain ⟨qa, qc, rfl⟩ := o11.sl
        have HQ11 : Hid (View w11 w10.heap.size w11.heap.size .u8 (.slice qa xs.length qc) xs) := o11.seen (by omega)
        have HV11 : Hid (View w11 w.heap.size w1.heap.size .u8 (.slice xa xs.length xc) xs) := HV10.out.chg c11 (by omega)
        have HY11 : Hid (View w11 w8.heap.size w9.heap.size .u8 (.slice na ys.length nc) ys) := HY10.out.chg c11 (by omega)
        have HC11 : Hid (Chg 0 0 w w11) := HC10.out.trans c11
        have hG := implBitGet_calls w11 (m : Int) HP4.out (by rw [HPl.out]; omega) HY11.out
        rw [HP1.out] at hG
        have hlen2 : ys.length = xs.length := HPl.out
        have hlq : ((ys.length : Int) == (xs.length : Int)) = true := by rw [hlen2]; simp
        clear hlen2 hN o11 c11 HV10 HY10 HC10
        go_wp2_with fail
        refine hG.mono ?_
        rintro e w12 ⟨rfl, c12⟩
        have z12 := c12.size
        have hS := lwSameBytes_calls w12 (HQ11.out.chg c12 (by omega)) (HV11.out.chg c12 (by omega))
        have HV12 : Hid (View w12 w.heap.size w1.heap.size .u8 (.slice xa xs.length xc) xs) := HV11.out.chg c12 (by omega)
        have HY12 : Hid (View w12 w8.heap.size w9.heap.size .u8 (.slice na ys.length nc) ys) := HY11.out.chg c12 (by omega)
        have HC12 : Hid (Chg 0 0 w w12) := HC11.out.trans c12
        clear hG c12 HQ11 HV11 HY11 HC11 hlq
        go_wp2_with fail
        refine hS.mono ?_
        rintro e w13 ⟨rfl, hw13⟩
        subst w13
        have hN := implBitCount_calls w12 0 (8 * (xs.length : Int)) HP4.out (by rw [HPl.out]; omega) HY12.out
        rw [HCt.out] at hN
        clear hS
        go_wp2_with fail
        refine hN.mono ?_
        rintro e w14 ⟨rfl, c14⟩
        have HC14 : Hid (Chg 0 0 w w14) := HC12.out.trans c14
        have hN2 := specBitCount_calls w14 0 (8 * (xs.length : Int)) HXb.out (by omega) (HV12.out.chg c14 (by omega))
        have hcb : countD xs 0 (8 * (xs.length : Int)) ≤ 16384 := by
          have h1 := countFrom_le xs (whi xs (8 * (xs.length : Int)) - wlo 0).toNat (wlo 0)
          have h2 := whi_le xs (8 * (xs.length : Int))
          have h3 : wlo 0 = 0 := rfl
          unfold countD
          omega
        generalize countD xs 0 (8 * (xs.length : Int)) = CX at *
        have hcc : (((CX + 1 : Nat) : Int) == (CX : Int) + 1) = true := by simp
        clear hN c14 HY12 HV12 HC12 HCt
        go_wp2_with fail
        refine hN2.mono ?_
        rintro e w15 ⟨rfl, hw15⟩
        subst w15
        clear hN2
        go_wp2
        go_ret
        exact ⟨rfl, HC14.out.below (by omega)⟩

end Go.Proofs.Ytgmpggloonkfnaa
