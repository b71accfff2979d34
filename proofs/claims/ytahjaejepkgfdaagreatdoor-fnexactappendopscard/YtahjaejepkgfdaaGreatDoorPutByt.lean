/- Several short texts in one: Copy, Join2, SpecHead, AppSeen, SpecHead2, PutByt. -/
import Derived.Test.YtahjaejepkgfdaaGreatDoorCopyRow
import Derived.Laws.AppendOwnNone
import Derived.Test.YtahjaejepkgfdaaGreatDoorSpecBeg
import Derived.Test.YtahjaejepkgfdaaGreatDoorByt
namespace Go.Proofs.YtahjaejepkgfdaaGreatDoor
open Go.RowKit

theorem infoU_zero : (Value.int .u8 0).cells.size = 1 := rfl

set_option maxRecDepth 20000 in
set_option maxHeartbeats 1000000 in
theorem l1Copy_calls (w : World) {lo hi : Nat} {a : Value} {xs : List Int} (hl : xs.length ≤ 1048576) (h1 : View w lo hi .u8 a xs) :
    Calls Tryz.prog 44 #[a] w fun e w' => ∃ v, e = .returned v ∧ OwnB w' w.heap.size 5 v xs ∧ Chg 0 0 w w' := by
  obtain ⟨i, hi, hz0, hz1, hz2⟩ := info_parts Tryz.infoU
  obtain ⟨ao, cap, rfl, _, ⟨_, hnil⟩, h1⟩ := h1
  have C0 : Chg 0 0 w (w.alloc (.cells #[] 5)) := Chg.alloc (Chg.refl 0 0 w) _
  have O0 : (w.alloc (.cells #[] 5)).ownsRow w.heap.size 5 1 (.slice (some ⟨w.heap.size, 0, none⟩) 0 0) 0 [] := by
    have := World.ownsRow_lit (base := w.heap.size) (e := 5) (size := 1) w #[] 0 (Nat.le_refl _) (by unfold maxLen; omega) rfl
    simpa using this
  have HO0 : Hid ((w.alloc (.cells #[] 5)).ownsRow w.heap.size 5 1 (.slice (some ⟨w.heap.size, 0, none⟩) 0 0) 0 []) := O0
  have HC0 : Hid (Chg 0 0 w (w.alloc (.cells #[] 5))) := C0
  have bs : Hid (w.heap.size ≤ (w.alloc (.cells #[] 5)).heap.size) := by show _ ≤ _; simp
  cases ao with
  | none =>
    obtain rfl : xs = [] := by
      rcases h1 with h1 | ⟨b, off, e, _⟩
      · exact h1
      · cases e
    obtain rfl : cap = 0 := hnil rfl
    clear h1 hnil C0
    go_enter Tryz.func44, Tryz.ntmps44
    go_wp2_with (at_builtin; refine wpList_append_own_none rfl (.tmp 3) (.tmp 4) 45 rfl w.heap.size 5 i 1 Tryz.underlying45 hi _ 0 [] rfl HO0.out rfl ?_)
    go_ret
    exact ⟨_, rfl, HO0.out, HC0.out⟩
  | some ad =>
    have hsrc : ∀ j u, (xs.map (Value.int .u8))[j]? = some u → (w.alloc (.cells #[] 5)).cell? (ad.add j) = some u := by
      intro j u hj
      have hjl : j < xs.length := by have := (List.getElem?_eq_some_iff.1 hj).1; simpa using this
      rcases h1 with h1 | ⟨b, off, e, _, _, hc⟩
      · rw [h1] at hjl; simp at hjl
      · cases e
        rw [Addr.add_mid, C0.cell (hc j hjl) (by omega), ← hj]
        simp [List.getD_eq_getElem?_getD, hjl]
    have Hsrc : Hid (∀ j u, (xs.map (Value.int .u8))[j]? = some u → (w.alloc (.cells #[] 5)).cell? (ad.add j) = some u) := hsrc
    clear h1 hnil hsrc C0
    go_enter Tryz.func44, Tryz.ntmps44
    go_wp2_with (at_builtin; refine wpList_append_own _ rfl (.tmp 3) (.tmp 4) 45 rfl w.heap.size 5 i (.int .u8 0) 1 1 Tryz.underlying45 hi hz0 hz1 hz2 rfl (by decide) _ 0 [] rfl HO0.out ad xs.length cap (xs.map (Value.int .u8)) rfl (by simp) Hsrc.out (ints_oneCell _ _) (by unfold maxLen; omega) (by omega) bs.out ?_)
    intro v' w1 hown hgrow _
    have HO : Hid (OwnB w1 w.heap.size 5 v' xs) := by
      show OwnB _ _ _ _ _
      unfold OwnB
      simpa using hown
    have HC : Hid (Chg 0 0 w w1) := HC0.out.step (Chg.ofGrown (lo := w.heap.size) (hi := w.heap.size + 1) hgrow (fun k hk _ => by simp only [Value.ownBlock, Option.some.injEq] at hk; omega)) (Or.inr (Or.inl (Nat.le_refl _)))
    clear hown hgrow HO0 HC0 Hsrc bs
    go_wp2
    go_ret
    exact ⟨_, rfl, HO.out, HC.out⟩

end Go.Proofs.YtahjaejepkgfdaaGreatDoor

namespace Go.Proofs.YtahjaejepkgfdaaGreatDoor
open Go.RowKit

set_option maxRecDepth 20000 in
set_option maxHeartbeats 400000 in
theorem l2Zero_calls (w : World) (n : Nat) (hn : n ≤ 1048576) :
    Calls Tryz.prog 64 #[.int .i64 n] w fun e w' => ∃ g, e = .returned (.slice (some ⟨g, 0, none⟩) n n) ∧ OwnB w' w.heap.size 5 (.slice (some ⟨g, 0, none⟩) n n) (List.replicate n 0) ∧ Chg 0 0 w w' := by
  obtain ⟨i, hi, hz0, hz1, hz2⟩ := info_parts Tryz.infoU
  go_enter Tryz.func64, Tryz.ntmps64
  go_wp2_with (at_make; refine wpList_make_full _ rfl _ _ 45 rfl w.heap.size 5 i (.int .u8 0) 1 Tryz.underlying45 hi hz0 hz1 _ _ _ _ n rfl rfl (by omega) (by omega) (by rw [hz2]; omega) (by unfold maxLen; omega) (by omega) ?_)
  intro w1 hown hgrow
  have HO : Hid (OwnB w1 w.heap.size 5 (.slice (some ⟨w.heap.size, 0, none⟩) n n) (List.replicate n 0)) := by
    show OwnB _ _ _ _ _
    unfold OwnB
    simpa [toList_madeCells_one] using hown
  have HC : Hid (Chg 0 0 w w1) := Chg.ofGrown hgrow (by simp)
  clear hown hgrow
  go_wp2
  go_ret
  exact ⟨_, rfl, HO.out, HC.out⟩

set_option maxRecDepth 20000 in
set_option maxHeartbeats 1000000 in
theorem l2Join_any (w : World) {lo hi lo' : Nat} {a : Value} {xs ys : List Int} {b off n cap : Nat} (hl : xs.length ≤ 1048576) (hl' : ys.length ≤ 1048576) (h1 : View w lo hi .u8 a xs) (h2 : View w lo' w.heap.size .u8 (.slice (some ⟨b, off, none⟩) n cap) ys) :
    Calls Tryz.prog 42 #[a, .slice (some ⟨b, off, none⟩) n cap] w fun e w' => ∃ v, e = .returned v ∧ OwnB w' w.heap.size 5 v (xs ++ ys) ∧ Chg 0 0 w w' := by
  obtain ⟨i, hi, hz0, hz1, hz2⟩ := info_parts Tryz.infoU
  have hN := l1Copy_calls w hl h1
  obtain ⟨_, _, e, _, _, hcell⟩ := h2
  simp only [Value.slice.injEq] at e
  obtain ⟨rfl, rfl, rfl⟩ := e
  have hc : ∀ i, i < ys.length → w.cell? ⟨b, off + i, none⟩ = some (.int .u8 (ys.getD i 0)) := by
    rcases hcell with e | ⟨_, _, e, _, h3, h4⟩
    · intro i hi; rw [e] at hi; exact absurd hi (Nat.not_lt_zero i)
    · cases e; exact h4
  have Hc : Hid (∀ i, i < ys.length → w.cell? ⟨b, off + i, none⟩ = some (.int .u8 (ys.getD i 0))) := hc
  have hay : ∃ ao n c, a = .slice ao n c := by obtain ⟨ao, c, rfl, _⟩ := h1; exact ⟨ao, _, c, rfl⟩
  obtain ⟨ao, an, ac, rfl⟩ := hay
  clear hcell hc h1
  go_enter Tryz.func42, Tryz.ntmps42
  go_wp2_with fail
  refine hN.mono ?_
  rintro e w1 ⟨v1, rfl, o1, hc1⟩
  have hrow : w1.ownsRow w.heap.size 5 1 v1 xs.length (xs.map (Value.int .u8)) := o1
  obtain ⟨so, sn, sc, rfl⟩ := row_slice hrow
  have HO1 : Hid (w1.ownsRow w.heap.size 5 1 (.slice so sn sc) xs.length (xs.map (Value.int .u8))) := hrow
  have hs1 := hc1.size
  have HC1 : Hid (Chg 0 0 w w1) := hc1
  have HNW : Hid (∀ j u, (ys.map (Value.int .u8))[j]? = some u → w1.cell? ((⟨b, off, none⟩ : Addr).add j) = some u) := by
    intro j u hj
    have hjl : j < ys.length := by have := (List.getElem?_eq_some_iff.1 hj).1; simpa using this
    rw [Addr.add_mid, hc1.cell (Hc.out j hjl) (by omega), ← hj]
    simp [List.getD_eq_getElem?_getD, hjl]
  clear hN o1 hc1 hrow
  go_wp2_with (at_builtin; refine wpList_append_own _ rfl (.tmp 8) (.tmp 9) 45 rfl w.heap.size 5 i (.int .u8 0) 1 1 Tryz.underlying45 hi hz0 hz1 hz2 rfl (by decide) _ xs.length (xs.map (Value.int .u8)) rfl HO1.out ⟨b, off, none⟩ ys.length cap (ys.map (Value.int .u8)) rfl (by simp) HNW.out (ints_oneCell _ _) (by unfold maxLen; omega) (by omega) (by omega) ?_)
  intro v' w2 hown hgrow _
  have HO : Hid (OwnB w2 w.heap.size 5 v' (xs ++ ys)) := by
    show OwnB _ _ _ _ _
    unfold OwnB
    rw [List.length_append, List.map_append]
    exact hown
  have hrb : ∀ k, (Value.slice so sn sc).ownBlock = some k → w.heap.size ≤ k ∧ k < w1.heap.size := fun k hk => World.ownsRow.lt HO1.out k hk
  have HC : Hid (Chg 0 0 w w2) := HC1.out.step (Chg.ofGrown (lo := w.heap.size) (hi := w1.heap.size) hgrow (fun k hk _ => hrb k hk)) (Or.inr (Or.inl (Nat.le_refl _)))
  clear hown hgrow HO1 HC1 HNW hrb
  go_wp2
  go_ret
  exact ⟨_, rfl, HO.out, HC.out⟩

theorem l2Join_calls (w : World) {lo hi lo' : Nat} {a : Value} {xs ys : List Int} {b off n cap : Nat} (hl : xs.length ≤ 1048576) (hl' : ys.length ≤ 1048576) (h1 : View w lo hi .u8 a xs) (h2 : View w lo' w.heap.size .u8 (.slice (some ⟨b, off, none⟩) n cap) ys) (_hy : 0 < ys.length) :
    Calls Tryz.prog 42 #[a, .slice (some ⟨b, off, none⟩) n cap] w fun e w' => ∃ v, e = .returned v ∧ OwnB w' w.heap.size 5 v (xs ++ ys) ∧ Chg 0 0 w w' := l2Join_any w hl hl' h1 h2

end Go.Proofs.YtahjaejepkgfdaaGreatDoor

namespace Go.Proofs.YtahjaejepkgfdaaGreatDoor
open Go.RowKit

/-- A block that begins so, with zeros behind. -/
def padL (xs : List Int) : List Int := xs ++ List.replicate (64 - xs.length) 0

set_option maxHeartbeats 1000000 in
theorem l3Pad_calls (w : World) {lo hi : Nat} {a : Value} {xs : List Int} (hl : xs.length < 64) (h1 : View w lo hi .u8 a xs) :
    Calls Tryz.prog 69 #[a] w fun e w' => ∃ v, e = .returned v ∧ OwnB w' w.heap.size 5 v (padL xs) ∧ Chg 0 0 w w' := by
  have v0 := h1
  obtain ⟨ao, cap, rfl, _, _, _⟩ := h1
  obtain ⟨n, hn⟩ : ∃ n : Nat, n = 64 - xs.length := ⟨_, rfl⟩
  have hN : Calls Tryz.prog 64 #[.int .i64 (64 - (xs.length : Int))] w fun e w' => ∃ g, e = .returned (.slice (some ⟨g, 0, none⟩) n n) ∧ OwnB w' w.heap.size 5 (.slice (some ⟨g, 0, none⟩) n n) (List.replicate n 0) ∧ Chg 0 0 w w' := by
    have := l2Zero_calls w n (by omega)
    rwa [show ((n : Nat) : Int) = 64 - (xs.length : Int) by omega] at this
  have Hn : Hid (n = 64 - xs.length) := hn
  have hn0 : 0 < n := by omega
  clear hn
  go_enter Tryz.func69, Tryz.ntmps69
  go_wp2_with fail
  refine hN.mono ?_
  rintro e w1 ⟨g, rfl, ho, hc⟩
  have hs := hc.size
  have hN2 := l2Join_calls (xs := xs) (ys := List.replicate n 0) (lo' := w.heap.size) w1 (by omega) (by simp; have := Hn.out; omega) (v0.chg hc (by omega)) (ho.view (hi := w1.heap.size) (by simp; have := Hn.out; omega) (fun g hg => (ho.lt g hg).2)) (by simpa using hn0)
  clear hN ho v0
  go_wp2_with fail
  refine hN2.mono ?_
  rintro e w2 ⟨v, rfl, o2, hc2⟩
  have HO : Hid (OwnB w2 w.heap.size 5 v (padL xs)) := by
    show OwnB _ _ _ _ _
    unfold padL
    rw [← Hn.out]
    exact o2.base (fun g hg => by have := (o2.lt g hg).1; omega)
  have HC : Hid (Chg 0 0 w w2) := hc.trans hc2
  clear hN2 o2 hc2 hc
  go_wp2
  go_ret
  exact ⟨_, rfl, HO.out, HC.out⟩

end Go.Proofs.YtahjaejepkgfdaaGreatDoor

namespace Go.Proofs.YtahjaejepkgfdaaGreatDoor
open Go.RowKit

/-- append(s, x...), s one's own, x seen in memory and not empty. -/
theorem wp_app_seen {o : Oper} {a : Act} {w : World} {K : Act → World → Prop} {Q : Exit → Act → World → Prop} (s x : Operand)
    (ho : o.op = .call { callee := .builtin .append, args := #[s, x], argTypes := #[45, 45] })
    (base : Nat) (sv : Value) (xs : List Int) (hs : a.eval s = sv) (hO : OwnB w base 5 sv xs) (hbase : base ≤ w.heap.size) (lo hi : Nat) (xv : Value) (ys : List Int) (hx : a.eval x = xv) (hv : View w lo hi .u8 xv ys) (hy : 0 < ys.length) (hl : xs.length + ys.length ≤ 1048576)
    (h : ∀ v' w', OwnB w' base 5 v' (xs ++ ys) → Chg base w.heap.size w w' → K (a.put o.dst v') w') : o.wp Tryz.prog a w K Q := by
  obtain ⟨i, hi, hz0, hz1, hz2⟩ := info_parts Tryz.infoU1
  obtain ⟨ao, cap, rfl, _, _, hcell⟩ := hv
  obtain ⟨b, off, rfl, hc⟩ : ∃ b off, ao = some ⟨b, off, none⟩ ∧ ∀ i, i < ys.length → w.cell? ⟨b, off + i, none⟩ = some (.int .u8 (ys.getD i 0)) := by
    rcases hcell with e | ⟨b, off, e, _, _, h3⟩
    · rw [e] at hy; simp at hy
    · exact ⟨b, off, e, h3⟩
  have HNW : ∀ j u, (ys.map (Value.int .u8))[j]? = some u → w.cell? ((⟨b, off, none⟩ : Addr).add j) = some u := by
    intro j u hj
    have hjl : j < ys.length := by have := (List.getElem?_eq_some_iff.1 hj).1; simpa using this
    rw [Addr.add_mid, hc j hjl, ← hj]
    simp [List.getD_eq_getElem?_getD, hjl]
  have hrow : w.ownsRow base 5 1 sv xs.length (xs.map (Value.int .u8)) := hO
  refine wp_append_own _ s x 45 ho base 5 i (.int .u8 0) 1 1 Tryz.underlying45 hi hz0 hz1 hz2 rfl (by decide) sv xs.length (xs.map (Value.int .u8)) hs hrow ⟨b, off, none⟩ ys.length cap (ys.map (Value.int .u8)) hx (by simp) HNW (ints_oneCell _ _) (by unfold maxLen; omega) (by omega) hbase ?_
  intro v' w2 hown hgrow _
  refine h v' w2 ?_ (Chg.ofGrown hgrow (fun k hk _ => World.ownsRow.lt hrow k hk))
  unfold OwnB
  rw [List.length_append, List.map_append]
  exact hown

theorem wpList_app_seen {ops : Array Oper} {rest : List Oper} {o : Oper} {a : Act} {w : World} {Q : Exit → Act → World → Prop} (hgd : o.guard = none) (s x : Operand)
    (ho : o.op = .call { callee := .builtin .append, args := #[s, x], argTypes := #[45, 45] })
    (base : Nat) (sv : Value) (xs : List Int) (hs : a.eval s = sv) (hO : OwnB w base 5 sv xs) (hbase : base ≤ w.heap.size) (lo hi : Nat) (xv : Value) (ys : List Int) (hx : a.eval x = xv) (hv : View w lo hi .u8 xv ys) (hy : 0 < ys.length) (hl : xs.length + ys.length ≤ 1048576)
    (h : ∀ v' w', OwnB w' base 5 v' (xs ++ ys) → Chg base w.heap.size w w' → wpList Tryz.prog ops Q rest (a.put o.dst v') w') : wpList Tryz.prog ops Q (o :: rest) a w :=
  wpList_plain hgd fun _ hK => wp_app_seen s x ho base sv xs hs hO hbase lo hi xv ys hx hv hy hl fun v' w' h1 h2 => hK _ _ (h v' w' h1 h2)

end Go.Proofs.YtahjaejepkgfdaaGreatDoor

namespace Go.Proofs.YtahjaejepkgfdaaGreatDoor
open Go.RowKit

/-- A block's header. -/
def headL (k c q : Int) : List Int := mg ++ [k, 0] ++ putN c 2 ++ putN q 4

set_option maxRecDepth 20000 in
set_option maxHeartbeats 1000000 in
theorem l3Head_calls (w : World) (k c q : Int) (hk : 0 ≤ k ∧ k < 256) (hc : c ≤ 9223372036854775807) (hq : q ≤ 9223372036854775807) (hc2 : (putN c 2).length = 2) (hq4 : (putN q 4).length = 4) :
    Calls Tryz.prog 62 #[.int .i64 k, .int .i64 c, .int .i64 q] w fun e w' => ∃ v, e = .returned v ∧ OwnB w' w.heap.size 5 v (headL k c q) ∧ Chg 0 0 w w' := by
  have hN := l3Magic_calls w
  obtain ⟨k0, k1⟩ := hk
  have Hc2 : Hid ((putN c 2).length = 2) := hc2
  have Hq4 : Hid ((putN q 4).length = 4) := hq4
  clear hc2 hq4
  go_enter Tryz.func62, Tryz.ntmps62
  go_wp2_with fail
  refine hN.mono ?_
  rintro e w1 ⟨rfl, o1, ch1⟩
  have s1 := ch1.size
  have c2 : Chg 0 0 w1 (w1.alloc (.cells #[.int .u8 k, .int .u8 0] 5)) := Chg.alloc (Chg.refl 0 0 w1) _
  have HO2 : Hid (OwnB (w1.alloc (.cells #[.int .u8 k, .int .u8 0] 5)) w.heap.size 5 (.slice (some ⟨w.heap.size, 0, none⟩) 4 4) mg) := o1.chg c2 (by intro g _; omega)
  have HV2 : Hid (View (w1.alloc (.cells #[.int .u8 k, .int .u8 0] 5)) w1.heap.size (w1.heap.size + 1) .u8 (.slice (some ⟨w1.heap.size, 0, none⟩) 2 2) [k, 0]) := by
    refine ⟨_, 2, rfl, by simp, ⟨by simp, by simp⟩, Or.inr ⟨_, 0, rfl, Nat.le_refl _, Nat.lt_succ_self _, fun i hi => ?_⟩⟩
    have hi2 : i < 2 := by simpa using hi
    have hn := heap_new w1 (.cells #[.int .u8 k, .int .u8 0] 5)
    simp only [World.cell?, hn]
    rcases i with _ | _ | i
    all_goals first | rfl | omega
  have b2 : Hid (w.heap.size ≤ (w1.alloc (.cells #[.int .u8 k, .int .u8 0] 5)).heap.size) := Nat.le_trans s1 c2.size
  have HC2 : Hid (Chg 0 0 w (w1.alloc (.cells #[.int .u8 k, .int .u8 0] 5))) := ch1.trans c2
  clear o1 ch1 c2 hN
  go_wp2_with (at_builtin; refine wpList_app_seen rfl (.tmp 8) (.tmp 11) rfl w.heap.size _ mg rfl HO2.out b2.out _ _ _ [k, 0] rfl HV2.out (by simp) (by simp [mg]) ?_)
  intro v3 w3 o3 ch3
  have C3 : Chg 0 0 w w3 := HC2.out.step ch3 (Or.inr (Or.inl (Nat.le_refl _)))
  have s3 := C3.size
  obtain ⟨e3, l3, k3, rfl⟩ := row_slice o3
  have HO3 : Hid (OwnB w3 w.heap.size 5 (.slice e3 l3 k3) (mg ++ [k, 0])) := o3
  have HC3 : Hid (Chg 0 0 w w3) := C3
  have hN := specPut_calls w3 c 2 hc
  clear o3 ch3 C3 HC2 b2 HV2 HO2
  go_wp2_with fail
  refine hN.mono ?_
  rintro e w4 ⟨v4, rfl, o4, ch4⟩
  have s4 := ch4.size
  have HO4 : Hid (OwnB w4 w.heap.size 5 (.slice e3 l3 k3) (mg ++ [k, 0])) := HO3.out.chg ch4 (by intro g _; omega)
  have HV4 : Hid (View w4 w3.heap.size w4.heap.size .u8 v4 (putN c 2)) := o4.view (by rw [Hc2.out]; omega) (fun g hg => (o4.lt g hg).2)
  have HC4 : Hid (Chg 0 0 w w4) := HC3.out.trans ch4
  have b4 : w.heap.size ≤ w4.heap.size := by omega
  have p2 : Hid (0 < (putN c 2).length) := by show _ < _; rw [Hc2.out]; omega
  have m2 : Hid ((mg ++ [k, 0]).length + (putN c 2).length ≤ 1048576) := by show _ ≤ _; rw [Hc2.out]; simp [mg]
  obtain ⟨e4, l4, k4, rfl⟩ := row_slice o4
  clear o4 ch4 hN HO3 HC3
  go_wp2_with (at_builtin; refine wpList_app_seen rfl (.tmp 13) (.tmp 15) rfl w.heap.size _ (mg ++ [k, 0]) rfl HO4.out b4 _ _ _ (putN c 2) rfl HV4.out p2.out m2.out ?_)
  intro v5 w5 o5 ch5
  have C5 : Chg 0 0 w w5 := HC4.out.step ch5 (Or.inr (Or.inl (Nat.le_refl _)))
  have s5 := C5.size
  obtain ⟨e5, l5, k5, rfl⟩ := row_slice o5
  have HO5 : Hid (OwnB w5 w.heap.size 5 (.slice e5 l5 k5) (mg ++ [k, 0] ++ putN c 2)) := o5
  have HC5 : Hid (Chg 0 0 w w5) := C5
  have hN := specPut_calls w5 q 4 hq
  clear o5 ch5 C5 HC4 HV4 HO4
  go_wp2_with fail
  refine hN.mono ?_
  rintro e w6 ⟨v6, rfl, o6, ch6⟩
  have s6 := ch6.size
  have HO6 : Hid (OwnB w6 w.heap.size 5 (.slice e5 l5 k5) (mg ++ [k, 0] ++ putN c 2)) := HO5.out.chg ch6 (by intro g _; omega)
  have HV6 : Hid (View w6 w5.heap.size w6.heap.size .u8 v6 (putN q 4)) := o6.view (by rw [Hq4.out]; omega) (fun g hg => (o6.lt g hg).2)
  have HC6 : Hid (Chg 0 0 w w6) := HC5.out.trans ch6
  have b6 : w.heap.size ≤ w6.heap.size := by omega
  have p4 : Hid (0 < (putN q 4).length) := by show _ < _; rw [Hq4.out]; omega
  have m4 : Hid ((mg ++ [k, 0] ++ putN c 2).length + (putN q 4).length ≤ 1048576) := by show _ ≤ _; rw [Hq4.out, List.length_append, Hc2.out]; simp [mg]
  obtain ⟨e6, l6, k6, rfl⟩ := row_slice o6
  clear o6 ch6 hN HO5 HC5
  go_wp2_with (at_builtin; refine wpList_app_seen rfl (.tmp 17) (.tmp 19) rfl w.heap.size _ (mg ++ [k, 0] ++ putN c 2) rfl HO6.out b6 _ _ _ (putN q 4) rfl HV6.out p4.out m4.out ?_)
  intro v7 w7 o7 ch7
  have HC7 : Hid (Chg 0 0 w w7) := HC6.out.step ch7 (Or.inr (Or.inl (Nat.le_refl _)))
  have HO7 : Hid (OwnB w7 w.heap.size 5 v7 (headL k c q)) := o7
  clear o7 ch7 HC6 HV6 HO6
  go_wp2
  go_ret
  exact ⟨_, rfl, HO7.out, HC7.out⟩

end Go.Proofs.YtahjaejepkgfdaaGreatDoor

namespace Go.Proofs.YtahjaejepkgfdaaGreatDoor
open Go.RowKit

theorem digs_byt (v : Int) (n : Nat) : Byt (digs v n) := by
  induction n with
  | zero => intro x hx; cases hx
  | succ n ih =>
    intro x hx
    rcases List.mem_cons.1 hx with rfl | hx
    · exact ⟨Int.emod_nonneg _ (by decide), Int.emod_lt_of_pos _ (by decide)⟩
    · exact ih x hx

theorem putN_byt (v n : Int) : Byt (putN v n) := by
  unfold putN
  split
  · intro x hx; cases hx
  · split
    · intro x hx; cases hx
    · exact digs_byt _ _

end Go.Proofs.YtahjaejepkgfdaaGreatDoor
