/- l3Turn of the model: bytes, turned. (made ahead of stage 12; made by tools/mkturn.py) -/
import Derived.Test.YtmbonljmghpcmaaDoorDrawFill
import Derived.Test.YtmbonljmghpcmaaDoorBytSeen
import Derived.Test.YtmbonljmghpcmaaDoorAppSeen
import Derived.Test.YtmbonljmghpcmaaDoorRowM
import Derived.Test.YtmbonljmghpcmaaDoorRowZ
import Derived.Test.YtmbonljmghpcmaaDoorViewStr
import Derived.Test.YtmbonljmghpcmaaDoorWeak
import Derived.Great.BuildSlice
namespace Go.Proofs.YtmbonljmghpcmaaDoor
open Go.RowKit

/-- A source, what it reads, and bytes of one's own, in memory. -/
structure TS (w W : World) (p at' sz lo hi base b0 : Nat) (cv : Value) (code xs : List Int) (v : Value) : Prop where
  s : SrcAt W p cv at' sz
  vw : View W lo hi .u8 cv code
  o : RowM W base v xs
  c : Chg b0 w.heap.size w W
section
variable {w W : World} {p at' sz lo hi base b0 : Nat} {cv v : Value} {code xs : List Int}
theorem TS.apart (h : TS w W p at' sz lo hi base b0 cv code xs v) : v.ownBlock ≠ some p := fun e => by
  obtain ⟨cur, fr, h1⟩ := h.o.elem e
  have h2 : W.heap[p]? = _ := h.s
  rw [h1] at h2
  simp only [Option.some.injEq, Obj.cells.injEq] at h2
  exact absurd h2.2.1 (by decide)
theorem TS.src {W' : World} {at2 : Nat} (h : TS w W p at' sz lo hi base b0 cv code xs v) (hp : p < lo ∨ hi ≤ p) (hb : b0 ≤ p) (hw : p < w.heap.size) (s' : SrcAt W' p cv at2 sz) (c : Chg p (p + 1) W W') : TS w W' p at2 sz lo hi base b0 cv code xs v :=
  ⟨s', h.vw.chg c (by omega), h.o.chg c (fun g hg => by have : g ≠ p := fun e => h.apart (by rw [hg, e]); omega), h.c.trans (c.widen (by omega) (by omega))⟩
theorem TS.next (h : TS w W p at' sz lo hi base b0 cv code xs v) (n : Int) (hn : n ≤ 9223372036854775807) (hB : Byt code) (hcl : code.length ≤ 1048576) (hat : at' ≤ 1099511627776) (hp : p < lo ∨ hi ≤ p) (hb : b0 ≤ p) (hw : p < w.heap.size) :
    Calls Tryd.prog 9 #[.pointer (some ⟨p, 0, none⟩), .int .i64 n] W fun e W' => e = .returned (.int .i64 (nxt code at' n)) ∧ TS w W' p (at' + 1) sz lo hi base b0 cv code xs v :=
  (l1Next_calls W p at' sz n hn hB hcl hat h.s h.vw hp).mono fun _ _ ⟨he, s', c⟩ => ⟨he, h.src hp hb hw s' c⟩
theorem TS.chance (h : TS w W p at' sz lo hi base b0 cv code xs v) (n : Int) (hn : n ≤ 9223372036854775807) (hB : Byt code) (hcl : code.length ≤ 1048576) (hat : at' ≤ 1099511627776) (hp : p < lo ∨ hi ≤ p) (hb : b0 ≤ p) (hw : p < w.heap.size) :
    Calls Tryd.prog 17 #[.pointer (some ⟨p, 0, none⟩), .int .i64 n] W fun e W' => e = .returned (.bool (nxt code at' n == 0)) ∧ TS w W' p (at' + 1) sz lo hi base b0 cv code xs v :=
  (l1Chance_calls W p at' sz n hn hB hcl hat h.s h.vw hp).mono fun _ _ ⟨he, s', c⟩ => ⟨he, h.src hp hb hw s' c⟩
theorem TS.put {g n cp : Nat} (h : TS w W p at' sz lo hi base b0 cv code xs (.slice (some ⟨g, 0, none⟩) n cp)) (hn : xs.length = n) (i : Nat) (hi' : i < n) (x : Int) (hbb : b0 ≤ base) (hhb : hi ≤ base) : TS w (W.setCell ⟨g, i, none⟩ (.int .u8 x)) p at' sz lo hi base b0 cv code (xs.set i x) (.slice (some ⟨g, 0, none⟩) n cp) := by
  have hg := h.o.lt g rfl
  have hgp : g ≠ p := fun e => h.apart (by rw [e]; rfl)
  have c : Chg g (g + 1) W (W.setCell ⟨g, i, none⟩ (.int .u8 x)) := Chg.setCell (p := ⟨g, i, none⟩) (Chg.refl _ _ W) (Or.inl ⟨Nat.le_refl _, Nat.lt_succ_self _⟩) _
  refine ⟨h.s.chg c (by omega), h.vw.chg c (by omega), (h.o.store hn i hi' x).2.2, h.c.setCell (p := ⟨g, i, none⟩) ?_ _⟩
  show (b0 ≤ g ∧ g < w.heap.size) ∨ w.heap.size ≤ g
  omega
end

set_option maxRecDepth 20000 in
set_option maxHeartbeats 4000000 in
theorem l3Turn_calls (w : World) {p at' sz lo hi base b0 g n cp : Nat} {cv : Value} {code xs : List Int} (hB : Byt code) (hcl : code.length ≤ 1048576) (hat : at' ≤ 1000000) (hp : p < lo ∨ hi ≤ p) (hb : b0 ≤ p) (hbb : b0 ≤ base) (hhb : hi ≤ base) (hw : p < w.heap.size) (hn : xs.length = n) (hn1 : 1 ≤ n) (hn2 : n ≤ 1000)
    (h : TS w w p (at') sz lo hi base b0 cv code xs (.slice (some ⟨g, 0, none⟩) n cp)) :
    Calls Tryd.prog 18 #[.pointer (some ⟨p, 0, none⟩), .slice (some ⟨g, 0, none⟩) n cp] w fun e w' => ∃ v ys, e = .returned v ∧ (∃ lo' hi', View w' lo' hi' .u8 v ys) ∧ ys.length ≤ 1001 ∧ Chg b0 w.heap.size w w' := by
  have hmx : Tryd.prog.follows .mixedOrders = true := by kernel_rfl
  have hb0 : b0 ≤ w.heap.size := by omega
  have h0 : ¬ (n : Int) = 0 := by omega
  have h0n : ¬ n = 0 := by omega
  have h0b : ((n : Int) == 0) = false := by rw [beq_eq_false_iff_ne]; exact h0
  have Hn : Hid (xs.length = n) := hn
  have Hend : Hid (∀ (W : World) (m : Nat) (zs : List Int), zs.length = n → TS w W p (m) sz lo hi base b0 cv code zs (.slice (some ⟨g, 0, none⟩) n cp) → ∃ v ys, (Ending.returned (.slice (some ⟨g, 0, none⟩) n cp) = .returned v ∧ (∃ lo' hi', View W lo' hi' .u8 v ys) ∧ ys.length ≤ 1001 ∧ Chg b0 w.heap.size w W)) := fun W m zs hz hW => ⟨_, zs, rfl, ⟨_, _, hW.o.seen (by omega)⟩, by omega, hW.c⟩
  obtain ⟨k0, k1⟩ := nxt_range code at' 8
  have k1 := k1 (by omega)
  go_enter Tryd.func18, Tryd.ntmps18
  go_wp2_with fail
  refine (h.next 8 (by omega) hB hcl (by omega) hp hb hw).mono ?_
  rintro e w1 ⟨rfl, h1⟩
  have H1 : Hid (TS w w1 p (at' + 1) sz lo hi base b0 cv code xs (.slice (some ⟨g, 0, none⟩) n cp)) := h1
  clear h h1 hn
  generalize nxt code at' 8 = k at *
  by_cases hk3 : k < 3
  · obtain ⟨a0, a1⟩ := nxt_range code (at' + 1) n
    have a1 := a1 (by omega)
    go_wp2_with fail
    refine (H1.out.next n (by omega) hB hcl (by omega) hp hb hw).mono ?_
    rintro e w2 ⟨rfl, h2⟩
    have H2 : Hid (TS w w2 p (at' + 1 + 1) sz lo hi base b0 cv code xs (.slice (some ⟨g, 0, none⟩) n cp)) := h2
    clear h2
    go_wp2_with fail
    refine (H2.out.chance 2 (by omega) hB hcl (by omega) hp hb hw).mono ?_
    rintro e w3 ⟨rfl, h3⟩
    have H3 : Hid (TS w w3 p (at' + 1 + 1 + 1) sz lo hi base b0 cv code xs (.slice (some ⟨g, 0, none⟩) n cp)) := h3
    clear h3
    cases hc : (nxt code (at' + 1 + 1) 2 == 0) with
    | true =>
      obtain ⟨b0', b1⟩ := nxt_range code (at' + 1 + 1 + 1) 16
      have b1 := b1 (by omega)
      go_wp2_with fail
      refine (H3.out.next 16 (by omega) hB hcl (by omega) hp hb hw).mono ?_
      rintro e w4 ⟨rfl, h4⟩
      have H4 : Hid (TS w w4 p (at' + 1 + 1 + 1 + 1) sz lo hi base b0 cv code xs (.slice (some ⟨g, 0, none⟩) n cp)) := h4
      clear h4
      generalize nxt code (at' + 1 + 1 + 1) 16 = ax at *
      obtain ⟨i, hi1, hin⟩ : ∃ i : Nat, (ax).tmod (n : Int) = (i : Int) ∧ i < n := ⟨((ax).tmod (n : Int)).toNat, by rw [Int.tmod_eq_emod_of_nonneg (by omega)]; have h1 := Int.emod_nonneg (ax) (b := (n : Int)) (by omega); have h2 := Int.emod_lt_of_pos (ax) (b := (n : Int)) (by omega); omega⟩
      have hii : (i : Int) < (n : Int) := by omega
      have hwi : IntKind.i64.wrap (i : Int) = (i : Int) := by rw [IntKind.wrap_i64]; omega
      have HW : Hid (TS w w4.drew p (at' + 1 + 1 + 1 + 1) sz lo hi base b0 cv code xs (.slice (some ⟨g, 0, none⟩) n cp)) := ⟨H4.out.s, H4.out.vw.chg (Chg.drew (Chg.refl 0 0 w4)) (by omega), H4.out.o.chg (Chg.drew (Chg.refl 0 0 w4)) (fun g' _ => by omega), H4.out.c.drew⟩
      have Hcell : Hid (∀ (V : World) (m : Nat), TS w V p m sz lo hi base b0 cv code xs (.slice (some ⟨g, 0, none⟩) n cp) → V.cell? ⟨g, i, none⟩ = some (.int .u8 (xs.getD i 0))) := fun V m hV => by
        obtain ⟨ao, c', e, _, _, hq⟩ := hV.o.seen (by rw [Hn.out]; omega)
        rcases hq with hq | ⟨b, off, e2, _, _, h3⟩
        · have := Hn.out; rw [hq] at this; simp at this; omega
        · rw [e2] at e
          simp only [Value.slice.injEq, Option.some.injEq, Addr.mk.injEq] at e
          have h4 := h3 i (by rw [Hn.out]; exact hin)
          rw [← e.1.1, ← e.1.2.1, Nat.zero_add] at h4
          exact h4
      obtain ⟨r0, r1⟩ := nxt_range code (at' + 1 + 1 + 1 + 1) 255
      have r1 := r1 (by omega)
      go_wp2
      refine weak_region 16 (fun V => V.cell? ⟨g, i, none⟩ = some (.int .u8 (xs.getD i 0))) hmx ?_
      have HS := Hcell.out _ _ HW.out
      generalize w4.drew = wd at *
      generalize xs.getD i 0 = xi at *
      refine weak_take 0 (.slice (some ⟨g, 0, none⟩) n cp) rfl (by kernel_rfl) (by kernel_rfl) (by kernel_rfl) (by kernel_rfl) (fun _ _ _ h => h) (.inl ⟨by kernel_rfl, fun w' hw' => by go_simp⟩) HS ?_
      go_simp
      refine weak_take 1 (.int .i64 (ax)) rfl (by kernel_rfl) (by kernel_rfl) (by kernel_rfl) (by kernel_rfl) (fun _ _ _ h => h) (.inl ⟨by kernel_rfl, fun w' hw' => by go_simp⟩) HS ?_
      go_simp
      refine weak_take 2 (.int .i64 (n : Int)) rfl (by kernel_rfl) (by kernel_rfl) (by kernel_rfl) (by kernel_rfl) (fun _ _ _ h => h) (.inl ⟨by kernel_rfl, fun w' hw' => by go_simp⟩) HS ?_
      go_simp
      refine weak_take 3 (.int .i64 (i : Int)) rfl (by kernel_rfl) (by kernel_rfl) (by kernel_rfl) (by kernel_rfl) (fun _ _ _ h => h) (.inl ⟨by kernel_rfl, fun w' hw' => by go_simp⟩) HS ?_
      go_simp
      refine weak_take 4 (.slice (some ⟨g, 0, none⟩) n cp) rfl (by kernel_rfl) (by kernel_rfl) (by kernel_rfl) (by kernel_rfl) (fun _ _ _ h => h) (.inl ⟨by kernel_rfl, fun w' hw' => by go_simp⟩) HS ?_
      go_simp
      refine weak_take 5 (.int .i64 (ax)) rfl (by kernel_rfl) (by kernel_rfl) (by kernel_rfl) (by kernel_rfl) (fun _ _ _ h => h) (.inl ⟨by kernel_rfl, fun w' hw' => by go_simp⟩) HS ?_
      go_simp
      refine weak_take 6 (.int .i64 (n : Int)) rfl (by kernel_rfl) (by kernel_rfl) (by kernel_rfl) (by kernel_rfl) (fun _ _ _ h => h) (.inl ⟨by kernel_rfl, fun w' hw' => by go_simp⟩) HS ?_
      go_simp
      refine weak_take 7 (.int .i64 (i : Int)) rfl (by kernel_rfl) (by kernel_rfl) (by kernel_rfl) (by kernel_rfl) (fun _ _ _ h => h) (.inl ⟨by kernel_rfl, fun w' hw' => by go_simp⟩) HS ?_
      go_simp
      refine weak_take 8 (.pointer (some ⟨g, i, none⟩)) rfl (by kernel_rfl) (by kernel_rfl) (by kernel_rfl) (by kernel_rfl) (fun _ _ _ h => h) (.inl ⟨by kernel_rfl, fun w' hw' => by go_simp⟩) HS ?_
      go_simp
      refine weak_take 9 (.int .u8 xi) rfl (by kernel_rfl) (by kernel_rfl) (by kernel_rfl) (by kernel_rfl) (fun _ _ _ h => h) (.inl ⟨by kernel_rfl, fun w' hw' => by have h4 : w'.cell? ⟨g, i, none⟩ = some (.int .u8 xi) := hw'; go_simp⟩) HS ?_
      go_simp
      refine weak_take 10 (.pointer (some ⟨p, 0, none⟩)) rfl (by kernel_rfl) (by kernel_rfl) (by kernel_rfl) (by kernel_rfl) (fun _ _ _ h => h) (.inl ⟨by kernel_rfl, fun w' hw' => by go_simp⟩) HS ?_
      go_simp
      refine weak_one 11 rfl rfl (by kernel_rfl) ?_
      refine wp_enter 9 #[.pointer (some ⟨p, 0, none⟩), .int .i64 255] (by first | kernel_rfl | go_simp) (HW.out.next 255 (by omega) hB hcl (by omega) hp hb hw) ?_
      rintro e w5 ⟨rfl, h5⟩
      have HS5 := Hcell.out _ _ h5
      refine ⟨_, rfl, fun _ => HS5, ?_⟩
      have H5 : Hid (TS w w5 p (at' + 1 + 1 + 1 + 1 + 1) sz lo hi base b0 cv code xs (.slice (some ⟨g, 0, none⟩) n cp)) := h5
      obtain ⟨_, hfz, _⟩ := h5.o.store Hn.out i hin 0
      clear h5 HS
      generalize nxt code (at' + 1 + 1 + 1 + 1) 255 = rr at *
      have hw1 : IntKind.i64.wrap (1 + rr) = 1 + rr := by rw [IntKind.wrap_i64]; omega
      have hw2 : IntKind.u8.wrap (1 + rr) = 1 + rr := by rw [IntKind.wrap_u8]; omega
      go_simp
      refine weak_take 12 (.int .i64 (1 + rr)) rfl (by kernel_rfl) (by kernel_rfl) (by kernel_rfl) (by kernel_rfl) (fun _ _ _ h => h) (.inl ⟨by kernel_rfl, fun w' hw' => by go_simp⟩) HS5 ?_
      go_simp
      refine weak_take 13 (.int .u8 (1 + rr)) rfl (by kernel_rfl) (by kernel_rfl) (by kernel_rfl) (by kernel_rfl) (fun _ _ _ h => h) (.inl ⟨by kernel_rfl, fun w' hw' => by go_simp⟩) HS5 ?_
      go_simp
      refine weak_one 14 rfl rfl (by kernel_rfl) ?_
      go_simp
      refine weak_take 15 (.pointer (some ⟨g, i, none⟩)) rfl (by kernel_rfl) (by kernel_rfl) (by kernel_rfl) (by kernel_rfl) (fun _ _ _ h => h) (.inl ⟨by kernel_rfl, fun w' hw' => by go_simp⟩) HS5 ?_
      go_simp
      refine weak_one 16 rfl rfl (by kernel_rfl) ?_
      go_simp
      refine weak_done (by kernel_rfl) (NoPanic.normal ?_)
      have e3 : (k == 3) = false := by rw [beq_eq_false_iff_ne]; omega
      have e4 : (k == 4) = false := by rw [beq_eq_false_iff_ne]; omega
      have e5 : (k == 5) = false := by rw [beq_eq_false_iff_ne]; omega
      go_wp2
      go_ret
      exact Hend.out _ _ _ (by rw [List.length_set]; exact Hn.out) (H5.out.put Hn.out i hin _ hbb hhb)
    | false =>
      generalize nxt code (at' + 1) n = ax at *
      obtain ⟨i, hi1, hin⟩ : ∃ i : Nat, (ax).tmod (n : Int) = (i : Int) ∧ i < n := ⟨((ax).tmod (n : Int)).toNat, by rw [Int.tmod_eq_emod_of_nonneg (by omega)]; have h1 := Int.emod_nonneg (ax) (b := (n : Int)) (by omega); have h2 := Int.emod_lt_of_pos (ax) (b := (n : Int)) (by omega); omega⟩
      have hii : (i : Int) < (n : Int) := by omega
      have hwi : IntKind.i64.wrap (i : Int) = (i : Int) := by rw [IntKind.wrap_i64]; omega
      have HW : Hid (TS w w3.drew p (at' + 1 + 1 + 1) sz lo hi base b0 cv code xs (.slice (some ⟨g, 0, none⟩) n cp)) := ⟨H3.out.s, H3.out.vw.chg (Chg.drew (Chg.refl 0 0 w3)) (by omega), H3.out.o.chg (Chg.drew (Chg.refl 0 0 w3)) (fun g' _ => by omega), H3.out.c.drew⟩
      have Hcell : Hid (∀ (V : World) (m : Nat), TS w V p m sz lo hi base b0 cv code xs (.slice (some ⟨g, 0, none⟩) n cp) → V.cell? ⟨g, i, none⟩ = some (.int .u8 (xs.getD i 0))) := fun V m hV => by
        obtain ⟨ao, c', e, _, _, hq⟩ := hV.o.seen (by rw [Hn.out]; omega)
        rcases hq with hq | ⟨b, off, e2, _, _, h3⟩
        · have := Hn.out; rw [hq] at this; simp at this; omega
        · rw [e2] at e
          simp only [Value.slice.injEq, Option.some.injEq, Addr.mk.injEq] at e
          have h4 := h3 i (by rw [Hn.out]; exact hin)
          rw [← e.1.1, ← e.1.2.1, Nat.zero_add] at h4
          exact h4
      obtain ⟨r0, r1⟩ := nxt_range code (at' + 1 + 1 + 1) 255
      have r1 := r1 (by omega)
      go_wp2
      refine weak_region 16 (fun V => V.cell? ⟨g, i, none⟩ = some (.int .u8 (xs.getD i 0))) hmx ?_
      have HS := Hcell.out _ _ HW.out
      generalize w3.drew = wd at *
      generalize xs.getD i 0 = xi at *
      refine weak_take 0 (.slice (some ⟨g, 0, none⟩) n cp) rfl (by kernel_rfl) (by kernel_rfl) (by kernel_rfl) (by kernel_rfl) (fun _ _ _ h => h) (.inl ⟨by kernel_rfl, fun w' hw' => by go_simp⟩) HS ?_
      go_simp
      refine weak_take 1 (.int .i64 (ax)) rfl (by kernel_rfl) (by kernel_rfl) (by kernel_rfl) (by kernel_rfl) (fun _ _ _ h => h) (.inl ⟨by kernel_rfl, fun w' hw' => by go_simp⟩) HS ?_
      go_simp
      refine weak_take 2 (.int .i64 (n : Int)) rfl (by kernel_rfl) (by kernel_rfl) (by kernel_rfl) (by kernel_rfl) (fun _ _ _ h => h) (.inl ⟨by kernel_rfl, fun w' hw' => by go_simp⟩) HS ?_
      go_simp
      refine weak_take 3 (.int .i64 (i : Int)) rfl (by kernel_rfl) (by kernel_rfl) (by kernel_rfl) (by kernel_rfl) (fun _ _ _ h => h) (.inl ⟨by kernel_rfl, fun w' hw' => by go_simp⟩) HS ?_
      go_simp
      refine weak_take 4 (.slice (some ⟨g, 0, none⟩) n cp) rfl (by kernel_rfl) (by kernel_rfl) (by kernel_rfl) (by kernel_rfl) (fun _ _ _ h => h) (.inl ⟨by kernel_rfl, fun w' hw' => by go_simp⟩) HS ?_
      go_simp
      refine weak_take 5 (.int .i64 (ax)) rfl (by kernel_rfl) (by kernel_rfl) (by kernel_rfl) (by kernel_rfl) (fun _ _ _ h => h) (.inl ⟨by kernel_rfl, fun w' hw' => by go_simp⟩) HS ?_
      go_simp
      refine weak_take 6 (.int .i64 (n : Int)) rfl (by kernel_rfl) (by kernel_rfl) (by kernel_rfl) (by kernel_rfl) (fun _ _ _ h => h) (.inl ⟨by kernel_rfl, fun w' hw' => by go_simp⟩) HS ?_
      go_simp
      refine weak_take 7 (.int .i64 (i : Int)) rfl (by kernel_rfl) (by kernel_rfl) (by kernel_rfl) (by kernel_rfl) (fun _ _ _ h => h) (.inl ⟨by kernel_rfl, fun w' hw' => by go_simp⟩) HS ?_
      go_simp
      refine weak_take 8 (.pointer (some ⟨g, i, none⟩)) rfl (by kernel_rfl) (by kernel_rfl) (by kernel_rfl) (by kernel_rfl) (fun _ _ _ h => h) (.inl ⟨by kernel_rfl, fun w' hw' => by go_simp⟩) HS ?_
      go_simp
      refine weak_take 9 (.int .u8 xi) rfl (by kernel_rfl) (by kernel_rfl) (by kernel_rfl) (by kernel_rfl) (fun _ _ _ h => h) (.inl ⟨by kernel_rfl, fun w' hw' => by have h4 : w'.cell? ⟨g, i, none⟩ = some (.int .u8 xi) := hw'; go_simp⟩) HS ?_
      go_simp
      refine weak_take 10 (.pointer (some ⟨p, 0, none⟩)) rfl (by kernel_rfl) (by kernel_rfl) (by kernel_rfl) (by kernel_rfl) (fun _ _ _ h => h) (.inl ⟨by kernel_rfl, fun w' hw' => by go_simp⟩) HS ?_
      go_simp
      refine weak_one 11 rfl rfl (by kernel_rfl) ?_
      refine wp_enter 9 #[.pointer (some ⟨p, 0, none⟩), .int .i64 255] (by first | kernel_rfl | go_simp) (HW.out.next 255 (by omega) hB hcl (by omega) hp hb hw) ?_
      rintro e w5 ⟨rfl, h5⟩
      have HS5 := Hcell.out _ _ h5
      refine ⟨_, rfl, fun _ => HS5, ?_⟩
      have H5 : Hid (TS w w5 p (at' + 1 + 1 + 1 + 1) sz lo hi base b0 cv code xs (.slice (some ⟨g, 0, none⟩) n cp)) := h5
      obtain ⟨_, hfz, _⟩ := h5.o.store Hn.out i hin 0
      clear h5 HS
      generalize nxt code (at' + 1 + 1 + 1) 255 = rr at *
      have hw1 : IntKind.i64.wrap (1 + rr) = 1 + rr := by rw [IntKind.wrap_i64]; omega
      have hw2 : IntKind.u8.wrap (1 + rr) = 1 + rr := by rw [IntKind.wrap_u8]; omega
      go_simp
      refine weak_take 12 (.int .i64 (1 + rr)) rfl (by kernel_rfl) (by kernel_rfl) (by kernel_rfl) (by kernel_rfl) (fun _ _ _ h => h) (.inl ⟨by kernel_rfl, fun w' hw' => by go_simp⟩) HS5 ?_
      go_simp
      refine weak_take 13 (.int .u8 (1 + rr)) rfl (by kernel_rfl) (by kernel_rfl) (by kernel_rfl) (by kernel_rfl) (fun _ _ _ h => h) (.inl ⟨by kernel_rfl, fun w' hw' => by go_simp⟩) HS5 ?_
      go_simp
      refine weak_one 14 rfl rfl (by kernel_rfl) ?_
      go_simp
      refine weak_take 15 (.pointer (some ⟨g, i, none⟩)) rfl (by kernel_rfl) (by kernel_rfl) (by kernel_rfl) (by kernel_rfl) (fun _ _ _ h => h) (.inl ⟨by kernel_rfl, fun w' hw' => by go_simp⟩) HS5 ?_
      go_simp
      refine weak_one 16 rfl rfl (by kernel_rfl) ?_
      go_simp
      refine weak_done (by kernel_rfl) (NoPanic.normal ?_)
      have e3 : (k == 3) = false := by rw [beq_eq_false_iff_ne]; omega
      have e4 : (k == 4) = false := by rw [beq_eq_false_iff_ne]; omega
      have e5 : (k == 5) = false := by rw [beq_eq_false_iff_ne]; omega
      go_wp2
      go_ret
      exact Hend.out _ _ _ (by rw [List.length_set]; exact Hn.out) (H5.out.put Hn.out i hin _ hbb hhb)
  by_cases hk : k = 3 ∨ k = 4 ∨ k = 5
  case neg =>
    have e3 : (k == 3) = false := by rw [beq_eq_false_iff_ne]; omega
    have e4 : (k == 4) = false := by rw [beq_eq_false_iff_ne]; omega
    have e5 : (k == 5) = false := by rw [beq_eq_false_iff_ne]; omega
    go_wp2
    go_ret
    exact Hend.out _ _ _ Hn.out H1.out
  rcases hk with rfl | rfl | rfl
  · go_wp2_with fail
    refine (H1.out.chance 2 (by omega) hB hcl (by omega) hp hb hw).mono ?_
    rintro e w2 ⟨rfl, h2⟩
    have H2 : Hid (TS w w2 p (at' + 1 + 1) sz lo hi base b0 cv code xs (.slice (some ⟨g, 0, none⟩) n cp)) := h2
    clear h2
    cases hc : (nxt code (at' + 1) 2 == 0) with
    | false =>
      go_wp2
      go_ret
      exact Hend.out _ _ _ Hn.out H2.out
    | true =>
      have hw1 : IntKind.i64.wrap ((n : Int) - 1) = (n : Int) - 1 := by rw [IntKind.wrap_i64]; omega
      obtain ⟨m, hm⟩ : ∃ m : Nat, (n : Int) - 1 = (m : Int) := ⟨n - 1, by omega⟩
      have HT := H2.out.o.seen (by rw [Hn.out]; omega)
      obtain ⟨hcap, _⟩ : n ≤ cp ∧ True := by
        obtain ⟨ao, c', e, _, hc', _⟩ := HT
        simp only [Value.slice.injEq] at e
        rw [Hn.out] at hc'
        exact ⟨by omega, trivial⟩
      have HT2 : Hid (∃ lo' hi', View w2 lo' hi' .u8 (.slice (some ⟨g, 0, none⟩) m cp) (xs.take m)) := ⟨_, _, HT.take m (by rw [Hn.out]; omega)⟩
      have HL : Hid ((xs.take m).length ≤ 1001) := by show _ ≤ _; rw [List.length_take]; omega
      have HC : Hid (Chg b0 w.heap.size w w2) := H2.out.c
      have q1 : (0 : Int) ≤ (m : Int) := by omega
      have q2 : (m : Int) ≤ (cp : Int) := by omega
      clear HT
      go_wp2
      go_ret
      exact ⟨_, _, rfl, HT2.out, HL.out, HC.out⟩
  · go_wp2_with fail
    refine (H1.out.chance 2 (by omega) hB hcl (by omega) hp hb hw).mono ?_
    rintro e w2 ⟨rfl, h2⟩
    have H2 : Hid (TS w w2 p (at' + 1 + 1) sz lo hi base b0 cv code xs (.slice (some ⟨g, 0, none⟩) n cp)) := h2
    clear h2
    cases hc : (nxt code (at' + 1) 2 == 0) with
    | false =>
      go_wp2
      go_ret
      exact Hend.out _ _ _ Hn.out H2.out
    | true =>
      have cA : Chg 0 0 w2 (w2.alloc (.cells #[.int .u8 0] 5)) := Chg.alloc (Chg.refl 0 0 w2) _
      have VX : Hid (View (w2.alloc (.cells #[.int .u8 0] 5)) w2.heap.size (w2.heap.size + 1) .u8 (.slice (some ⟨w2.heap.size, 0, none⟩) 1 1) [0]) := row_view (w := w2.alloc (.cells #[.int .u8 0] 5)) (b := w2.heap.size) (xs := [0]) (t := 5) (heap_new w2 _) 0 1 1 (by simp) (by simp) (Nat.le_refl _)
      have HOA : Hid (RowM (w2.alloc (.cells #[.int .u8 0] 5)) base (.slice (some ⟨g, 0, none⟩) n cp) xs) := H2.out.o.chg cA (fun g' _ => by omega)
      have HCA : Hid (Chg b0 w.heap.size w (w2.alloc (.cells #[.int .u8 0] 5))) := H2.out.c.alloc _
      have s2 := H2.out.c.size
      have sX : w2.heap.size + 1 ≤ (w2.alloc (.cells #[.int .u8 0] 5)).heap.size := by simp
      have hd0 : (w2.alloc (.cells #[.int .u8 0] 5)).cell? ⟨w2.heap.size, 0, none⟩ = some (.int .u8 0) := by rw [Lib.cell_of_heap (heap_new w2 _)]; rfl
      have hgl := H2.out.o.lt g rfl
      clear cA
      go_wp2_with (refine wpList_appM rfl (.tmp 58) (.tmp 59) rfl HOA.out Hn.out (by omega) (by omega) w2.heap.size 0 hd0 rfl rfl ?_; rintro v8 w8 ⟨a8, cp8, rfl⟩ hv8 c8)
      have HV8 : Hid (∃ lo' hi', View w8 lo' hi' .u8 (.slice a8 (n + 1) cp8) (xs ++ [0])) := ⟨_, _, hv8⟩
      have HL8 : Hid ((xs ++ [(0 : Int)]).length ≤ 1001) := by show _ ≤ _; rw [List.length_append, Hn.out]; simp; omega
      have HC8 : Hid (Chg b0 w.heap.size w w8) := ⟨c8.os.trans HCA.out.os, c8.tape.trans HCA.out.tape, c8.output.trans HCA.out.output, Nat.le_trans HCA.out.size c8.size, fun k hk ho => (c8.block k (Nat.lt_of_lt_of_le hk HCA.out.size) (by omega)).trans (HCA.out.block k hk ho)⟩
      go_ret
      exact ⟨_, _, rfl, HV8.out, HL8.out, HC8.out⟩
  · go_wp2_with fail
    refine (H1.out.chance 3 (by omega) hB hcl (by omega) hp hb hw).mono ?_
    rintro e w2 ⟨rfl, h2⟩
    have H2 : Hid (TS w w2 p (at' + 1 + 1) sz lo hi base b0 cv code xs (.slice (some ⟨g, 0, none⟩) n cp)) := h2
    clear h2
    cases hc : (nxt code (at' + 1) 3 == 0) with
    | false =>
      go_wp2
      go_ret
      exact Hend.out _ _ _ Hn.out H2.out
    | true =>
      have hN := l1Fill_calls w2 p (at' + 1 + 1) sz hB hcl (by omega) H2.out.s H2.out.vw hp
      go_wp2_with fail
      refine hN.mono ?_
      rintro e w3 ⟨g3, cp3, ys, k3, rfl, _, hl3, o3, _, _, c3⟩
      have HC : Hid (Chg b0 w.heap.size w w3) := H2.out.c.trans (c3.widen (by omega) (by omega))
      have HVv : Hid (∃ lo' hi', View w3 lo' hi' .u8 (.slice (some ⟨g3, 0, none⟩) 64 cp3) ys) := ⟨_, _, o3.seen (by omega)⟩
      clear hN o3 c3
      go_wp2
      go_ret
      exact ⟨_, _, rfl, HVv.out, by omega, HC.out⟩

end Go.Proofs.YtmbonljmghpcmaaDoor
