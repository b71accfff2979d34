/- Several short texts in one: DrawS, Weak. -/
import Derived.Test.YtacfkgfemmgpkaaGreatDoorDrawO
import Derived.OrdersHeld
import Derived.Deep.RegionHeld3
import Derived.StillTail
namespace Go.Proofs.YtacfkgfemmgpkaaGreatDoor
open Go.RowKit

set_option maxRecDepth 20000 in
set_option maxHeartbeats 8000000 in
theorem same_e {S : Sc} {w0 w : World} {A : Nat} (h : En S w0 w A) (hA : A ≤ 300000) :
    Calls Tryz.prog 24 #[.pointer (some ⟨S.p, 0, none⟩)] w fun e w' => ∃ v : Value, e = .returned v ∧ Cs S w0 w' v (A + 300) 40 := by
  suffices hk : Calls Tryz.prog 24 #[.pointer (some ⟨S.p, 0, none⟩)] w fun e w' => ∃ v : Value, e = .returned v ∧ Cs S w w' v (A + 300) 40 from hk.mono (fun e w' ⟨v, h1, h2⟩ => ⟨v, h1, Cs.up h h2⟩)
  have h0 := h.self
  clear h
  go_enter Tryz.func24, Tryz.ntmps24
  go_wp2_with fail
  refine (data_e h0 (by omega)).mono ?_
  rintro e wq ⟨d, rfl, d0, hq⟩
  have hC := @Cs.two S w wq (A + 10) 1 0 0 0 6 0 0 0 ⟨#[47, 119]⟩ ⟨#[]⟩ ⟨#[]⟩ ⟨#[47, 119]⟩ ⟨#[]⟩ d hq ⟨by decide, by decide, by decide⟩ ⟨by decide, by decide, d0⟩
  clear h0 hq
  go_wp2_with fail
  generalize wq.alloc (.cells #[.int .i64 1, .string ⟨#[47, 119]⟩, .string ⟨#[]⟩, .int .i64 0, .int .i64 0, .int .i64 0, .string ⟨#[]⟩, .int .i64 6, .string ⟨#[47, 119]⟩, .string ⟨#[]⟩, .int .i64 0, .int .i64 0, .int .i64 0, .string d] 29) = wA at *
  refine (next_e hC.self (by omega) 3 (by omega)).mono ?_
  rintro e w1 ⟨m, rfl, m0, m1, h1⟩
  replace m1 := m1 (by omega)
  have hC1 := hC.step h1
  generalize Value.slice (some ⟨wq.heap.size, 0, none⟩) 2 2 = v0 at *
  have HC6 : Hid (Cs S w w1 v0 (A + 11) 2) := hC1
  clear hC h1 hC1
  obtain ⟨n, hn⟩ : ∃ z : Nat, 1 + m = (z : Int) := ⟨(1 + m).toNat, by omega⟩
  have hn9 : n ≤ 3 := by omega
  go_wp2
  go_loopw [4, 5] (fun o x wr => ∃ j : Nat, j ≤ 3 ∧ x = .int .i64 j ∧ Cs S w wr o (A + 11 + 6 * (3 - j)) (2 + 6 * (3 - j))) (fun _ x _ => (RowKit.intOf x).toNat)
  case atStart => exact ⟨n, by omega, rfl, HC6.out.mono (by omega) (by omega)⟩
  case round =>
    obtain ⟨j, hj, rfl, hC⟩ := hrel
    have HC : Hid (Cs S w wr u4 (A + 11 + 6 * (3 - j)) (2 + 6 * (3 - j))) := hC
    clear hC HC6
    by_cases hlt : 0 < j
    case neg =>
      have hi : ¬ ((0 : Int) < (j : Int)) := by omega
      go_wp2_with (at_builtin; refine wpList_cs2 rfl (.tmp 51) (.tmp 54) rfl rfl HC.out rfl rfl (by omega) ⟨by decide, by decide, by decide⟩ ⟨by decide, by decide, by decide⟩ ?_)
      intro v7 w7 hC7
      have HC7 : Hid (Cs S w w7 v7 (A + 300) 40) := hC7.mono (by omega) (by omega)
      clear hC7
      go_wp2
      go_ret
      exact ⟨_, rfl, HC7.out⟩
    have hi : (0 : Int) < (j : Int) := by omega
    have hA1 : Cs S w wr u4 (A + 11 + 6 * (3 - j)) (2 + 6 * (3 - j)) := HC.out
    clear HC
    go_wp2_with fail
    refine (chance_e hA1.self (by omega) 2 (by omega)).mono ?_
    rintro e wx ⟨b1, rfl, hh⟩
    replace hA1 := hA1.step hh
    clear hh
    cases b1
    · skip
      go_wp2_with fail
      refine (chance_e hA1.self (by omega) 3 (by omega)).mono ?_
      rintro e wy ⟨b2, rfl, hh⟩
      replace hA1 := hA1.step hh
      clear hh
      cases b2
      · skip
        go_wp2_with (at_builtin; refine wpList_cs1 rfl (.tmp 35) (.tmp 37) rfl rfl hA1 rfl rfl (by omega) ⟨by decide, by decide, by decide⟩ ?_)
        clear hA1
        intro v7 w7 hA1
        go_wp2_with fail
        refine (chance_e hA1.self (by omega) 2 (by omega)).mono ?_
        rintro e wz ⟨b3, rfl, hh⟩
        replace hA1 := hA1.step hh
        clear hh
        cases b3
        · skip
          go_wp2_with (at_builtin; refine wpList_cs2 rfl (.tmp 45) (.tmp 49) rfl rfl hA1 rfl rfl (by omega) ⟨by decide, by decide, d0⟩ ⟨by decide, by decide, by decide⟩ ?_)
          clear hA1
          intro v7 w7 hA1
          have HC7 : Hid (Cs S w w7 v7 (A + 11 + 6 * (3 - (j - 1))) (2 + 6 * (3 - (j - 1)))) := hA1.mono (by omega) (by omega)
          clear hA1
          go_wp2
          go_roundw
          case rel => exact ⟨j - 1, by omega, by go_num, HC7.out⟩
          case measure => simp [RowKit.intOf]; omega
        · skip
          go_wp2_with (at_builtin; refine wpList_cs1 rfl (.tmp 41) (.tmp 43) rfl rfl hA1 rfl rfl (by omega) ⟨by decide, by decide, by decide⟩ ?_)
          clear hA1
          intro v7 w7 hA1
          go_wp2_with (at_builtin; refine wpList_cs2 rfl (.tmp 45) (.tmp 49) rfl rfl hA1 rfl rfl (by omega) ⟨by decide, by decide, d0⟩ ⟨by decide, by decide, by decide⟩ ?_)
          clear hA1
          intro v7 w7 hA1
          have HC7 : Hid (Cs S w w7 v7 (A + 11 + 6 * (3 - (j - 1))) (2 + 6 * (3 - (j - 1)))) := hA1.mono (by omega) (by omega)
          clear hA1
          go_wp2
          go_roundw
          case rel => exact ⟨j - 1, by omega, by go_num, HC7.out⟩
          case measure => simp [RowKit.intOf]; omega
      · skip
        go_wp2_with (at_builtin; refine wpList_cs2 rfl (.tmp 30) (.tmp 33) rfl rfl hA1 rfl rfl (by omega) ⟨by decide, by decide, by decide⟩ ⟨by decide, by decide, by decide⟩ ?_)
        clear hA1
        intro v7 w7 hA1
        go_wp2_with fail
        refine (chance_e hA1.self (by omega) 2 (by omega)).mono ?_
        rintro e wz ⟨b3, rfl, hh⟩
        replace hA1 := hA1.step hh
        clear hh
        cases b3
        · skip
          go_wp2_with (at_builtin; refine wpList_cs2 rfl (.tmp 45) (.tmp 49) rfl rfl hA1 rfl rfl (by omega) ⟨by decide, by decide, d0⟩ ⟨by decide, by decide, by decide⟩ ?_)
          clear hA1
          intro v7 w7 hA1
          have HC7 : Hid (Cs S w w7 v7 (A + 11 + 6 * (3 - (j - 1))) (2 + 6 * (3 - (j - 1)))) := hA1.mono (by omega) (by omega)
          clear hA1
          go_wp2
          go_roundw
          case rel => exact ⟨j - 1, by omega, by go_num, HC7.out⟩
          case measure => simp [RowKit.intOf]; omega
        · skip
          go_wp2_with (at_builtin; refine wpList_cs1 rfl (.tmp 41) (.tmp 43) rfl rfl hA1 rfl rfl (by omega) ⟨by decide, by decide, by decide⟩ ?_)
          clear hA1
          intro v7 w7 hA1
          go_wp2_with (at_builtin; refine wpList_cs2 rfl (.tmp 45) (.tmp 49) rfl rfl hA1 rfl rfl (by omega) ⟨by decide, by decide, d0⟩ ⟨by decide, by decide, by decide⟩ ?_)
          clear hA1
          intro v7 w7 hA1
          have HC7 : Hid (Cs S w w7 v7 (A + 11 + 6 * (3 - (j - 1))) (2 + 6 * (3 - (j - 1)))) := hA1.mono (by omega) (by omega)
          clear hA1
          go_wp2
          go_roundw
          case rel => exact ⟨j - 1, by omega, by go_num, HC7.out⟩
          case measure => simp [RowKit.intOf]; omega
    · skip
      go_wp2_with fail
      refine (next_e hA1.self (by omega) 2 (by omega)).mono ?_
      rintro e wk ⟨r, rfl, r0, r1, hh⟩
      replace r1 := r1 (by omega)
      replace hA1 := hA1.step hh
      clear hh
      go_wp2_with (at_builtin; refine wpList_cs1 rfl (.tmp 21) (.tmp 26) rfl rfl hA1 rfl rfl (by omega) ⟨by decide, by decide, by decide⟩ ?_)
      clear hA1
      intro v7 w7 hA1
      go_wp2_with fail
      refine (chance_e hA1.self (by omega) 3 (by omega)).mono ?_
      rintro e wy ⟨b2, rfl, hh⟩
      replace hA1 := hA1.step hh
      clear hh
      cases b2
      · skip
        go_wp2_with (at_builtin; refine wpList_cs1 rfl (.tmp 35) (.tmp 37) rfl rfl hA1 rfl rfl (by omega) ⟨by decide, by decide, by decide⟩ ?_)
        clear hA1
        intro v7 w7 hA1
        go_wp2_with fail
        refine (chance_e hA1.self (by omega) 2 (by omega)).mono ?_
        rintro e wz ⟨b3, rfl, hh⟩
        replace hA1 := hA1.step hh
        clear hh
        cases b3
        · skip
          go_wp2_with (at_builtin; refine wpList_cs2 rfl (.tmp 45) (.tmp 49) rfl rfl hA1 rfl rfl (by omega) ⟨by decide, by decide, d0⟩ ⟨by decide, by decide, by decide⟩ ?_)
          clear hA1
          intro v7 w7 hA1
          have HC7 : Hid (Cs S w w7 v7 (A + 11 + 6 * (3 - (j - 1))) (2 + 6 * (3 - (j - 1)))) := hA1.mono (by omega) (by omega)
          clear hA1
          go_wp2
          go_roundw
          case rel => exact ⟨j - 1, by omega, by go_num, HC7.out⟩
          case measure => simp [RowKit.intOf]; omega
        · skip
          go_wp2_with (at_builtin; refine wpList_cs1 rfl (.tmp 41) (.tmp 43) rfl rfl hA1 rfl rfl (by omega) ⟨by decide, by decide, by decide⟩ ?_)
          clear hA1
          intro v7 w7 hA1
          go_wp2_with (at_builtin; refine wpList_cs2 rfl (.tmp 45) (.tmp 49) rfl rfl hA1 rfl rfl (by omega) ⟨by decide, by decide, d0⟩ ⟨by decide, by decide, by decide⟩ ?_)
          clear hA1
          intro v7 w7 hA1
          have HC7 : Hid (Cs S w w7 v7 (A + 11 + 6 * (3 - (j - 1))) (2 + 6 * (3 - (j - 1)))) := hA1.mono (by omega) (by omega)
          clear hA1
          go_wp2
          go_roundw
          case rel => exact ⟨j - 1, by omega, by go_num, HC7.out⟩
          case measure => simp [RowKit.intOf]; omega
      · skip
        go_wp2_with (at_builtin; refine wpList_cs2 rfl (.tmp 30) (.tmp 33) rfl rfl hA1 rfl rfl (by omega) ⟨by decide, by decide, by decide⟩ ⟨by decide, by decide, by decide⟩ ?_)
        clear hA1
        intro v7 w7 hA1
        go_wp2_with fail
        refine (chance_e hA1.self (by omega) 2 (by omega)).mono ?_
        rintro e wz ⟨b3, rfl, hh⟩
        replace hA1 := hA1.step hh
        clear hh
        cases b3
        · skip
          go_wp2_with (at_builtin; refine wpList_cs2 rfl (.tmp 45) (.tmp 49) rfl rfl hA1 rfl rfl (by omega) ⟨by decide, by decide, d0⟩ ⟨by decide, by decide, by decide⟩ ?_)
          clear hA1
          intro v7 w7 hA1
          have HC7 : Hid (Cs S w w7 v7 (A + 11 + 6 * (3 - (j - 1))) (2 + 6 * (3 - (j - 1)))) := hA1.mono (by omega) (by omega)
          clear hA1
          go_wp2
          go_roundw
          case rel => exact ⟨j - 1, by omega, by go_num, HC7.out⟩
          case measure => simp [RowKit.intOf]; omega
        · skip
          go_wp2_with (at_builtin; refine wpList_cs1 rfl (.tmp 41) (.tmp 43) rfl rfl hA1 rfl rfl (by omega) ⟨by decide, by decide, by decide⟩ ?_)
          clear hA1
          intro v7 w7 hA1
          go_wp2_with (at_builtin; refine wpList_cs2 rfl (.tmp 45) (.tmp 49) rfl rfl hA1 rfl rfl (by omega) ⟨by decide, by decide, d0⟩ ⟨by decide, by decide, by decide⟩ ?_)
          clear hA1
          intro v7 w7 hA1
          have HC7 : Hid (Cs S w w7 v7 (A + 11 + 6 * (3 - (j - 1))) (2 + 6 * (3 - (j - 1)))) := hA1.mono (by omega) (by omega)
          clear hA1
          go_wp2
          go_roundw
          case rel => exact ⟨j - 1, by omega, by go_num, HC7.out⟩
          case measure => simp [RowKit.intOf]; omega

end Go.Proofs.YtacfkgfemmgpkaaGreatDoor

namespace Go.Proofs.YtacfkgfemmgpkaaGreatDoor
section
variable {P : Program} {md : Region.Mode} {ops : Array Oper} {Q : Exit → Act → World → Prop} {S : World → Prop} {z : Nat}

/-- Whatever may come up comes up; behind it S holds, unless it is number z. -/
def wpAnyW (P : Program) (md : Region.Mode) (ops : Array Oper) (Q : Exit → Act → World → Prop) (S : World → Prop) (z : Nat) : Nat → Array Bool → Act → World → Prop
  | 0, listed, a, w => Region.ready md ops listed = [] ∧ Q .normal a w
  | fuel + 1, listed, a, w => (Region.ready md ops listed = [] → Q .normal a w) ∧
    ∀ i ∈ Region.ready md ops listed, wpOp P ops Q i (fun a' w' => (i ≠ z → S w') ∧ wpAnyW P md ops Q S z fuel (listed.setIfInBounds i true) a' w') a w

theorem wpAny_of_weak : ∀ (fuel : Nat) (listed : Array Bool) (a : Act) (w : World), wpAnyW P md ops Q S z fuel listed a w → wpAny P md ops Q fuel listed a w
  | 0, _, _, _, h => h
  | fuel + 1, _, _, _, h => ⟨h.1, fun i hi => wpOp_mono (fun a' w' h' => wpAny_of_weak fuel _ a' w' h'.2) (h.2 i hi)⟩

theorem weak_first {i : Nat} {oi : Oper} {v : Value} (hi : ops[i]? = some oi) (hsel : Region.noSelect ops = true) (hz : Region.waitsFor md ops z i = true)
    (hQ : ∀ c a w, Q (.panic c) (a.put oi.dst v) w → Q (.panic c) a w) : ∀ (fuel : Nat) (listed : Array Bool) (a : Act) (w : World),
      (∀ j oj, ops[j]? = some oj → j ≠ i → listed.getD j true = false → (∀ e ∈ oj.after, Region.binds md e = true → e.on ≠ i) → oi.apart ops oj = true) →
      i ∈ Region.ready md ops listed → YieldsIf P ops S oi v a → S w →
      wpAnyW P md ops Q S z fuel (listed.setIfInBounds i true) (a.put oi.dst v) w → wpAnyW P md ops Q S z (fuel + 1) listed a w
  | 0, listed, a, w, _, hr, hy, hS, H => by
    refine ⟨fun h => absurd hr (by rw [h]; simp), fun j hj => ?_⟩
    rcases Nat.decEq j i with hji | hji
    · exact absurd (ready_mono hj hji) (by rw [H.1]; simp)
    · subst hji; exact hy.wpOp hi hS ⟨fun _ => hS, H⟩
  | fuel + 1, listed, a, w, hfree, hr, hy, hS, H => by
    refine ⟨fun h => absurd hr (by rw [h]; simp), fun j hj => ?_⟩
    rcases Nat.decEq j i with hji | hji
    · obtain ⟨hjun, oj, hoj, hall⟩ := mem_ready.1 hj
      have hi0 := (mem_ready.1 hr).1
      have hnot : ∀ e ∈ oj.after, Region.binds md e = true → e.on ≠ i := by
        intro e he hb heq
        have h1 := hall e he hb
        rw [heq] at h1
        simp only [Array.getD_eq_getD_getElem?] at h1 hi0
        cases hx : listed[i]? with
        | none => rw [hx] at h1; simp at h1
        | some b => rw [hx] at h1 hi0; simp at h1 hi0; rw [h1] at hi0; cases hi0
      have h2 := wpOp_putIf hoj (hfree j oj hoj hji hjun hnot) (fun cs b => Region.noSelect_spec hsel i oi cs b hi) (fun cs b => Region.noSelect_spec hsel j oj cs b hoj) hQ hy (H.2 j (ready_mono hj hji))
      have hri := ready_mono hr (Ne.symm hji)
      refine wpOp_mono (fun a' w' h3 => ?_) h2
      obtain ⟨hy', hS', H'⟩ := h3
      rw [Array.setIfInBounds_comm _ _ (Ne.symm hji)] at H'
      have hSw : S w' := hS' (by
        intro e
        obtain ⟨oz, h1, e', h2, h3, h4⟩ := Region.waitsFor_spec hz
        rw [← e, hoj] at h1
        cases h1
        exact hnot e' h2 h3 h4)
      refine ⟨fun _ => hSw, weak_first hi hsel hz hQ fuel (listed.setIfInBounds j true) a' w' ?_ hri hy' hSw H'⟩
      intro k ok hk hki hun hno
      refine hfree k ok hk hki ?_ hno
      by_cases hjk : j = k
      · subst hjk; exact hjun
      · rw [getD_set_ne true hjk] at hun; exact hun
    · subst hji; exact hy.wpOp hi hS ⟨fun _ => hS, H⟩

/-- Take number i first. -/
theorem weak_take (i : Nat) {oi : Oper} (v : Value) {fuel : Nat} {listed : Array Bool} {a : Act} {w : World} (hi : ops[i]? = some oi)
    (hs : Region.noSelect ops = true) (hz : Region.waitsFor md ops z i = true) (hf : Region.free md ops listed i = true) (hr : (Region.ready md ops listed).contains i = true)
    (hQ : ∀ c a w, Q (.panic c) (a.put oi.dst v) w → Q (.panic c) a w) (hy : YieldsIf P ops S oi v a) (hS : S w)
    (h : wpAnyW P md ops Q S z fuel (listed.setIfInBounds i true) (a.put oi.dst v) w) : wpAnyW P md ops Q S z (fuel + 1) listed a w :=
  weak_first hi hs hz hQ fuel listed a w (Region.free_spec hi hf) (by simpa using hr) hy hS h

/-- One alone may come up. -/
theorem weak_one (i : Nat) {o : Oper} {fuel : Nat} {listed : Array Bool} {a : Act} {w : World} (hi : ops[i]? = some o) (hw : o.guard = none) (hr : Region.ready md ops listed = [i])
    (h : o.wp P a w (fun a' w' => (i ≠ z → S w') ∧ wpAnyW P md ops Q S z fuel (listed.setIfInBounds i true) a' w') Q) : wpAnyW P md ops Q S z (fuel + 1) listed a w := by
  refine ⟨fun h0 => (by rw [hr] at h0; cases h0), fun j hj => ?_⟩
  rw [hr] at hj
  obtain rfl := List.mem_singleton.1 hj
  unfold wpOp
  simp only [hi]
  rw [if_pos (by simp [Region.wanted, hw])]
  exact .inl h

theorem weak_done {listed : Array Bool} {a : Act} {w : World} (hr : Region.ready md ops listed = []) (h : Q .normal a w) : wpAnyW P md ops Q S z 0 listed a w := ⟨hr, h⟩

theorem weak_region (z : Nat) (S : World → Prop) {id : Nat} {a : Act} {w : World} (hm : P.follows .mixedOrders = true)
    (h : wpAnyW P .any ops (NoPanic Q) S z ops.size (Array.replicate ops.size false) a w.drew) : (Code.region id ops true).wp P Q a w :=
  wp_region_noPanic (wp_region_any hm (wpAny_of_weak _ _ _ _ h))
end

/-- An operation that gives a value. -/
theorem wp_given {P : Program} {o : Oper} {a : Act} {w w' : World} {K : Act → World → Prop} {Q : Exit → Act → World → Prop} {v : Value} (hrun : (execOp a.eval o).run P w = .ok (.value v) w') (h : K (a.put o.dst v) w') : o.wp P a w K Q := by
  unfold Oper.wp
  rw [hrun]
  exact h

theorem wp_enter {P : Program} {o : Oper} {a : Act} {w : World} {K : Act → World → Prop} {Q : Exit → Act → World → Prop} (f : FuncId) (args : Array Value) (hrun : (execOp a.eval o).run P w = .ok (.enter f args) w)
    {R : Ending → World → Prop} (hc : Calls P f args w R) (h : ∀ e w', R e w' → ∃ v, e = .returned v ∧ K (a.put o.dst v) w') : o.wp P a w K Q := by
  unfold Oper.wp
  rw [hrun, Oper.upon_enter]
  refine hc.mono fun e w' hR => ?_
  obtain ⟨v, rfl, hK⟩ := h e w' hR
  exact hK

end Go.Proofs.YtacfkgfemmgpkaaGreatDoor
