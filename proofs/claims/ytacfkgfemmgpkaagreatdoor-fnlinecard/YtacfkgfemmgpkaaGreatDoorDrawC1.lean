/- Several short texts in one: StrInj, L2Same, Mg, SpecBeg, DrawC1. -/
import Derived.Test.YtacfkgfemmgpkaaGreatDoorNameSpec
import Derived.Lib.Bytes
import Derived.Deep.RegionWith
import Derived.Test.YtacfkgfemmgpkaaGreatDoorDrawFill
namespace Go.Proofs.YtacfkgfemmgpkaaGreatDoor
open Go.RowKit

theorem str_inj {xs ys : List Int} (hx : Byt xs) (hy : Byt ys) (h1 : (xs.map fun n => UInt8.ofNat n.toNat) = ys.map fun n => UInt8.ofNat n.toNat) : xs = ys := by
  induction xs generalizing ys with
  | nil => cases ys with
    | nil => rfl
    | cons y r => simp at h1
  | cons x r ih =>
    cases ys with
    | nil => simp at h1
    | cons y s =>
      simp only [List.map_cons, List.cons.injEq] at h1
      have hx0 := hx x (by simp)
      have hy0 := hy y (by simp)
      have e : x = y := by
        have := congrArg UInt8.toNat h1.1
        simp only [UInt8.toNat_ofNat'] at this
        omega
      rw [e, ih (fun a ha => hx a (by simp [ha])) (fun a ha => hy a (by simp [ha])) h1.2]

theorem str_beq {xs ys : List Int} (hx : Byt xs) (hy : Byt ys) : ((strOfNums xs).toList == (strOfNums ys).toList) = decide (xs = ys) := by
  rw [Go.Lib.strOfNums_toList, Go.Lib.strOfNums_toList]
  by_cases h : xs = ys
  · subst h; rw [decide_eq_true rfl]; exact beq_self_eq_true _
  · rw [decide_eq_false h, beq_eq_false_iff_ne]
    exact fun e => h (str_inj hx hy e)

end Go.Proofs.YtacfkgfemmgpkaaGreatDoor

namespace Go.Proofs.YtacfkgfemmgpkaaGreatDoor
open Go.RowKit

end Go.Proofs.YtacfkgfemmgpkaaGreatDoor

namespace Go.Proofs.YtacfkgfemmgpkaaGreatDoor
open Go.RowKit

/-- The magic. -/
def mg : List Int := [106, 108, 111, 103]

theorem byt_mg : Byt mg := by intro x hx; simp [mg] at hx; omega

end Go.Proofs.YtacfkgfemmgpkaaGreatDoor

namespace Go.Proofs.YtacfkgfemmgpkaaGreatDoor
open Go.RowKit

set_option maxRecDepth 20000 in
set_option maxHeartbeats 400000 in
theorem l3Magic_calls (w : World) : Calls Tryz.prog 51 #[] w fun e w' => e = .returned (.slice (some ⟨w.heap.size, 0, none⟩) 4 4) ∧ OwnB w' w.heap.size 5 (.slice (some ⟨w.heap.size, 0, none⟩) 4 4) mg ∧ Chg 0 0 w w' := by
  have HO : Hid (OwnB (w.alloc (.cells #[.int .u8 106, .int .u8 108, .int .u8 111, .int .u8 103] 5)) w.heap.size 5 (.slice (some ⟨w.heap.size, 0, none⟩) 4 4) mg) := by
    show OwnB _ _ _ _ _
    have := World.ownsRow_lit (base := w.heap.size) (e := 5) (size := 1) w #[.int .u8 106, .int .u8 108, .int .u8 111, .int .u8 103] 4 (Nat.le_refl _) (by unfold maxLen; omega) rfl
    simpa [OwnB, mg] using this
  have HC : Hid (Chg 0 0 w (w.alloc (.cells #[.int .u8 106, .int .u8 108, .int .u8 111, .int .u8 103] 5))) := Chg.alloc (Chg.refl 0 0 w) _
  go_enter Tryz.func51, Tryz.ntmps51
  go_wp2
  go_ret
  exact ⟨rfl, HO.out, HC.out⟩

/-- Do bytes begin with the magic? -/
def beg (xs : List Int) : Bool := decide (4 ≤ xs.length) && decide (xs.take 4 = mg)

end Go.Proofs.YtacfkgfemmgpkaaGreatDoor

namespace Go.Proofs.YtacfkgfemmgpkaaGreatDoor
open Go.RowKit

theorem OwnB.en {S : Sc} {wr w6 : World} {A base : Nat} {e : TypeId} {v : Value} {xs : List Int} (ho : OwnB wr base e v xs) (h : En S wr w6 A) (hp : S.p + 1 ≤ base) : OwnB w6 base e v xs := ho.chg h.chg (fun g hg => by have := ho.lt g hg; omega)
theorem OwnC.en {S : Sc} {wr w6 : World} {A base : Nat} {v : Value} {cs : List Lst} (ho : OwnC wr base v cs) (h : En S wr w6 A) (hp : S.p + 1 ≤ base) : OwnC w6 base v cs := ho.chg h.chg (Or.inl hp)

theorem path_e {S : Sc} {w0 w : World} {A : Nat} (h : En S w0 w A) (hA : A ≤ 400000) :
    Calls Tryz.prog 43 #[.pointer (some ⟨S.p, 0, none⟩)] w fun e w' => ∃ t : ByteArray, e = .returned (.string t) ∧ t.size ≤ 1000 ∧ En S w0 w' (A + 400) := by
  obtain ⟨a, ha, hs⟩ := h.src
  refine (l10DrawPath_callsE w S.p a S.sz h.byt h.len (by omega) hs h.view h.out).mono ?_
  rintro e w' ⟨t, rfl, ht, ⟨m, hm, hs'⟩, c⟩
  have hto := h.top
  refine ⟨_, rfl, ht, ⟨m, by omega, hs'⟩, h.view.chg c ?_, h.out, h.byt, h.len, h.chg.trans c, hto⟩
  have := h.out
  omega

set_option maxRecDepth 20000 in
set_option maxHeartbeats 4000000 in
theorem data_e {S : Sc} {w0 w : World} {A : Nat} (h : En S w0 w A) (hA : A ≤ 400000) :
    Calls Tryz.prog 41 #[.pointer (some ⟨S.p, 0, none⟩)] w fun e w' => ∃ t : ByteArray, e = .returned (.string t) ∧ t.size ≤ 3000 ∧ En S w0 w' (A + 10) := by
  have hs := h.self
  suffices hk : Calls Tryz.prog 41 #[.pointer (some ⟨S.p, 0, none⟩)] w fun e w' => ∃ t : ByteArray, e = .returned (.string t) ∧ t.size ≤ 3000 ∧ En S w w' (A + 10) from hk.mono (fun e w' ⟨t, h1, h2, h3⟩ => ⟨t, h1, h2, h.join h3⟩)
  clear h
  go_enter Tryz.func41, Tryz.ntmps41
  go_wp2_with fail
  refine (next_e hs (by omega) 12 (by omega)).mono ?_
  rintro e w1 ⟨k, rfl, k0, k1, h1⟩
  replace k1 := k1 (by omega)
  go_wp2_with fail
  refine (next_e h1 (by omega) 40 (by omega)).mono ?_
  rintro e w2 ⟨m, rfl, m0, m1, h2⟩
  replace m1 := m1 (by omega)
  clear h1 hs
  go_upto_if 16 with fail
  go_cut [4] (fun s4 wx => (∃ n : Int, s4 = .int .i64 n ∧ 0 ≤ n ∧ n ≤ 2561) ∧ En S w wx (A + 3))
  case first =>
    by_cases hk : k < 3
    · skip
      go_wp2_with fail
      refine (next_e h2 (by omega) 150 (by omega)).mono ?_
      rintro e w3 ⟨r, rfl, r0, r1, h3⟩
      replace r1 := r1 (by omega)
      go_wp2
      go_meet
      exact ⟨⟨r, rfl, by omega, by omega⟩, h3⟩
    · go_wp2
      go_meet
      exact ⟨⟨1 + m, rfl, by omega, by omega⟩, h2.mono (by omega)⟩
  case rest =>
  obtain ⟨⟨n, rfl, n0, n2⟩, hE⟩ := hcut
  generalize wc = wz at *
  clear h2 m0 m1 m
  go_upto_if 20 with fail
  go_cut [4] (fun s4 wx => (∃ n : Int, s4 = .int .i64 n ∧ 0 ≤ n ∧ n ≤ 2561) ∧ En S w wx (A + 4))
  case first =>
    by_cases hk : k = 3
    · subst hk
      go_wp2_with fail
      refine (next_e hE (by omega) 3 (by omega)).mono ?_
      rintro e w3 ⟨r, rfl, r0, r1, h3⟩
      replace r1 := r1 (by omega)
      go_wp2
      go_meet
      exact ⟨⟨64 * (1 + r), rfl, by omega, by omega⟩, h3⟩
    · have hkb : (k == 3) = false := by simpa using hk
      go_wp2
      go_meet
      exact ⟨⟨n, rfl, by omega, by omega⟩, hE.mono (by omega)⟩
  case rest =>
  clear hE n0 n2 n
  obtain ⟨⟨n, rfl, n0, n2⟩, hE⟩ := hcut
  generalize wc = wz at *
  go_upto_if 26 with fail
  go_cut [4] (fun s4 wx => (∃ n : Int, s4 = .int .i64 n ∧ 0 ≤ n ∧ n ≤ 2561) ∧ En S w wx (A + 4))
  case first =>
    by_cases hk : k = 4
    · subst hk
      go_wp2
      go_meet
      exact ⟨⟨0, rfl, by omega, by omega⟩, hE⟩
    · have hkb : (k == 4) = false := by simpa using hk
      go_wp2
      go_meet
      exact ⟨⟨n, rfl, by omega, by omega⟩, hE⟩
  case rest =>
  clear hE n0 n2 n
  obtain ⟨⟨n, rfl, n0, n2⟩, hE⟩ := hcut
  generalize wc = wz at *
  go_upto_region 9 with fail
  go_cut [32] (fun s32 wx => (∃ b : Bool, s32 = .bool b) ∧ En S w wx (A + 5))
  case first =>
    by_cases hk : k = 5
    · subst hk
      go_wp2_with fail
      refine (chance_e hE (by omega) 6 (by omega)).mono ?_
      rintro e w3 ⟨b, rfl, h3⟩
      go_wp2
      go_meet
      exact ⟨⟨_, rfl⟩, h3⟩
    · have hkb : (k == 5) = false := by simpa using hk
      go_wp2
      go_meet
      exact ⟨⟨_, rfl⟩, hE.mono (by omega)⟩
  case rest =>
  clear hE
  obtain ⟨⟨b, rfl⟩, hE⟩ := hcut
  generalize wc = wz5 at *
  go_upto_if 32 with fail
  go_cut [4] (fun s4 wx => (∃ n : Int, s4 = .int .i64 n ∧ 0 ≤ n ∧ n ≤ 2561) ∧ En S w wx (A + 6))
  case first =>
    cases b
    · go_wp2
      go_meet
      exact ⟨⟨n, rfl, by omega, by omega⟩, hE.mono (by omega)⟩
    · skip
      go_wp2_with fail
      refine (next_e hE (by omega) 2 (by omega)).mono ?_
      rintro e w4 ⟨r, rfl, r0, r1, h4⟩
      replace r1 := r1 (by omega)
      go_wp2
      go_meet
      exact ⟨⟨2560 + r, rfl, by omega, by omega⟩, h4⟩
  case rest =>
  clear hE n0 n2 n
  obtain ⟨⟨n, rfl, n0, n2⟩, hE⟩ := hcut
  generalize wc = wz at *
  clear k0 k1
  obtain ⟨n, rfl⟩ : ∃ m : Nat, n = (m : Int) := ⟨n.toNat, by omega⟩
  go_wp2_with fail
  refine (next_e hE (by omega) 256 (by omega)).mono ?_
  rintro e w5 ⟨f, rfl, f0, f1, h5⟩
  replace f1 := f1 (by omega)
  have hsz := h5.size
  have HO0 : Hid (OwnB (w5.alloc (.cells #[] 5)) w.heap.size 5 (.slice (some ⟨w5.heap.size, 0, none⟩) 0 0) []) := OwnB.bnil w5 w.heap.size hsz
  have HE0 : Hid (En S w (w5.alloc (.cells #[] 5)) (A + 7)) := h5.alloc _
  have ef : IntKind.u8.wrap f = f := by rw [IntKind.wrap_u8]; omega
  clear hE h5
  go_wp2
  go_loopw [6, 7] (fun o x wr => ∃ (k g cp : Nat) (xs : List Int), k ≤ n ∧ xs.length = k ∧ x = .int .i64 k ∧ o = .slice (some ⟨g, 0, none⟩) k cp ∧ OwnB wr w.heap.size 5 (.slice (some ⟨g, 0, none⟩) k cp) xs ∧ En S w wr (A + 7)) (fun _ x _ => n - (RowKit.intOf x).toNat)
  case atStart => exact ⟨0, _, _, [], Nat.zero_le _, rfl, rfl, rfl, HO0.out, HE0.out⟩
  case round =>
    obtain ⟨k, g, cp, xs, hk, hxs, rfl, rfl, ho, hE⟩ := hrel
    have hsw := hE.size
    have HO : Hid (OwnB wr w.heap.size 5 (.slice (some ⟨g, 0, none⟩) k cp) xs) := ho
    have HE : Hid (En S w wr (A + 7)) := hE
    clear HO0 HE0 ho hE
    by_cases hlt : k < n
    · have hi : (k : Int) < (n : Int) := by omega
      have e3 : Int.tmod (k : Int) 5 = ((k % 5 : Nat) : Int) := by rw [Int.tmod_eq_emod_of_nonneg (by omega)]; omega
      obtain ⟨q, hq⟩ : ∃ q : Nat, q = k % 5 := ⟨_, rfl⟩
      have hq1 : q < 5 := by omega
      rw [← hq] at e3
      clear hq
      have e4 : IntKind.u8.wrap (q : Int) = (q : Int) := by rw [IntKind.wrap_u8]; omega
      go_wp2_with (at_builtin; refine wpList_app_1b rfl (.tmp 45) (.tmp 51) rfl w.heap.size _ xs rfl HO.out hsw rfl (by omega) ?_)
      intro g5 cp5 w5 r ho5 hc5
      have HO5 : Hid (OwnB w5 w.heap.size 5 (.slice (some ⟨g5, 0, none⟩) (k + 1) cp5) (xs ++ [_])) := ho5
      have HE5 : Hid (En S w w5 (A + 7)) := (HE.out.alloc _).own hc5 (Nat.le_refl _)
      clear ho5 hc5
      go_wp2
      go_roundw
      case rel => exact ⟨k + 1, g5, cp5, _, by omega, by rw [List.length_append, hxs]; rfl, by go_num, rfl, HO5.out, HE5.out⟩
      case measure => simp [RowKit.intOf]; omega
    · obtain rfl : k = n := by omega
      have hi : ¬ ((k : Int) < (k : Int)) := by omega
      by_cases h64 : 64 ≤ k
      · have h64i : (64 : Int) ≤ (k : Int) := by omega
        go_wp2_with fail
        refine (chance_e HE.out.self (by omega) 3 (by omega)).mono ?_
        rintro e w6 ⟨b, rfl, h6⟩
        have hpt := HE.out.top
        have HO6 : Hid (OwnB w6 w.heap.size 5 (.slice (some ⟨g, 0, none⟩) k cp) xs) := HO.out.en h6 (by omega)
        have HE6 : Hid (En S w w6 (A + 8)) := HE.out.join h6
        have hs6 := HE6.out.size
        clear h6 HO HE
        cases b
        · have hst := (OwnB.seen HO6.out (by omega)).str
          go_wp2
          go_ret
          exact ⟨_, rfl, by rw [strOfNums_size]; omega, HE6.out.mono (by omega)⟩
        · go_wp2_with fail
          refine (l3Magic_calls w6).mono ?_
          rintro e w7 ⟨rfl, om, c7⟩
          have HO7 : Hid (OwnB w7 w.heap.size 5 (.slice (some ⟨g, 0, none⟩) k cp) xs) := HO6.out.chg c7 (fun g' _ => by omega)
          have HE7 : Hid (En S w w7 (A + 8)) := HE6.out.keep c7
          have hgo := HO6.out.lt g rfl
          have HM : Hid (∀ j, j < 4 → w7.cell? ⟨w6.heap.size, j, none⟩ = some (.int .u8 (mg.getD j 0))) := fun j hj => by
            have hl : mg.length = 4 := rfl
            unfold OwnB at om
            rw [hl] at om
            rw [World.ownsRow.cellAt om j (by omega), List.getElem?_map, List.getElem?_eq_getElem (by rw [hl]; exact hj)]
            simp [List.getD_eq_getElem?_getD, List.getElem?_eq_getElem (by rw [hl]; exact hj : j < mg.length)]
          have hz6 : w6.heap.size < w7.heap.size := lt_of_cell (HM.out 0 (by omega))
          clear om c7 HO6 HE6
          go_wp2
          go_loopw [9] (fun x wr => ∃ (j : Nat) (ys : List Int), j ≤ 4 ∧ x = .int .i64 j ∧ ys.length = k ∧ OwnB wr w.heap.size 5 (.slice (some ⟨g, 0, none⟩) k cp) ys ∧ Chg g (g + 1) w7 wr) (fun x _ => 4 - (RowKit.intOf x).toNat)
          case atStart => exact ⟨0, xs, by omega, rfl, hxs, HO7.out, Chg.refl _ _ _⟩
          case round =>
            obtain ⟨j, ys, hj, rfl, hys, ho, hch⟩ := hrel
            by_cases hj4 : j < 4
            · have hji : (j : Int) < 4 := by omega
              have hjk : (j : Int) < (k : Int) := by omega
              have cm := hch.cell (HM.out j hj4) (by show w6.heap.size < g ∨ g + 1 ≤ w6.heap.size; omega)
              obtain ⟨⟨u, cu⟩, fu, ho2⟩ := ho.store hys j (by omega) (mg.getD j 0)
              have HO8 : Hid (∃ zs : List Int, zs.length = k ∧ OwnB (wr.setCell ⟨g, j, none⟩ (.int .u8 (mg.getD j 0))) w.heap.size 5 (.slice (some ⟨g, 0, none⟩) k cp) zs) := ⟨_, by simpa using hys, ho2⟩
              have HC8 : Hid (Chg g (g + 1) w7 (wr.setCell ⟨g, j, none⟩ (.int .u8 (mg.getD j 0)))) := hch.setCell (Or.inl ⟨Nat.le_refl _, Nat.lt_succ_self _⟩) _
              generalize mg.getD j 0 = z at *
              clear ho ho2 hch
              go_wp2
              go_roundw
              case rel =>
                obtain ⟨zs, hz, hoz⟩ := HO8.out
                exact ⟨j + 1, zs, by omega, by go_num, hz, hoz, HC8.out⟩
              case measure => simp [RowKit.intOf]; omega
            · have hji : ¬ ((j : Int) < 4) := by omega
              have hst := (OwnB.seen ho (by omega)).str
              have HE8 : Hid (En S w wr (A + 8)) := HE7.out.own hch (by omega)
              go_wp2
              go_ret
              exact ⟨_, rfl, by rw [strOfNums_size]; omega, HE8.out.mono (by omega)⟩
      · have h64i : ¬ ((64 : Int) ≤ (k : Int)) := by omega
        have hst := (OwnB.seen HO.out (by omega)).str
        go_wp2
        go_ret
        exact ⟨_, rfl, by rw [strOfNums_size]; omega, HE.out.mono (by omega)⟩

end Go.Proofs.YtacfkgfemmgpkaaGreatDoor
