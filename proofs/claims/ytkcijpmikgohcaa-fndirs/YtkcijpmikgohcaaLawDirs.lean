/- The law FnDirs: the walk. (made by tools/mklawdirs.py) -/
import Derived.Test.YtkcijpmikgohcaaDirsDraw
import Derived.Test.YtkcijpmikgohcaaImplFind
import Derived.Test.YtkcijpmikgohcaaImplRem
import Derived.Test.YtkcijpmikgohcaaImplNames
import Derived.Test.YtkcijpmikgohcaaLwAt
import Derived.Test.YtkcijpmikgohcaaTextL
import Derived.Test.YtkcijpmikgohcaaBytSeen
namespace Go.Proofs.Ytkcijpmikgohcaa
open Go.RowKit

set_option maxRecDepth 20000 in
set_option maxHeartbeats 8000000 in
theorem lawDirs_walk (w : World) {ca ma : Option Addr} {cc mc : Nat} {code more : List Int} (hB : Byt code) (hM : Byt more) (hc : View w 0 w.heap.size .u8 (.slice ca code.length cc) code) (hm : View w 0 w.heap.size .u8 (.slice ma more.length mc) more) :
    Calls Try.prog 3 #[.slice ca code.length cc, .slice ma more.length mc] w fun e w' => e = .returned (.bool true) ∧ Below w.heap.size w w' := by
  have hl1 : code.length ≤ 9223372036854775807 := by obtain ⟨_, _, e, h, _⟩ := hc; exact h
  have hl2 : more.length ≤ 9223372036854775807 := by obtain ⟨_, _, e, h, _⟩ := hm; exact h
  have HB0 : Hid (Below w.heap.size w w) := Below.refl _ _
  by_cases hcl : code.length ≤ 1048576
  case neg =>
    have h1 : (1048576 : Int) < (code.length : Int) := by omega
    go_enter Try.func3, Try.ntmps3
    go_wp2
    go_ret
    exact ⟨rfl, HB0.out⟩
  have h1 : ¬ (1048576 : Int) < (code.length : Int) := by omega
  by_cases hml : more.length ≤ 1048576
  case neg =>
    have h2 : (1048576 : Int) < (more.length : Int) := by omega
    go_enter Try.func3, Try.ntmps3
    go_wp2
    go_ret
    exact ⟨rfl, HB0.out⟩
  have h2 : ¬ (1048576 : Int) < (more.length : Int) := by omega
  have hN := drawDirRemove_calls w hB hcl hc
  go_enter Try.func3, Try.ntmps3
  go_wp2_with fail
  refine hN.mono ?_
  rintro e w1 ⟨v, r, rfl, ts, hn, hall, o1, c1⟩
  have HAll : Hid (AllN ts) := hall
  have hcnt : cntE ts ≤ 1048576 := by have := hall.cnt; omega
  have hz : ∀ i, i < ts.length → (ts.getD i Ent.none).2.size ≤ 1048576 := fun i hi => by have := (hall.get hi).1; omega
  have Hz : Hid (∀ i, i < ts.length → (ts.getD i Ent.none).2.size ≤ 1048576) := hz
  have Hcnt : Hid (cntE ts ≤ 1048576) := hcnt
  have HO1 : Hid (OwnE w1 w.heap.size 30 v ts) := o1
  have HC1 : Hid (Chg 0 0 w w1) := c1
  obtain ⟨va, vc, rfl⟩ := o1.slE
  clear hN o1 c1 hz hcnt hall
  -- a copy, and its names
  have CA : Chg 0 0 w1 (w1.alloc (.cells #[] 30)) := Chg.alloc (Chg.refl 0 0 w1) _
  have HOA : Hid (OwnE (w1.alloc (.cells #[] 30)) w1.heap.size 30 (.slice (some ⟨w1.heap.size, 0, none⟩) 0 0) []) := OwnE.nil w1 _
  have HVA : Hid (OwnE (w1.alloc (.cells #[] 30)) w.heap.size 30 (.slice va ts.length vc) ts) := HO1.out.chg CA (by intro g _; omega)
  have sA : Hid (w1.heap.size ≤ (w1.alloc (.cells #[] 30)).heap.size) := by show _ ≤ _; simp
  have HCA : Hid (Chg 0 0 w (w1.alloc (.cells #[] 30))) := HC1.out.trans CA
  clear CA
  go_wp2_with (at_builtin; refine wpList_copyE rfl (.tmp 31) (.tmp 32) rfl w1.heap.size _ _ ts rfl HOA.out rfl HVA.out (by omega) sA.out ?_)
  intro v2 w2 o2 c2
  have hs1 := HC1.out.size
  have HC2 : Hid (Chg 0 0 w w2) := HCA.out.step c2 (by omega)
  have HO2 : Hid (OwnE w2 w.heap.size 30 (.slice va ts.length vc) ts) := HVA.out.chg c2 (fun g hg => by have := (HO1.out.lt g hg).2; omega)
  have hN := implDirNames_calls w2 (by omega) (o2.view (by omega) (hi := w2.heap.size) (fun g hg => (o2.lt g hg).2))
  clear o2 c2 HOA HVA sA HCA HO1 HC1
  go_wp2_with fail
  refine hN.mono ?_
  rintro e w3 ⟨nv, rfl, o3, c3⟩
  have hnd : namesD ts = sortTo (nms ts ts.length) ts.length := by unfold namesD; rw [if_neg (by omega)]
  rw [hnd] at o3
  have hsl : (sortTo (nms ts ts.length) ts.length).length = ts.length := sortTo_len _ _
  have hso := sortTo_sorted (nms ts ts.length) ts.length
  generalize sortTo (nms ts ts.length) ts.length = ns at *
  have HSo : Hid (SortedT ns) := hso
  have Hsl : Hid (ns.length = ts.length) := hsl
  obtain ⟨na, nc, rfl⟩ : ∃ na nc, nv = .slice na ts.length nc := by
    rcases o3.2 with ⟨h1, h0⟩ | ⟨g, cap, cur, hv, _⟩
    · rw [← hsl, h0]; exact ⟨_, _, h1⟩
    · rw [← hsl]; exact ⟨_, _, hv⟩
  have HNm : Hid (ts.length = 0 ∨ ∃ g, na = some ⟨g, 0, none⟩ ∧ g < w3.heap.size ∧ ∀ j, j < ts.length → w3.cell? ⟨g, j, none⟩ = some (.string (ns.getD j noText))) := by
    rcases o3.2 with ⟨h1, h0⟩ | ⟨g, cap, cur, hv, _, hh, _⟩
    · exact Or.inl (by rw [← hsl]; exact h0)
    · have hv' := hv
      injection hv with hv1 hv2 hv3
      subst hv1
      exact Or.inr ⟨g, rfl, (Array.getElem?_eq_some_iff.1 hh).1, fun j hj => (o3.cell hsl j hj).1⟩
  have HC3 : Hid (Chg 0 0 w w3) := HC2.out.trans c3
  have HO3 : Hid (OwnE w3 w.heap.size 30 (.slice va ts.length vc) ts) := HO2.out.chg c3 (by intro g _; omega)
  have hnn : ((ts.length : Int) != (ts.length : Int)) = false := by simp
  have h1000 : ¬ (1000 : Int) < (ts.length : Int) := by omega
  clear hN o3 c3 hnd hso hsl HC2 HO2
  -- the names rise
  go_wp2
  go_loopw [9] (fun x wr => ∃ k : Nat, k ≤ ts.length ∧ x = .int .i64 k ∧ Chg 0 0 w3 wr) (fun x _ => ts.length - (intOf x).toNat)
  case atStart => exact ⟨0, Nat.zero_le _, rfl, Chg.refl _ _ _⟩
  case round =>
    obtain ⟨k, hk, rfl, hch⟩ := hrel
    by_cases hlt : k + 1 < ts.length
    · obtain ⟨g, rfl, hgl, hce⟩ := HNm.out.resolve_left (by omega)
      have hi : (k : Int) + 1 < (ts.length : Int) := by omega
      have hi0 : (k : Int) < (ts.length : Int) := by omega
      have c0 := hch.cell (hce k (by omega)) (by omega)
      have c1 := hch.cell (hce (k + 1) (by omega)) (by omega)
      have hgt : (Op.bytesLess (ns.getD k noText).toList (ns.getD (k + 1) noText).toList || (ns.getD k noText).toList == (ns.getD (k + 1) noText).toList) = true := by
        have hp := List.pairwise_iff_getElem.1 HSo.out k (k + 1) (by rw [Hsl.out]; omega) (by rw [Hsl.out]; omega) (Nat.lt_succ_self k)
        have e1 : ns.getD k noText = ns[k]'(by rw [Hsl.out]; omega) := by simp [List.getD_eq_getElem?_getD, show k < ns.length by rw [Hsl.out]; omega]
        have e2 : ns.getD (k + 1) noText = ns[k + 1]'(by rw [Hsl.out]; omega) := by simp [List.getD_eq_getElem?_getD, show k + 1 < ns.length by rw [Hsl.out]; omega]
        have hg2 := gtT_le (ns.getD k noText) (ns.getD (k + 1) noText)
        rw [e1, e2, decide_eq_true hp] at hg2
        rw [e1, e2]
        unfold gtT at hg2
        have h3 := congrArg Bool.not hg2
        rwa [Bool.not_not, Bool.not_not] at h3
      have HS : Hid ((fun w' : World => w'.cell? ⟨g, k, none⟩ = some (.string (ns.getD k noText)) ∧ w'.cell? ⟨g, k + 1, none⟩ = some (.string (ns.getD (k + 1) noText))) wr.drew) := ⟨c0, c1⟩
      have HCk : Hid (Chg 0 0 w3 wr.drew) := hch.drew
      have hwk : IntKind.i64.wrap ((k : Int) + 1) = (k : Int) + 1 := by rw [IntKind.wrap_i64]; omega
      have hk0 : ¬ (k : Int) + 1 < 0 := by omega
      have hk1 : (0 : Int) ≤ (k : Int) + 1 := by omega
      have hkt : ((k : Int) + 1).toNat = k + 1 := by omega
      generalize ns.getD k noText = s0 at *
      generalize ns.getD (k + 1) noText = s1 at *
      clear hce c0 c1 hch
      go_wp2
      refine held_region (fun w' : World => w'.cell? ⟨g, k, none⟩ = some (.string s0) ∧ w'.cell? ⟨g, k + 1, none⟩ = some (.string s1)) (by kernel_rfl) ?_
      generalize wr.drew = x1 at *
      refine held_take 0 (.slice (some ⟨g, 0, none⟩) ts.length nc) rfl (by kernel_rfl) (by kernel_rfl) (by kernel_rfl) (fun _ _ _ h => h) (.inl ⟨by kernel_rfl, fun w' hw' => by go_simp⟩) HS.out ?_
      go_simp
      refine held_take 1 (.int .i64 k) rfl (by kernel_rfl) (by kernel_rfl) (by kernel_rfl) (fun _ _ _ h => h) (.inl ⟨by kernel_rfl, fun w' hw' => by go_simp⟩) HS.out ?_
      go_simp
      refine held_take 2 (.pointer (some ⟨g, k, none⟩)) rfl (by kernel_rfl) (by kernel_rfl) (by kernel_rfl) (fun _ _ _ h => h) (.inl ⟨by kernel_rfl, fun w' hw' => by go_simp⟩) HS.out ?_
      go_simp
      refine held_take 3 (.string s0) rfl (by kernel_rfl) (by kernel_rfl) (by kernel_rfl) (fun _ _ _ h => h) (.inl ⟨by kernel_rfl, fun w' hw' => by have h1 := hw'.1; go_simp⟩) HS.out ?_
      go_simp
      refine held_take 4 (.slice (some ⟨g, 0, none⟩) ts.length nc) rfl (by kernel_rfl) (by kernel_rfl) (by kernel_rfl) (fun _ _ _ h => h) (.inl ⟨by kernel_rfl, fun w' hw' => by go_simp⟩) HS.out ?_
      go_simp
      refine held_take 5 (.int .i64 k) rfl (by kernel_rfl) (by kernel_rfl) (by kernel_rfl) (fun _ _ _ h => h) (.inl ⟨by kernel_rfl, fun w' hw' => by go_simp⟩) HS.out ?_
      go_simp
      refine held_take 6 (.int .i64 ((k : Int) + 1)) rfl (by kernel_rfl) (by kernel_rfl) (by kernel_rfl) (fun _ _ _ h => h) (.inl ⟨by kernel_rfl, fun w' hw' => by go_simp⟩) HS.out ?_
      go_simp
      refine held_take 7 (.pointer (some ⟨g, k + 1, none⟩)) rfl (by kernel_rfl) (by kernel_rfl) (by kernel_rfl) (fun _ _ _ h => h) (.inl ⟨by kernel_rfl, fun w' hw' => by go_simp⟩) HS.out ?_
      go_simp
      refine held_take 8 (.string s1) rfl (by kernel_rfl) (by kernel_rfl) (by kernel_rfl) (fun _ _ _ h => h) (.inl ⟨by kernel_rfl, fun w' hw' => by have h1 := hw'.2; go_simp⟩) HS.out ?_
      go_simp
      refine held_take 9 (.bool false) rfl (by kernel_rfl) (by kernel_rfl) (by kernel_rfl) (fun _ _ _ h => h) (.inl ⟨by kernel_rfl, fun w' hw' => by go_simp⟩) HS.out ?_
      go_simp
      refine held_done (by kernel_rfl) (NoPanic.normal ?_)
      go_wp2
      go_roundw
      case rel => exact ⟨k + 1, by omega, by go_num, HCk.out⟩
      case measure => simp [intOf]; omega
    · have hi : ¬ (k : Int) + 1 < (ts.length : Int) := by omega
      have HO4 : Hid (OwnE wr w.heap.size 30 (.slice va ts.length vc) ts) := HO3.out.chg hch (by intro g _; omega)
      have HC4 : Hid (Chg 0 0 w wr) := HC3.out.trans hch
      clear HNm HSo Hsl HO3 HC3 hch hlt
      go_wp2
      generalize wr = w4 at *
      -- each is found
      go_loopw [10] (fun x wr => ∃ k : Nat, k ≤ ts.length ∧ x = .int .i64 k ∧ Chg 0 0 w4 wr) (fun x _ => ts.length - (intOf x).toNat)
      case atStart => exact ⟨0, Nat.zero_le _, rfl, Chg.refl _ _ _⟩
      case round =>
        obtain ⟨k, hk, rfl, hch⟩ := hrel
        have o5 := HO4.out.chg hch (by intro g _; omega)
        by_cases hlt : k < ts.length
        · obtain ⟨kk, hf, hkk, hnm⟩ := find_first hlt
          have hi : (k : Int) < (ts.length : Int) := by omega
          obtain ⟨g, rfl⟩ : ∃ g, va = some ⟨g, 0, none⟩ := by
            rcases o5.2 with ⟨_, h0⟩ | ⟨g, cap, cur, hv, _⟩
            · omega
            · injection hv with hv1 _ _; exact ⟨g, hv1⟩
          have hvw := o5.view (by omega) (hi := wr.heap.size) (fun g hg => (o5.lt g hg).2)
          obtain ⟨_, _, e5, _, _, h5⟩ := id hvw
          cases e5
          obtain ⟨b5, off5, e5, _, _, hce⟩ := h5.resolve_left (fun h => by rw [h] at hlt; exact absurd hlt (Nat.not_lt_zero k))
          cases e5
          have d1 := (hce k hlt).2
          have d2 := (hce kk (by omega)).2
          have hnm' : (ts.getD kk Ent.none).2 = (ts.getD k Ent.none).2 := hnm
          have hf' : findD ts (ts.getD k Ent.none).2 = (kk : Int) := hf
          rw [hnm'] at d2
          have hN := implDirFind_calls wr (ts.getD k Ent.none).2 (by omega) Hz.out (Hz.out k hlt) hvw
          rw [hf'] at hN
          rw [Nat.zero_add] at d1 d2
          generalize (ts.getD k Ent.none).2 = s at *
          clear hce hvw o5 hnm hf hnm' hf' h5
          go_wp2_with fail
          refine hN.mono ?_
          rintro e w5 ⟨rfl, c5⟩
          have e1 := c5.cell d1 (by omega)
          have e2 := c5.cell d2 (by omega)
          have HC5 : Hid (Chg 0 0 w4 w5.drew) := (hch.trans c5).drew
          have HS : Hid ((fun w' : World => w'.cell? ⟨g, kk * 2 + 1, none⟩ = some (.string s) ∧ w'.cell? ⟨g, k * 2 + 1, none⟩ = some (.string s)) w5.drew) := ⟨e2, e1⟩
          have hkn : ¬ (k : Int) < (kk : Int) := by omega
          have hk0 : ¬ (kk : Int) < 0 := by omega
          have hki : (kk : Int) < (ts.length : Int) := by omega
          have hss : (s.toList != s.toList) = false := by simp
          clear hN c5 d1 d2 e1 e2 hch
          go_wp2
          refine held_region (fun w' : World => w'.cell? ⟨g, kk * 2 + 1, none⟩ = some (.string s) ∧ w'.cell? ⟨g, k * 2 + 1, none⟩ = some (.string s)) (by kernel_rfl) ?_
          generalize w5.drew = x1 at *
          refine held_take 0 (.int .i64 kk) rfl (by kernel_rfl) (by kernel_rfl) (by kernel_rfl) (fun _ _ _ h => h) (.inl ⟨by kernel_rfl, fun w' hw' => by go_simp⟩) HS.out ?_
          go_simp
          refine held_take 1 (.bool false) rfl (by kernel_rfl) (by kernel_rfl) (by kernel_rfl) (fun _ _ _ h => h) (.inl ⟨by kernel_rfl, fun w' hw' => by go_simp⟩) HS.out ?_
          go_simp
          refine held_take 2 (.bool false) rfl (by kernel_rfl) (by kernel_rfl) (by kernel_rfl) (fun _ _ _ h => h) (.inl ⟨by kernel_rfl, fun w' hw' => by go_simp⟩) HS.out ?_
          go_simp
          refine held_take 3 (.int .i64 kk) rfl (by kernel_rfl) (by kernel_rfl) (by kernel_rfl) (fun _ _ _ h => h) (.inl ⟨by kernel_rfl, fun w' hw' => by go_simp⟩) HS.out ?_
          go_simp
          refine held_take 4 (.int .i64 k) rfl (by kernel_rfl) (by kernel_rfl) (by kernel_rfl) (fun _ _ _ h => h) (.inl ⟨by kernel_rfl, fun w' hw' => by go_simp⟩) HS.out ?_
          go_simp
          refine held_take 5 (.bool false) rfl (by kernel_rfl) (by kernel_rfl) (by kernel_rfl) (fun _ _ _ h => h) (.inl ⟨by kernel_rfl, fun w' hw' => by go_simp⟩) HS.out ?_
          go_simp
          refine held_take 6 (.bool false) rfl (by kernel_rfl) (by kernel_rfl) (by kernel_rfl) (fun _ _ _ h => h) (.inl ⟨by kernel_rfl, fun w' hw' => by go_simp⟩) HS.out ?_
          go_simp
          refine held_take 7 (.bool false) rfl (by kernel_rfl) (by kernel_rfl) (by kernel_rfl) (fun _ _ _ h => h) (.inl ⟨by kernel_rfl, fun w' hw' => by go_simp⟩) HS.out ?_
          go_simp
          refine held_take 8 (.slice (some ⟨g, 0, none⟩) ts.length vc) rfl (by kernel_rfl) (by kernel_rfl) (by kernel_rfl) (fun _ _ _ h => h) (.inl ⟨by kernel_rfl, fun w' hw' => by go_simp⟩) HS.out ?_
          go_simp
          refine held_take 9 (.int .i64 kk) rfl (by kernel_rfl) (by kernel_rfl) (by kernel_rfl) (fun _ _ _ h => h) (.inl ⟨by kernel_rfl, fun w' hw' => by go_simp⟩) HS.out ?_
          go_simp
          refine held_take 10 (.pointer (some ⟨g, kk * 2, none⟩)) rfl (by kernel_rfl) (by kernel_rfl) (by kernel_rfl) (fun _ _ _ h => h) (.inl ⟨by kernel_rfl, fun w' hw' => by go_simp⟩) HS.out ?_
          go_simp
          refine held_take 11 (.pointer (some ⟨g, kk * 2 + 1, none⟩)) rfl (by kernel_rfl) (by kernel_rfl) (by kernel_rfl) (fun _ _ _ h => h) (.inl ⟨by kernel_rfl, fun w' hw' => by go_simp⟩) HS.out ?_
          go_simp
          refine held_take 12 (.string s) rfl (by kernel_rfl) (by kernel_rfl) (by kernel_rfl) (fun _ _ _ h => h) (.inl ⟨by kernel_rfl, fun w' hw' => by have h1 := hw'.1; go_simp⟩) HS.out ?_
          go_simp
          refine held_take 13 (.slice (some ⟨g, 0, none⟩) ts.length vc) rfl (by kernel_rfl) (by kernel_rfl) (by kernel_rfl) (fun _ _ _ h => h) (.inl ⟨by kernel_rfl, fun w' hw' => by go_simp⟩) HS.out ?_
          go_simp
          refine held_take 14 (.int .i64 k) rfl (by kernel_rfl) (by kernel_rfl) (by kernel_rfl) (fun _ _ _ h => h) (.inl ⟨by kernel_rfl, fun w' hw' => by go_simp⟩) HS.out ?_
          go_simp
          refine held_take 15 (.pointer (some ⟨g, k * 2, none⟩)) rfl (by kernel_rfl) (by kernel_rfl) (by kernel_rfl) (fun _ _ _ h => h) (.inl ⟨by kernel_rfl, fun w' hw' => by go_simp⟩) HS.out ?_
          go_simp
          refine held_take 16 (.pointer (some ⟨g, k * 2 + 1, none⟩)) rfl (by kernel_rfl) (by kernel_rfl) (by kernel_rfl) (fun _ _ _ h => h) (.inl ⟨by kernel_rfl, fun w' hw' => by go_simp⟩) HS.out ?_
          go_simp
          refine held_take 17 (.string s) rfl (by kernel_rfl) (by kernel_rfl) (by kernel_rfl) (fun _ _ _ h => h) (.inl ⟨by kernel_rfl, fun w' hw' => by have h1 := hw'.2; go_simp⟩) HS.out ?_
          go_simp
          refine held_take 18 (.bool false) rfl (by kernel_rfl) (by kernel_rfl) (by kernel_rfl) (fun _ _ _ h => h) (.inl ⟨by kernel_rfl, fun w' hw' => by go_simp⟩) HS.out ?_
          go_simp
          refine held_take 19 (.bool false) rfl (by kernel_rfl) (by kernel_rfl) (by kernel_rfl) (fun _ _ _ h => h) (.inl ⟨by kernel_rfl, fun w' hw' => by go_simp⟩) HS.out ?_
          go_simp
          refine held_done (by kernel_rfl) (NoPanic.normal ?_)
          go_wp2
          go_roundw
          case rel => exact ⟨k + 1, by omega, by go_num, HC5.out⟩
          case measure => simp [intOf]; omega
        · obtain rfl : k = ts.length := by omega
          have hni : ¬ (ts.length : Int) < (ts.length : Int) := by omega
          have HO6 : Hid (OwnE wr w.heap.size 30 (.slice va ts.length vc) ts) := o5
          have HC6 : Hid (Chg 0 0 w wr) := HC4.out.trans hch
          have hN := specEncDir_calls wr Hcnt.out (o5.view (by omega) (hi := wr.heap.size) (fun g hg => (o5.lt g hg).2))
          clear o5 hch HO4 HC4
          go_wp2_with fail
          refine hN.mono ?_
          rintro e w6 ⟨ev, rfl, oe, c6⟩
          obtain ⟨ea, ec, rfl⟩ : ∃ ea ec, ev = .slice ea (encDir ts).length ec := by
            rcases oe.2 with ⟨h1, h0⟩ | ⟨g, cap, cur, hv, _⟩
            · rw [h0]; exact ⟨_, _, h1⟩
            · exact ⟨_, _, hv⟩
          have HO7 : Hid (OwnE w6 w.heap.size 30 (.slice va ts.length vc) ts) := HO6.out.chg c6 (by intro g _; omega)
          have HC7 : Hid (Chg 0 0 w w6) := HC6.out.trans c6
          have hel := encDir_len ts
          by_cases he : (encDir ts).length = 0
          · have he' : (((encDir ts).length : Int) == 0) = true := by rw [he]; rfl
            have o7 := HO7.out
            have hN2 := implDirFind_calls w6 nsN (by omega) Hz.out (by decide) (o7.view (by omega) (hi := w6.heap.size) (fun g hg => (o7.lt g hg).2))
            rw [find_never HAll.out] at hN2
            have hnsN : nsN = ⟨#[110, 111, 32, 115, 117, 99, 104, 32, 110, 97, 109, 101, 33]⟩ := rfl
            rw [hnsN] at hN2
            clear hN oe c6 o7 he hel hnsN
            generalize (encDir ts).length = el at *
            go_wp2_with fail
            refine hN2.mono ?_
            rintro e w7 ⟨rfl, c7⟩
            have HB7 : Hid (Below w.heap.size w w7) := (HC7.out.trans c7).below (by omega)
            clear hN2 c7
            go_wp2
            go_ret
            exact ⟨rfl, HB7.out⟩
          · have he' : (((encDir ts).length : Int) == 0) = false := by rw [beq_eq_false_iff_ne]; omega
            obtain ⟨hap, hpos⟩ := encDir_some he
            have HAp : Hid (Apart ts) := hap
            have hN2 := lwAt_calls w6 0 ts.length (by omega) (by omega) hM (hm.chg HC7.out (by omega)) hml
            clear hN oe c6 he hel hap
            generalize (encDir ts).length = el at *
            go_wp2_with fail
            refine hN2.mono ?_
            rintro e w7 ⟨⟨a, rfl, ha1, ha2⟩, c7⟩
            have ha : a < ts.length := by
              by_cases h1' : 1 < ts.length
              · exact ha1 h1'
              · rw [ha2 (by omega)]; exact hpos
            have HO8 : Hid (OwnE w7 w.heap.size 30 (.slice va ts.length vc) ts) := HO7.out.chg (c7.chg 0 0) (by intro g _; omega)
            have HC8 : Hid (Chg 0 0 w w7) := HC7.out.trans (c7.chg 0 0)
            clear hN2 c7 ha1 ha2 HO7 HC7 HO6 HC6
            obtain ⟨g, rfl⟩ : ∃ g, va = some ⟨g, 0, none⟩ := by
              rcases HO8.out.2 with ⟨_, h0⟩ | ⟨g, cap, cur, hv, _⟩
              · omega
              · injection hv with hv1 _ _; exact ⟨g, hv1⟩
            have CA : Chg 0 0 w7 (w7.alloc (.cells #[] 30)) := Chg.alloc (Chg.refl 0 0 w7) _
            have HOA : Hid (OwnE (w7.alloc (.cells #[] 30)) w7.heap.size 30 (.slice (some ⟨w7.heap.size, 0, none⟩) 0 0) []) := OwnE.nil w7 _
            have HVA : Hid (OwnE (w7.alloc (.cells #[] 30)) w.heap.size 30 (.slice (some ⟨g, 0, none⟩) ts.length vc) ts) := HO8.out.chg CA (by intro g _; omega)
            have sA : Hid (w7.heap.size ≤ (w7.alloc (.cells #[] 30)).heap.size) := by show _ ≤ _; simp
            have HCA : Hid (Chg 0 0 w (w7.alloc (.cells #[] 30))) := HC8.out.trans CA
            have hs7 := HC8.out.size
            have hgl7 := (HO8.out.lt g rfl).2
            clear CA
            go_wp2_with (at_builtin; refine wpList_copyE rfl (.tmp 102) (.tmp 103) rfl w7.heap.size _ _ ts rfl HOA.out rfl HVA.out (by omega) sA.out ?_)
            intro v9 w9 o9 c9
            have HC9 : Hid (Chg 0 0 w w9) := HCA.out.step c9 (by omega)
            have HO9 : Hid (OwnE w9 w.heap.size 30 (.slice (some ⟨g, 0, none⟩) ts.length vc) ts) := HVA.out.chg c9 (fun g' hg => by have h8 := (HO8.out.lt g' hg).2; omega)
            have hN3 := implDirRemove_calls w9 (a : Int) (by omega) (o9.view (by omega) (hi := w9.heap.size) (fun g hg => (o9.lt g hg).2))
            clear o9 c9 HOA HVA sA HCA HO8 HC8
            go_wp2_with fail
            refine hN3.mono ?_
            rintro e wA ⟨lv, rfl, ol, cA⟩
            have HOT : Hid (OwnE wA w.heap.size 30 (.slice (some ⟨g, 0, none⟩) ts.length vc) ts) := HO9.out.chg cA (by intro g _; omega)
            have HCT : Hid (Chg 0 0 w wA) := HC9.out.trans cA
            have hll := remD_len ts ha
            obtain ⟨la, lc, hlv⟩ := ol.slE
            rw [hll] at hlv
            subst hlv
            have HOL : Hid (OwnE wA w9.heap.size 30 (.slice la (ts.length - 1) lc) (remD ts (a : Int))) := ol
            clear hN3 ol cA HO9 HC9
            have hgone : findD (remD ts (a : Int)) (ts.getD a Ent.none).2 = -1 := rem_gone HAp.out ha
            have hzL : ∀ i, i < (remD ts (a : Int)).length → ((remD ts (a : Int)).getD i Ent.none).2.size ≤ 1048576 := fun i hi => by
              rw [hll] at hi; rw [remD_get ts ha hi]; exact Hz.out _ (sg_ne hi).2
            have HzL : Hid (∀ i, i < (remD ts (a : Int)).length → ((remD ts (a : Int)).getD i Ent.none).2.size ≤ 1048576) := hzL
            have Hll : Hid ((remD ts (a : Int)).length = ts.length - 1) := hll
            have oT := HOT.out
            have vT := oT.view (by omega) (hi := wA.heap.size) (fun g hg => (oT.lt g hg).2)
            obtain ⟨_, _, e5, _, _, h5⟩ := id vT
            cases e5
            obtain ⟨b5, off5, e5, _, _, hce⟩ := h5.resolve_left (fun h => by rw [h] at ha; exact absurd ha (Nat.not_lt_zero a))
            cases e5
            have d1 := (hce a ha).2
            rw [Nat.zero_add] at d1
            have oL := HOL.out
            have hN4 := implDirFind_calls wA (ts.getD a Ent.none).2 (by omega) hzL (Hz.out a ha) (oL.view (by omega) (hi := wA.heap.size) (fun g hg => (oL.lt g hg).2))
            rw [hgone] at hN4
            obtain ⟨sa, hsa⟩ : ∃ sa, sa = (ts.getD a Ent.none).2 := ⟨_, rfl⟩
            rw [← hsa] at hN4 d1
            have hai : (a : Int) < (ts.length : Int) := by omega
            have hai0 : ¬ (a : Int) < 0 := by omega
            have hwn : IntKind.i64.wrap ((ts.length : Int) - 1) = (ts.length : Int) - 1 := by rw [IntKind.wrap_i64]; omega
            obtain ⟨m, hm⟩ : ∃ m, m = ts.length - 1 := ⟨_, rfl⟩
            rw [← hm] at hN4 HOL
            have hmn : ((m : Int) != (ts.length : Int) - 1) = false := by rw [bne_eq_false_iff_eq]; omega
            have Hm : Hid (m = ts.length - 1) := hm
            have hml : m < 1000 := by omega
            rw [← hm]
            clear hm hsa hll hzL oT vT h5 hce oL hgone
            go_wp2_with fail
            refine hN4.mono ?_
            rintro e wB ⟨rfl, cB⟩
            have oT2 := HOT.out.chg cB (by intro g _; omega)
            have hN5 := implDirRemove_calls wB (ts.length : Int) (by omega) (oT2.view (by omega) (hi := wB.heap.size) (fun g hg => (oT2.lt g hg).2))
            rw [remD_end] at hN5
            have HOT2 : Hid (OwnE wB w.heap.size 30 (.slice (some ⟨g, 0, none⟩) ts.length vc) ts) := oT2
            have HOL2 : Hid (OwnE wB w9.heap.size 30 (.slice la m lc) (remD ts (a : Int))) := HOL.out.chg cB (by intro g _; omega)
            have HCT2 : Hid (Chg 0 0 w wB) := HCT.out.trans cB
            clear hN4 cB oT2 HOT HOL HCT d1
            go_wp2_with fail
            refine hN5.mono ?_
            rintro e wC ⟨rv, rfl, oR, cC⟩
            obtain ⟨ra, rc, rfl⟩ := oR.slE
            have HOT3 : Hid (OwnE wC w.heap.size 30 (.slice (some ⟨g, 0, none⟩) ts.length vc) ts) := HOT2.out.chg cC (by intro g _; omega)
            have HOL3 : Hid (OwnE wC w9.heap.size 30 (.slice la m lc) (remD ts (a : Int))) := HOL2.out.chg cC (by intro g _; omega)
            have HC3 : Hid (Chg 0 0 w wC) := HCT2.out.trans cC
            clear hN5 oR cC HOT2 HOL2 HCT2
            go_wp2
            go_loopw [14] (fun x wr => ∃ k : Nat, k ≤ ts.length ∧ x = .int .i64 k ∧ Chg 0 0 wC wr) (fun x _ => ts.length - (intOf x).toNat)
            case atStart => exact ⟨0, Nat.zero_le _, rfl, Chg.refl _ _ _⟩
            case round =>
              obtain ⟨k, hk, rfl, hch⟩ := hrel
              have oT := HOT3.out.chg hch (by intro g _; omega)
              have oL := HOL3.out.chg hch (by intro g _; omega)
              by_cases hlt : k < ts.length
              · have hi : (k : Int) < (ts.length : Int) := by omega
                have vT := oT.view (by omega) (hi := wr.heap.size) (fun g hg => (oT.lt g hg).2)
                obtain ⟨_, _, e5, _, _, h5⟩ := id vT
                cases e5
                obtain ⟨b5, off5, e5, _, _, hce⟩ := h5.resolve_left (fun h => by rw [h] at hlt; exact absurd hlt (Nat.not_lt_zero k))
                cases e5
                have d0 := (hce k hlt).1
                have d1 := (hce k hlt).2
                rw [Nat.zero_add] at d0 d1
                have hN6 := implDirFind_calls wr (ts.getD k Ent.none).2 (by have := Hll.out; omega) HzL.out (Hz.out k hlt) (oL.view (by have := Hll.out; omega) (hi := wr.heap.size) (fun g hg => (oL.lt g hg).2))
                by_cases hka : k = a
                · have hkn : ((k : Int) != (a : Int)) = false := by rw [hka]; simp
                  generalize findD (remD ts (a : Int)) (ts.getD k Ent.none).2 = fd at *
                  generalize (ts.getD k Ent.none).2 = sk at *
                  clear d0 oT oL vT h5 hce hka
                  go_wp2_with fail
                  refine hN6.mono ?_
                  rintro e wD ⟨rfl, cD⟩
                  have HCk : Hid (Chg 0 0 wC wD.drew) := (hch.trans cD).drew
                  have HS : Hid ((fun _ : World => True) wD.drew) := True.intro
                  clear hN6 cD hch d1
                  go_wp2
                  refine held_region (fun _ : World => True) (by kernel_rfl) ?_
                  generalize wD.drew = x1 at *
                  refine held_take 0 (.int .i64 k) rfl (by kernel_rfl) (by kernel_rfl) (by kernel_rfl) (fun _ _ _ h => h) (.inl ⟨by kernel_rfl, fun w' hw' => by go_simp⟩) HS.out ?_
                  go_simp
                  refine held_take 1 (.int .i64 a) rfl (by kernel_rfl) (by kernel_rfl) (by kernel_rfl) (fun _ _ _ h => h) (.inl ⟨by kernel_rfl, fun w' hw' => by go_simp⟩) HS.out ?_
                  go_simp
                  refine held_take 2 (.bool false) rfl (by kernel_rfl) (by kernel_rfl) (by kernel_rfl) (fun _ _ _ h => h) (.inl ⟨by kernel_rfl, fun w' hw' => by go_simp⟩) HS.out ?_
                  go_simp
                  refine held_take 3 (.bool false) rfl (by kernel_rfl) (by kernel_rfl) (by kernel_rfl) (fun _ _ _ h => h) (.inl ⟨by kernel_rfl, fun w' hw' => by go_simp⟩) HS.out ?_
                  go_simp
                  refine held_take 4 (undef) rfl (by kernel_rfl) (by kernel_rfl) (by kernel_rfl) (fun _ _ _ h => h) (.inr ⟨by kernel_rfl, rfl⟩) HS.out ?_
                  go_simp
                  refine held_take 5 (undef) rfl (by kernel_rfl) (by kernel_rfl) (by kernel_rfl) (fun _ _ _ h => h) (.inr ⟨by kernel_rfl, rfl⟩) HS.out ?_
                  go_simp
                  refine held_take 6 (undef) rfl (by kernel_rfl) (by kernel_rfl) (by kernel_rfl) (fun _ _ _ h => h) (.inr ⟨by kernel_rfl, rfl⟩) HS.out ?_
                  go_simp
                  refine held_take 7 (undef) rfl (by kernel_rfl) (by kernel_rfl) (by kernel_rfl) (fun _ _ _ h => h) (.inr ⟨by kernel_rfl, rfl⟩) HS.out ?_
                  go_simp
                  refine held_take 8 (undef) rfl (by kernel_rfl) (by kernel_rfl) (by kernel_rfl) (fun _ _ _ h => h) (.inr ⟨by kernel_rfl, rfl⟩) HS.out ?_
                  go_simp
                  refine held_take 9 (undef) rfl (by kernel_rfl) (by kernel_rfl) (by kernel_rfl) (fun _ _ _ h => h) (.inr ⟨by kernel_rfl, rfl⟩) HS.out ?_
                  go_simp
                  refine held_take 10 (undef) rfl (by kernel_rfl) (by kernel_rfl) (by kernel_rfl) (fun _ _ _ h => h) (.inr ⟨by kernel_rfl, rfl⟩) HS.out ?_
                  go_simp
                  refine held_take 11 (undef) rfl (by kernel_rfl) (by kernel_rfl) (by kernel_rfl) (fun _ _ _ h => h) (.inr ⟨by kernel_rfl, rfl⟩) HS.out ?_
                  go_simp
                  refine held_take 12 (undef) rfl (by kernel_rfl) (by kernel_rfl) (by kernel_rfl) (fun _ _ _ h => h) (.inr ⟨by kernel_rfl, rfl⟩) HS.out ?_
                  go_simp
                  refine held_take 13 (undef) rfl (by kernel_rfl) (by kernel_rfl) (by kernel_rfl) (fun _ _ _ h => h) (.inr ⟨by kernel_rfl, rfl⟩) HS.out ?_
                  go_simp
                  refine held_take 14 (undef) rfl (by kernel_rfl) (by kernel_rfl) (by kernel_rfl) (fun _ _ _ h => h) (.inr ⟨by kernel_rfl, rfl⟩) HS.out ?_
                  go_simp
                  refine held_take 15 (undef) rfl (by kernel_rfl) (by kernel_rfl) (by kernel_rfl) (fun _ _ _ h => h) (.inr ⟨by kernel_rfl, rfl⟩) HS.out ?_
                  go_simp
                  refine held_take 16 (undef) rfl (by kernel_rfl) (by kernel_rfl) (by kernel_rfl) (fun _ _ _ h => h) (.inr ⟨by kernel_rfl, rfl⟩) HS.out ?_
                  go_simp
                  refine held_take 17 (undef) rfl (by kernel_rfl) (by kernel_rfl) (by kernel_rfl) (fun _ _ _ h => h) (.inr ⟨by kernel_rfl, rfl⟩) HS.out ?_
                  go_simp
                  refine held_take 18 (undef) rfl (by kernel_rfl) (by kernel_rfl) (by kernel_rfl) (fun _ _ _ h => h) (.inr ⟨by kernel_rfl, rfl⟩) HS.out ?_
                  go_simp
                  refine held_take 19 (undef) rfl (by kernel_rfl) (by kernel_rfl) (by kernel_rfl) (fun _ _ _ h => h) (.inr ⟨by kernel_rfl, rfl⟩) HS.out ?_
                  go_simp
                  refine held_take 20 (undef) rfl (by kernel_rfl) (by kernel_rfl) (by kernel_rfl) (fun _ _ _ h => h) (.inr ⟨by kernel_rfl, rfl⟩) HS.out ?_
                  go_simp
                  refine held_take 21 (undef) rfl (by kernel_rfl) (by kernel_rfl) (by kernel_rfl) (fun _ _ _ h => h) (.inr ⟨by kernel_rfl, rfl⟩) HS.out ?_
                  go_simp
                  refine held_take 22 (undef) rfl (by kernel_rfl) (by kernel_rfl) (by kernel_rfl) (fun _ _ _ h => h) (.inr ⟨by kernel_rfl, rfl⟩) HS.out ?_
                  go_simp
                  refine held_take 23 (.bool false) rfl (by kernel_rfl) (by kernel_rfl) (by kernel_rfl) (fun _ _ _ h => h) (.inl ⟨by kernel_rfl, fun w' hw' => by go_simp⟩) HS.out ?_
                  go_simp
                  refine held_done (by kernel_rfl) (NoPanic.normal ?_)
                  go_wp2
                  go_roundw
                  case rel => exact ⟨k + 1, by omega, by go_num, HCk.out⟩
                  case measure => simp [intOf]; omega
                · obtain ⟨kk, hf, hkk, hget⟩ := rem_kept HAp.out ha hlt hka
                  have hf' : findD (remD ts (a : Int)) (ts.getD k Ent.none).2 = (kk : Int) := hf
                  rw [hf'] at hN6
                  have vL := oL.view (by have := Hll.out; omega) (hi := wr.heap.size) (fun g hg => (oL.lt g hg).2)
                  obtain ⟨_, _, e6, _, _, h6⟩ := id vL
                  injection e6 with e6a e6b e6c
                  subst e6a e6c
                  obtain ⟨b6, off6, e6, _, _, hce6⟩ := h6.resolve_left (fun h => by have := Hll.out; rw [h] at this; simp at this; omega)
                  subst e6
                  have f0 := (hce6 kk (by have := Hll.out; omega)).1
                  have f1 := (hce6 kk (by have := Hll.out; omega)).2
                  rw [hget] at f0 f1
                  have hkm : (kk : Int) < (m : Int) := by have := Hm.out; omega
                  have hkm2 : ¬ (m : Int) ≤ (kk : Int) := by omega
                  have hkmN : kk < m := by omega
                  have hk0 : ¬ (kk : Int) < 0 := by omega
                  have hkn : ((k : Int) != (a : Int)) = true := by rw [bne_iff_ne]; omega
                  generalize (ts.getD k Ent.none).2 = sk at *
                  generalize (ts.getD k Ent.none).1 = qk at *
                  clear oT oL vT h5 hce vL h6 hce6 hf hf' hget e6b hka
                  go_wp2_with fail
                  refine hN6.mono ?_
                  rintro e wD ⟨rfl, cD⟩
                  have HCk : Hid (Chg 0 0 wC wD.drew) := (hch.trans cD).drew
                  have HS : Hid ((fun w' : World => (w'.cell? ⟨g, k * 2, none⟩ = some (.int .i64 qk) ∧ w'.cell? ⟨g, k * 2 + 1, none⟩ = some (.string sk)) ∧ (w'.cell? ⟨b6, off6 + kk * 2, none⟩ = some (.int .i64 qk) ∧ w'.cell? ⟨b6, off6 + kk * 2 + 1, none⟩ = some (.string sk))) wD.drew) := ⟨⟨cD.cell d0 (by omega), cD.cell d1 (by omega)⟩, ⟨cD.cell f0 (by omega), cD.cell f1 (by omega)⟩⟩
                  clear hN6 cD hch d0 d1 f0 f1
                  go_wp2
                  refine held_region (fun w' : World => (w'.cell? ⟨g, k * 2, none⟩ = some (.int .i64 qk) ∧ w'.cell? ⟨g, k * 2 + 1, none⟩ = some (.string sk)) ∧ (w'.cell? ⟨b6, off6 + kk * 2, none⟩ = some (.int .i64 qk) ∧ w'.cell? ⟨b6, off6 + kk * 2 + 1, none⟩ = some (.string sk))) (by kernel_rfl) ?_
                  generalize wD.drew = x1 at *
                  refine held_take 0 (.int .i64 k) rfl (by kernel_rfl) (by kernel_rfl) (by kernel_rfl) (fun _ _ _ h => h) (.inl ⟨by kernel_rfl, fun w' hw' => by go_simp⟩) HS.out ?_
                  go_simp
                  refine held_take 1 (.int .i64 a) rfl (by kernel_rfl) (by kernel_rfl) (by kernel_rfl) (fun _ _ _ h => h) (.inl ⟨by kernel_rfl, fun w' hw' => by go_simp⟩) HS.out ?_
                  go_simp
                  refine held_take 2 (.bool true) rfl (by kernel_rfl) (by kernel_rfl) (by kernel_rfl) (fun _ _ _ h => h) (.inl ⟨by kernel_rfl, fun w' hw' => by go_simp⟩) HS.out ?_
                  go_simp
                  refine held_take 3 (.bool true) rfl (by kernel_rfl) (by kernel_rfl) (by kernel_rfl) (fun _ _ _ h => h) (.inl ⟨by kernel_rfl, fun w' hw' => by go_simp⟩) HS.out ?_
                  go_simp
                  refine held_take 4 (.int .i64 kk) rfl (by kernel_rfl) (by kernel_rfl) (by kernel_rfl) (fun _ _ _ h => h) (.inl ⟨by kernel_rfl, fun w' hw' => by go_simp⟩) HS.out ?_
                  go_simp
                  refine held_take 5 (.bool false) rfl (by kernel_rfl) (by kernel_rfl) (by kernel_rfl) (fun _ _ _ h => h) (.inl ⟨by kernel_rfl, fun w' hw' => by go_simp⟩) HS.out ?_
                  go_simp
                  refine held_take 6 (.bool false) rfl (by kernel_rfl) (by kernel_rfl) (by kernel_rfl) (fun _ _ _ h => h) (.inl ⟨by kernel_rfl, fun w' hw' => by go_simp⟩) HS.out ?_
                  go_simp
                  refine held_take 7 (.int .i64 kk) rfl (by kernel_rfl) (by kernel_rfl) (by kernel_rfl) (fun _ _ _ h => h) (.inl ⟨by kernel_rfl, fun w' hw' => by go_simp⟩) HS.out ?_
                  go_simp
                  refine held_take 8 (.slice (some ⟨b6, off6, none⟩) m lc) rfl (by kernel_rfl) (by kernel_rfl) (by kernel_rfl) (fun _ _ _ h => h) (.inl ⟨by kernel_rfl, fun w' hw' => by go_simp⟩) HS.out ?_
                  go_simp
                  refine held_take 9 (.int .i64 m) rfl (by kernel_rfl) (by kernel_rfl) (by kernel_rfl) (fun _ _ _ h => h) (.inl ⟨by kernel_rfl, fun w' hw' => by go_simp⟩) HS.out ?_
                  go_simp
                  refine held_take 10 (.bool false) rfl (by kernel_rfl) (by kernel_rfl) (by kernel_rfl) (fun _ _ _ h => h) (.inl ⟨by kernel_rfl, fun w' hw' => by go_simp⟩) HS.out ?_
                  go_simp
                  refine held_take 11 (.bool false) rfl (by kernel_rfl) (by kernel_rfl) (by kernel_rfl) (fun _ _ _ h => h) (.inl ⟨by kernel_rfl, fun w' hw' => by go_simp⟩) HS.out ?_
                  go_simp
                  refine held_take 12 (.bool false) rfl (by kernel_rfl) (by kernel_rfl) (by kernel_rfl) (fun _ _ _ h => h) (.inl ⟨by kernel_rfl, fun w' hw' => by go_simp⟩) HS.out ?_
                  go_simp
                  refine held_take 13 (.slice (some ⟨b6, off6, none⟩) m lc) rfl (by kernel_rfl) (by kernel_rfl) (by kernel_rfl) (fun _ _ _ h => h) (.inl ⟨by kernel_rfl, fun w' hw' => by go_simp⟩) HS.out ?_
                  go_simp
                  refine held_take 14 (.int .i64 kk) rfl (by kernel_rfl) (by kernel_rfl) (by kernel_rfl) (fun _ _ _ h => h) (.inl ⟨by kernel_rfl, fun w' hw' => by go_simp⟩) HS.out ?_
                  go_simp
                  refine held_take 15 (.pointer (some ⟨b6, off6 + kk * 2, none⟩)) rfl (by kernel_rfl) (by kernel_rfl) (by kernel_rfl) (fun _ _ _ h => h) (.inl ⟨by kernel_rfl, fun w' hw' => by go_simp⟩) HS.out ?_
                  go_simp
                  refine held_take 16 (.agg #[.int .i64 qk, .string sk]) rfl (by kernel_rfl) (by kernel_rfl) (by kernel_rfl) (fun _ _ _ h => h) (.inl ⟨by kernel_rfl, fun w' hw' => by have h1 := hw'.2.1; have h2 := hw'.2.2; go_simp⟩) HS.out ?_
                  go_simp
                  refine held_take 17 (.slice (some ⟨g, 0, none⟩) ts.length vc) rfl (by kernel_rfl) (by kernel_rfl) (by kernel_rfl) (fun _ _ _ h => h) (.inl ⟨by kernel_rfl, fun w' hw' => by go_simp⟩) HS.out ?_
                  go_simp
                  refine held_take 18 (.int .i64 k) rfl (by kernel_rfl) (by kernel_rfl) (by kernel_rfl) (fun _ _ _ h => h) (.inl ⟨by kernel_rfl, fun w' hw' => by go_simp⟩) HS.out ?_
                  go_simp
                  refine held_take 19 (.pointer (some ⟨g, k * 2, none⟩)) rfl (by kernel_rfl) (by kernel_rfl) (by kernel_rfl) (fun _ _ _ h => h) (.inl ⟨by kernel_rfl, fun w' hw' => by go_simp⟩) HS.out ?_
                  go_simp
                  refine held_take 20 (.agg #[.int .i64 qk, .string sk]) rfl (by kernel_rfl) (by kernel_rfl) (by kernel_rfl) (fun _ _ _ h => h) (.inl ⟨by kernel_rfl, fun w' hw' => by have h1 := hw'.1.1; have h2 := hw'.1.2; go_simp⟩) HS.out ?_
                  go_simp
                  refine held_take 21 (.bool false) rfl (by kernel_rfl) (by kernel_rfl) (by kernel_rfl) (fun _ _ _ h => h) (.inl ⟨by kernel_rfl, fun w' hw' => by go_simp⟩) HS.out ?_
                  go_simp
                  refine held_take 22 (.bool false) rfl (by kernel_rfl) (by kernel_rfl) (by kernel_rfl) (fun _ _ _ h => h) (.inl ⟨by kernel_rfl, fun w' hw' => by go_simp⟩) HS.out ?_
                  go_simp
                  refine held_take 23 (.bool false) rfl (by kernel_rfl) (by kernel_rfl) (by kernel_rfl) (fun _ _ _ h => h) (.inl ⟨by kernel_rfl, fun w' hw' => by go_simp⟩) HS.out ?_
                  go_simp
                  refine held_done (by kernel_rfl) (NoPanic.normal ?_)
                  go_wp2
                  go_roundw
                  case rel => exact ⟨k + 1, by omega, by go_num, HCk.out⟩
                  case measure => simp [intOf]; omega
              · obtain rfl : k = ts.length := by omega
                have hni : ¬ (ts.length : Int) < (ts.length : Int) := by omega
                have HB8 : Hid (Below w.heap.size w wr) := (HC3.out.trans hch).below (by omega)
                clear oT oL hch HOT3 HOL3
                go_wp2
                go_ret
                exact ⟨rfl, HB8.out⟩

end Go.Proofs.Ytkcijpmikgohcaa
