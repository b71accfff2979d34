/- Several short texts in one: LawFnLine, LaidSyn. -/
import Derived.Test.YtacfkgfemmgpkaaGreatDoorDrawRun
import Derived.Test.YtacfkgfemmgpkaaGreatDoorLwUsedAll
import Derived.Test.YtacfkgfemmgpkaaGreatDoorLwLine2
import Derived.Test.YtacfkgfemmgpkaaGreatDoorLwMath
import Derived.Test.YtacfkgfemmgpkaaGreatDoorOpenB
import Derived.Test.YtacfkgfemmgpkaaGreatDoorRows
import Derived.ChangeSame
import Derived.ChangeVars
import Derived.OpenShut
import Derived.OpenVars
import Derived.JoinedOf
import Derived.RowKitTokens
import Derived.LaidLaws
import Derived.LaidHandle
import Derived.Stop.LaidErr
import Derived.Stop.Joined
namespace Go.Proofs.YtacfkgfemmgpkaaGreatDoor
open Go.ChangeShapes Go.WideShapes Go.ChangeAt Go.RowKit

theorem field_line (w : World) (a : Int) (v1 v2 v3 v4 v5 v6 v7 v8 : Value) : (Instr.field 35 (.agg #[.int .i64 a, v1, v2, v3, v4, v5, v6, v7, v8]) 0).run Tryz.prog w = .ok (.int .i64 a) w := by
  simp [Instr.field, run_underlying Tryz.underlying35, asAgg, part, isAgg, run_underlying Tryz.underlying2]

set_option maxRecDepth 20000 in
set_option maxHeartbeats 8000000 in
theorem lawFnLine_walk (w : World) {hi : Nat} {a m : Value} {xs ms : List Int} (hBx : Byt xs) (hBm : Byt ms) (h1 : View w 0 hi .u8 a xs) (h2 : View w 0 hi .u8 m ms) (hhi : hi ≤ w.heap.size) (hR : Rdy w) :
    Calls Tryz.prog 3 #[a, m] w fun e w' => e = .returned (.bool true) ∧ Below w.heap.size w w' := by
  have V1 : Hid (View w 0 hi .u8 a xs) := h1
  have V2 : Hid (View w 0 hi .u8 m ms) := h2
  have HRd : Hid (Rdy w) := hR
  obtain ⟨ao, ac, rfl, hl1, _, _⟩ := h1
  obtain ⟨mo, mc, rfl, hl2, _, _⟩ := h2
  clear hR
  by_cases hx : xs.length ≤ 1048576
  case neg =>
    go_enter Tryz.func3, Tryz.ntmps3
    go_wp2
    go_ret
    exact ⟨rfl, (Chg.refl 0 0 w).below (by omega)⟩
  by_cases hm : ms.length ≤ 1048576
  case neg =>
    go_enter Tryz.func3, Tryz.ntmps3
    go_wp2
    go_ret
    exact ⟨rfl, (Chg.refl 0 0 w).below (by omega)⟩
  go_enter Tryz.func3, Tryz.ntmps3
  go_wp2_with fail
  refine (plainRun_calls w hBx hx V1.out hhi).mono ?_
  rintro e w1 ⟨ga, gb, gc, g, cp, cs, rfl, ho, hok, hln, c1⟩
  have c2 : Chg 0 0 w1 (w1.alloc (.cells #[.int .i64 ga, .int .i64 gb, .int .i64 gc] 24)) := Chg.alloc (Chg.refl 0 0 _) _
  have HO : Hid (OwnC (w1.alloc (.cells #[.int .i64 ga, .int .i64 gb, .int .i64 gc] 24)) w.heap.size (.slice (some ⟨g, 0, none⟩) cs.length cp) cs) := ho.chg c2 (by omega)
  have HC : Hid (Chg 0 0 w (w1.alloc (.cells #[.int .i64 ga, .int .i64 gb, .int .i64 gc] 24))) := c1.trans c2
  have HK : Hid (∀ s ∈ cs, OkC s) := hok
  clear ho hok c1 c2
  go_wp2
  generalize w1.alloc (.cells #[.int .i64 ga, .int .i64 gb, .int .i64 gc] 24) = w2 at *
  go_loopw [7, 8, 9, 10, 11, 12] (fun x _ _ _ _ _ wr => ∃ k : Nat, k ≤ 60 ∧ x = .int .i64 k ∧ Chg 0 0 w2 wr) (fun x _ _ _ _ _ _ => 61 - (RowKit.intOf x).toNat)
  case atStart => exact ⟨0, by omega, rfl, Chg.refl _ _ _⟩
  case round =>
    obtain ⟨k, hk, rfl, hch⟩ := hrel
    have HD : Hid (Chg 0 0 w2 wr) := hch
    by_cases hkn : k < cs.length
    case neg =>
      have hi1 : ¬ ((k : Int) < (cs.length : Int)) := by omega
      have hlA := lwAt_calls wr 0 99 (by omega) (by omega) hBm (V2.out.chg (HC.out.trans HD.out) (by omega)) hm
      go_wp2_with fail
      refine hlA.mono ?_
      rintro e w8 ⟨⟨r, rfl, hr1, _⟩, hsame⟩
      replace hr1 := hr1 (by omega)
      have HD8 : Hid (Chg 0 0 w2 w8) := HD.out.trans (hsame.chg 0 0)
      clear hlA hsame
      obtain ⟨n, hn⟩ : ∃ n : Int, n = 1 + (r : Int) := ⟨_, rfl⟩
      have hn0 : 1 ≤ n := by omega
      have hn1 : n ≤ 99 := by omega
      have en : IntKind.i64.wrap (-n) = -n := by rw [IntKind.wrap_i64]; omega
      have hS := lwSay_calls (w8.alloc (.cells #[.int .i64 n, .int .i64 0, .int .i64 (-n)] 2)) ⟨#[97, 114, 109]⟩ [n, 0, -n] (by simp) (by decide) (by intro x hx; simp only [List.mem_cons, List.not_mem_nil, or_false] at hx; rcases hx with rfl | rfl | rfl <;> omega) (by intro x hx; simp only [List.mem_cons, List.not_mem_nil, or_false] at hx; rcases hx with rfl | rfl | rfl <;> omega) (view_i3 w8 n 0 (-n))
      have hAl := arm_line n hn0 hn1
      rw [← say_3] at hAl
      have hsz := say_size ⟨#[97, 114, 109]⟩ [n, 0, -n] (by intro x hx; simp only [List.mem_cons, List.not_mem_nil, or_false] at hx; rcases hx with rfl | rfl | rfl <;> omega) 3 (by simp)
      rw [show [n, 0, -n].take 3 = [n, 0, -n] from rfl] at hsz
      have hsz2 : (say ⟨#[97, 114, 109]⟩ [n, 0, -n]).size ≤ 1000 := by have e1 : (⟨#[97, 114, 109]⟩ : ByteArray).size = 3 := rfl; omega
      generalize say ⟨#[97, 114, 109]⟩ [n, 0, -n] = s at *
      have HD9 : Hid (Chg 0 0 w2 (w8.alloc (.cells #[.int .i64 n, .int .i64 0, .int .i64 (-n)] 2))) := HD8.out.alloc _
      clear hsz
      go_upto_region 19 with fail
      rw [← hn]
      clear hn hr1
      go_wp2_with fail
      generalize w8.alloc (.cells #[.int .i64 n, .int .i64 0, .int .i64 (-n)] 2) = w9 at *
      refine hS.mono ?_
      rintro e w10 ⟨rfl, c10⟩
      have HD10 : Hid (Chg 0 0 w2 w10) := HD9.out.trans c10
      have hcv := text_conv w10 s
      have hP := parseText_calls w10 s (by omega) (HRd.out.chg (HC.out.trans HD10.out))
      rw [hAl] at hP
      clear c10 hS hAl
      go_wp2_with fail
      refine hP.mono ?_
      rintro e w11 ⟨pa, pc, rfl, hown, c11⟩
      obtain ⟨gn, rfl⟩ : ∃ gn, pa = some ⟨gn, 0, none⟩ := by
        unfold OwnN at hown
        rcases hown.2 with ⟨_, h0⟩ | ⟨gn, cap, cur, e, _⟩
        · simp at h0
        · simp only [Value.slice.injEq] at e; exact ⟨gn, e.1⟩
      have HD11 : Hid (Chg 0 0 w2 w11) := HD10.out.trans c11
      have ho3 : w11.ownsRow w10.heap.size 2 1 (.slice (some ⟨gn, 0, none⟩) 3 pc) 3 [.int .i64 n, .int .i64 0, .int .i64 (-n)] := hown
      have q0 : w11.cell? ⟨gn, 0, none⟩ = some (.int .i64 n) := World.ownsRow.cellAt ho3 0 (by omega)
      have q1 : w11.cell? ⟨gn, 1, none⟩ = some (.int .i64 0) := World.ownsRow.cellAt ho3 1 (by omega)
      have q2 : w11.cell? ⟨gn, 2, none⟩ = some (.int .i64 (-n)) := World.ownsRow.cellAt ho3 2 (by omega)
      have hgn : gn < w11.heap.size := lt_of_cell q0
      have HE : Hid (Chg 0 0 w (w11.alloc (.cells #[.int .i64 4, .int .i64 0, .string ⟨#[]⟩, .string ⟨#[]⟩, .int .i64 0, .int .i64 0, .int .i64 0, .string ⟨#[]⟩, .slice (some ⟨gn, 0, none⟩) 3 pc] 35))) := (HC.out.trans HD11.out).alloc _
      clear c11 hP hcv hown ho3 HD8 HD9 HD10 HD11
      go_wp2
      go_ret
      exact ⟨rfl, HE.out.below (by omega)⟩
    by_cases hk6 : k < 60
    case neg =>
      have hi1 : (k : Int) < (cs.length : Int) := by omega
      have hi2 : ¬ ((k : Int) < 60) := by omega
      have hlA := lwAt_calls wr 0 99 (by omega) (by omega) hBm (V2.out.chg (HC.out.trans HD.out) (by omega)) hm
      go_wp2_with fail
      refine hlA.mono ?_
      rintro e w8 ⟨⟨r, rfl, hr1, _⟩, hsame⟩
      replace hr1 := hr1 (by omega)
      have HD8 : Hid (Chg 0 0 w2 w8) := HD.out.trans (hsame.chg 0 0)
      clear hlA hsame
      obtain ⟨n, hn⟩ : ∃ n : Int, n = 1 + (r : Int) := ⟨_, rfl⟩
      have hn0 : 1 ≤ n := by omega
      have hn1 : n ≤ 99 := by omega
      have en : IntKind.i64.wrap (-n) = -n := by rw [IntKind.wrap_i64]; omega
      have hS := lwSay_calls (w8.alloc (.cells #[.int .i64 n, .int .i64 0, .int .i64 (-n)] 2)) ⟨#[97, 114, 109]⟩ [n, 0, -n] (by simp) (by decide) (by intro x hx; simp only [List.mem_cons, List.not_mem_nil, or_false] at hx; rcases hx with rfl | rfl | rfl <;> omega) (by intro x hx; simp only [List.mem_cons, List.not_mem_nil, or_false] at hx; rcases hx with rfl | rfl | rfl <;> omega) (view_i3 w8 n 0 (-n))
      have hAl := arm_line n hn0 hn1
      rw [← say_3] at hAl
      have hsz := say_size ⟨#[97, 114, 109]⟩ [n, 0, -n] (by intro x hx; simp only [List.mem_cons, List.not_mem_nil, or_false] at hx; rcases hx with rfl | rfl | rfl <;> omega) 3 (by simp)
      rw [show [n, 0, -n].take 3 = [n, 0, -n] from rfl] at hsz
      have hsz2 : (say ⟨#[97, 114, 109]⟩ [n, 0, -n]).size ≤ 1000 := by have e1 : (⟨#[97, 114, 109]⟩ : ByteArray).size = 3 := rfl; omega
      generalize say ⟨#[97, 114, 109]⟩ [n, 0, -n] = s at *
      have HD9 : Hid (Chg 0 0 w2 (w8.alloc (.cells #[.int .i64 n, .int .i64 0, .int .i64 (-n)] 2))) := HD8.out.alloc _
      clear hsz
      go_upto_region 19 with fail
      rw [← hn]
      clear hn hr1
      go_wp2_with fail
      generalize w8.alloc (.cells #[.int .i64 n, .int .i64 0, .int .i64 (-n)] 2) = w9 at *
      refine hS.mono ?_
      rintro e w10 ⟨rfl, c10⟩
      have HD10 : Hid (Chg 0 0 w2 w10) := HD9.out.trans c10
      have hcv := text_conv w10 s
      have hP := parseText_calls w10 s (by omega) (HRd.out.chg (HC.out.trans HD10.out))
      rw [hAl] at hP
      clear c10 hS hAl
      go_wp2_with fail
      refine hP.mono ?_
      rintro e w11 ⟨pa, pc, rfl, hown, c11⟩
      obtain ⟨gn, rfl⟩ : ∃ gn, pa = some ⟨gn, 0, none⟩ := by
        unfold OwnN at hown
        rcases hown.2 with ⟨_, h0⟩ | ⟨gn, cap, cur, e, _⟩
        · simp at h0
        · simp only [Value.slice.injEq] at e; exact ⟨gn, e.1⟩
      have HD11 : Hid (Chg 0 0 w2 w11) := HD10.out.trans c11
      have ho3 : w11.ownsRow w10.heap.size 2 1 (.slice (some ⟨gn, 0, none⟩) 3 pc) 3 [.int .i64 n, .int .i64 0, .int .i64 (-n)] := hown
      have q0 : w11.cell? ⟨gn, 0, none⟩ = some (.int .i64 n) := World.ownsRow.cellAt ho3 0 (by omega)
      have q1 : w11.cell? ⟨gn, 1, none⟩ = some (.int .i64 0) := World.ownsRow.cellAt ho3 1 (by omega)
      have q2 : w11.cell? ⟨gn, 2, none⟩ = some (.int .i64 (-n)) := World.ownsRow.cellAt ho3 2 (by omega)
      have hgn : gn < w11.heap.size := lt_of_cell q0
      have HE : Hid (Chg 0 0 w (w11.alloc (.cells #[.int .i64 4, .int .i64 0, .string ⟨#[]⟩, .string ⟨#[]⟩, .int .i64 0, .int .i64 0, .int .i64 0, .string ⟨#[]⟩, .slice (some ⟨gn, 0, none⟩) 3 pc] 35))) := (HC.out.trans HD11.out).alloc _
      clear c11 hP hcv hown ho3 HD8 HD9 HD10 HD11
      go_wp2
      go_ret
      exact ⟨rfl, HE.out.below (by omega)⟩
    have hi1 : (k : Int) < (cs.length : Int) := by omega
    have hi2 : (k : Int) < 60 := by omega
    have hU := lwUsed_calls wr cs[k] (HK.out _ (List.getElem_mem hkn))
    obtain ⟨y0, y1, y2, y3, y4, y5, y6⟩ := (HO.out.chg hch (by omega)).cells k hkn
    have hgw : g < wr.heap.size := lt_of_cell y0
    generalize cs[k] = c at *
    clear hch
    go_wp2_with fail
    refine hU.mono ?_
    rintro e w3 ⟨d, b, rfl, hb, c3⟩
    have HD3 : Hid (Chg 0 0 w2 w3) := HD.out.trans c3
    clear c3 hU y0 y1 y2 y3 y4 y5 y6
    cases b
    case false =>
      have HD4 : Hid (Chg 0 0 w2 (w3.alloc (.cells (cA d) 29))) := HD3.out.alloc _
      go_wp2
      go_roundw
      case rel => exact ⟨k + 1, by omega, by go_num, HD4.out⟩
      case measure => simp [RowKit.intOf]; omega
    obtain ⟨F, hG⟩ := hb rfl
    have hGl := good_line hG
    have hGn : d.nums = [] := by apply GoodC.el (P := fun d _ => d.nums = []) hG <;> intros <;> rfl
    obtain ⟨_, _, hF3, _, hF5⟩ := good_fields hG
    have hJz := J_size F hF3
    have hL := lwLine_calls (w3.alloc (.cells (cA d) 29)) hG
    obtain ⟨s, Hs⟩ : ∃ s, Hid (s = J F) := ⟨_, rfl⟩
    have hsz : s.size ≤ 60000 := by rw [Hs.out]; omega
    rw [← Hs.out] at hL hGl
    have HB8 := heap_new w3 (.cells (cA d) 29)
    have HD4 : Hid (Chg 0 0 w2 (w3.alloc (.cells (cA d) 29))) := HD3.out.alloc _
    have hz4 : w3.heap.size < (w3.alloc (.cells (cA d) 29)).heap.size := by simp
    obtain ⟨⟨y0, y1, y2, y3, y4, y5, y6⟩, _⟩ := sevenC HB8
    clear hb hG hF3 hJz HD3 Hs hF5
    go_wp2_with fail
    generalize w3.alloc (.cells (cA d) 29) = w4 at *
    refine hL.mono ?_
    rintro e w5 ⟨rfl, c5⟩
    have HD5 : Hid (Chg 0 0 w2 w5) := HD4.out.trans c5
    have hz5 : w3.heap.size < w5.heap.size := by have := c5.size; omega
    replace HB8 := (c5.block _ hz4 (by omega)).trans HB8
    clear c5 hL y0 y1 y2 y3 y4 y5 y6
    have hcv := text_conv w5 s
    have hP := parseText_calls w5 s (by omega) (HRd.out.chg (HC.out.trans HD5.out))
    rw [hGl] at hP
    have hP3 : Calls Tryz.prog 7 #[.slice (some ⟨w5.heap.size, 0, none⟩) s.size (Go.grownCap w5 s.size 0 5)] (Lib.bytesWorld w5 5 s) fun e w' => ∃ pa pc, e = .returned (.agg #[.int .i64 1, .int .i64 d.ck, .string d.path, .string d.to', .int .i64 d.han, .int .i64 d.off, .int .i64 d.siz, .string d.data, .slice pa 0 pc]) ∧ Chg 0 0 w5 w' := by
      refine hP.mono ?_
      rintro e w' ⟨pa, pc, rfl, _, cc⟩
      refine ⟨pa, pc, ?_, cc⟩
      show Ending.returned (.agg #[.int .i64 1, .int .i64 d.ck, .string d.path, .string d.to', .int .i64 d.han, .int .i64 d.off, .int .i64 d.siz, .string d.data, .slice pa d.nums.length pc]) = _
      rw [hGn]; rfl
    clear hP hGl hGn
    go_wp2_with fail
    refine hP3.mono ?_
    rintro e w6 ⟨pa, pc, rfl, c6⟩
    have HD6 : Hid (Chg 0 0 w2 w6) := HD5.out.trans c6
    have hz6 : w3.heap.size < w6.heap.size := by have := c6.size; omega
    replace HB8 := (c6.block _ hz5 (by omega)).trans HB8
    clear c6 hP3 hcv
    have cA6 : Chg 0 0 w6 (w6.alloc (.cells #[.int .i64 1, .int .i64 d.ck, .string d.path, .string d.to', .int .i64 d.han, .int .i64 d.off, .int .i64 d.siz, .string d.data, .slice pa 0 pc] 35)) := Chg.alloc (Chg.refl 0 0 _) _
    have HD7 : Hid (Chg 0 0 w2 (w6.alloc (.cells #[.int .i64 1, .int .i64 d.ck, .string d.path, .string d.to', .int .i64 d.han, .int .i64 d.off, .int .i64 d.siz, .string d.data, .slice pa 0 pc] 35))) := HD6.out.trans cA6
    obtain ⟨⟨y0, y1, y2, y3, y4, y5, y6⟩, _⟩ := sevenC ((cA6.block _ hz6 (by omega)).trans HB8)
    have b1 : (d.path.toList == d.path.toList) = true := by simp
    have b2 : (d.to'.toList == d.to'.toList) = true := by simp
    have b3 : (d.data.toList == d.data.toList) = true := by simp
    have hza : s.size + (⟨#[32]⟩ : ByteArray).size ≤ 9223372036854775807 := by have e1 : (⟨#[32]⟩ : ByteArray).size = 1 := rfl; omega
    have hlA := lwAt_calls (w6.alloc (.cells #[.int .i64 1, .int .i64 d.ck, .string d.path, .string d.to', .int .i64 d.han, .int .i64 d.off, .int .i64 d.siz, .string d.data, .slice pa 0 pc] 35)) k 2 (by omega) (by omega) hBm (V2.out.chg (HC.out.trans HD7.out) (by omega)) hm
    clear cA6
    go_wp2_with fail
    refine hlA.mono ?_
    rintro e w8 ⟨⟨r, rfl, hr1, _⟩, hsame⟩
    replace hr1 := hr1 (by omega)
    have HD8 : Hid (Chg 0 0 w2 w8) := HD7.out.trans (hsame.chg 0 0)
    clear hlA hsame HB8 y0 y1 y2 y3 y4 y5 y6 b1 b2 b3 HD7 HD6 HD5 HD4
    by_cases hr : r = 0
    · subst hr
      have hz2 : (⟨#[32]⟩ : ByteArray).size + s.size ≤ 9223372036854775807 := by have e1 : (⟨#[32]⟩ : ByteArray).size = 1 := rfl; omega
      have hbz : (⟨#[32]⟩ ++ s : ByteArray).size ≤ 1048576 := by rw [ByteArray.size_append]; have e1 : (⟨#[32]⟩ : ByteArray).size = 1 := rfl; omega
      have hbl : (lineOf (⟨#[32]⟩ ++ s)).getD zeroL = zeroL := by rw [bad_ahead]; rfl
      go_upto_region 16 with fail
      generalize (⟨#[32]⟩ ++ s : ByteArray) = bd at *
      have hcv2 := text_conv w8 bd
      have hP2 := parseText_calls w8 bd hbz (HRd.out.chg (HC.out.trans HD8.out))
      rw [hbl] at hP2
      have hP4 : Calls Tryz.prog 7 #[.slice (some ⟨w8.heap.size, 0, none⟩) bd.size (Go.grownCap w8 bd.size 0 5)] (Lib.bytesWorld w8 5 bd) fun e w' => ∃ pa pc, e = .returned (.agg #[.int .i64 0, .int .i64 0, .string ⟨#[]⟩, .string ⟨#[]⟩, .int .i64 0, .int .i64 0, .int .i64 0, .string ⟨#[]⟩, .slice pa 0 pc]) ∧ Chg 0 0 w8 w' := by
        refine hP2.mono ?_
        rintro e w' ⟨pa, pc, rfl, _, cc⟩
        exact ⟨pa, pc, rfl, cc⟩
      clear hbl hz2 hP2
      go_wp2_with fail
      refine hP4.mono ?_
      rintro e w9 ⟨pa2, pc2, rfl, c9⟩
      have HD9 : Hid (Chg 0 0 w2 w9) := HD8.out.trans c9
      clear c9 hcv2 hP4
      go_wp2
      rw [field_line]
      go_wp2
      go_roundw
      case rel => exact ⟨k + 1, by omega, by go_num, HD9.out⟩
      case measure => simp [RowKit.intOf]; omega
    · have hrb : (((r : Nat) : Int) == 0) = false := by rw [beq_eq_false_iff_ne]; omega
      have hz2 : s.size + (⟨#[32]⟩ : ByteArray).size ≤ 9223372036854775807 := by have e1 : (⟨#[32]⟩ : ByteArray).size = 1 := rfl; omega
      have hbz : (s ++ ⟨#[32]⟩ : ByteArray).size ≤ 1048576 := by rw [ByteArray.size_append]; have e1 : (⟨#[32]⟩ : ByteArray).size = 1 := rfl; omega
      have hbl : (lineOf (s ++ ⟨#[32]⟩)).getD zeroL = zeroL := by rw [bad_behind]; rfl
      go_upto_region 16 with fail
      generalize (s ++ ⟨#[32]⟩ : ByteArray) = bd at *
      have hcv2 := text_conv w8 bd
      have hP2 := parseText_calls w8 bd hbz (HRd.out.chg (HC.out.trans HD8.out))
      rw [hbl] at hP2
      have hP4 : Calls Tryz.prog 7 #[.slice (some ⟨w8.heap.size, 0, none⟩) bd.size (Go.grownCap w8 bd.size 0 5)] (Lib.bytesWorld w8 5 bd) fun e w' => ∃ pa pc, e = .returned (.agg #[.int .i64 0, .int .i64 0, .string ⟨#[]⟩, .string ⟨#[]⟩, .int .i64 0, .int .i64 0, .int .i64 0, .string ⟨#[]⟩, .slice pa 0 pc]) ∧ Chg 0 0 w8 w' := by
        refine hP2.mono ?_
        rintro e w' ⟨pa, pc, rfl, _, cc⟩
        exact ⟨pa, pc, rfl, cc⟩
      clear hbl hz2 hP2
      go_wp2_with fail
      refine hP4.mono ?_
      rintro e w9 ⟨pa2, pc2, rfl, c9⟩
      have HD9 : Hid (Chg 0 0 w2 w9) := HD8.out.trans c9
      clear c9 hcv2 hP4
      go_wp2
      rw [field_line]
      go_wp2
      go_roundw
      case rel => exact ⟨k + 1, by omega, by go_num, HD9.out⟩
      case measure => simp [RowKit.intOf]; omega

end Go.Proofs.YtacfkgfemmgpkaaGreatDoor

namespace Go.Proofs.YtacfkgfemmgpkaaGreatDoor
open Go.ChangeShapes Go.WideShapes Go.RowKit

theorem ls_star : "*" ++ "errors.errorString" = "*errors.errorString" := by decide
theorem ls_row (u : TypeId) (h : Tryz.prog.typeName? 3 u = some "*errors.errorString") : u = 146 :=
  typeName_ptr_named (nm := "errors.errorString") (by rw [ls_star]; kernel_rfl) (by kernel_rfl) (by decide) u (by rw [ls_star]; exact h)

theorem sentS_of_laid {W : World} {n : String} {text : List UInt8} {r : List (String × DataW Unit)} {g : Nat} (h : laidMet Tryz.prog ((n, .iface "*errors.errorString" (.ptr (.agg [.lit (.string text)]))) :: r) W)
    (hg : Tryz.prog.globalNamed n = some g) (ht : (Tryz.prog.globals[g]?).map (·.type) = some 86) : ∃ a, W.cell? ⟨g, 0, none⟩ = some (.iface 146 (.pointer (some a))) := by
  obtain ⟨a, s, hv, _⟩ := laid_sentinel h hg ht Tryz.underlying86 ls_row Tryz.underlying146 Tryz.underlying148 rfl rfl Tryz.underlying9 (by kernel_rfl) (by kernel_rfl)
  exact ⟨a, by simpa using World.var?_cell hg hv 0⟩

end Go.Proofs.YtacfkgfemmgpkaaGreatDoor
