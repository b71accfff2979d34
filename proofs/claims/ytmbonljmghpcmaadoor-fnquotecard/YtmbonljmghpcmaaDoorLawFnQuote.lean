/- The law FnQuote: the walk. -/
import Derived.Test.YtmbonljmghpcmaaDoorUnqDraw
import Derived.Test.YtmbonljmghpcmaaDoorImplUnq
namespace Go.Proofs.YtmbonljmghpcmaaDoor
open Go.RowKit Go.Lib

theorem unq_small {t d : ByteArray} (h : unqV t = unqO true d) : d.size ≤ 65536 := by
  have hf := forth h
  by_cases hd : d.size ≤ 65536
  · exact hd
  · exfalso
    unfold quoV at hf
    rw [if_pos (by omega)] at hf
    subst hf
    rw [unq_nothing] at h
    exact unqO_ne h.symm

theorem quoV_len (s : ByteArray) (h : s.size ≤ 65536) : 1 ≤ (quoV s).size ∧ (quoV s).size ≤ 196608 := by
  unfold quoV
  rw [if_neg (by omega)]
  split
  · exact ⟨by decide, by decide⟩
  · rw [strOfNums_size]
    have := quoL_len s s.size
    omega

set_option maxRecDepth 20000 in
set_option maxHeartbeats 4000000 in
theorem lawFnQuote_walk (w : World) {ca : Option Addr} {cc : Nat} {code : List Int} (hB : Byt code) (hc : View w 0 w.heap.size .u8 (.slice ca code.length cc) code) (hE : SynE w) :
    Calls Tryd.prog 3 #[.slice ca code.length cc] w fun e w' => e = .returned (.bool true) ∧ Below w.heap.size w w' := by
  have hl1 : code.length ≤ 9223372036854775807 := by obtain ⟨_, _, e, h, _⟩ := hc; exact h
  by_cases hcl : code.length ≤ 1048576
  case neg =>
    have h1 : (1048576 : Int) < (code.length : Int) := by omega
    go_enter Tryd.func3, Tryd.ntmps3
    go_wp2
    go_ret
    exact ⟨rfl, Below.refl _ _⟩
  have h1 : ¬ (1048576 : Int) < (code.length : Int) := by omega
  have hN := drawQuote_calls w hB hcl hc (Nat.le_refl _)
  have HV : Hid (View w 0 w.heap.size .u8 (.slice ca code.length cc) code) := hc
  have HE : Hid (SynE w) := hE
  clear hc hE
  go_enter Tryd.func3, Tryd.ntmps3
  go_wp2_with fail
  refine hN.mono ?_
  rintro e w1 ⟨t, rfl, ht, c1⟩
  have HC1 : Hid (Chg 0 0 w w1) := c1
  have hQ := implQuote_calls w1 t (by omega)
  clear hN c1
  go_wp2_with fail
  refine hQ.mono ?_
  rintro e w2 ⟨rfl, c2⟩
  have HC2 : Hid (Chg 0 0 w w2) := HC1.out.trans c2
  clear hQ c2
  by_cases hbig : 65536 < t.size
  · have eq : quoV t = ⟨#[]⟩ := by unfold quoV; rw [if_pos hbig]
    have hU := implUnquote_calls w2 ⟨#[]⟩ (by decide) (HE.out.chg HC2.out)
    rw [unq_nothing] at hU
    rw [eq]
    have hbi : (65536 : Int) < (t.size : Int) := by omega
    clear eq
    go_wp2_with fail
    refine hU.mono ?_
    rintro e w3 ⟨rfl, c3⟩
    have HA3 : Hid (Chg 0 0 w (w3.alloc (.cells #[.bool false, .string ⟨#[]⟩] 26))) := (HC2.out.trans c3).alloc _
    obtain ⟨y0, y1, _, _⟩ := two_cells (heap_new w3 (.cells #[.bool false, .string ⟨#[]⟩] 26))
    clear c3 hU
    go_wp2
    go_ret
    exact ⟨rfl, HA3.out.below (by omega)⟩
  · have hsm : t.size ≤ 65536 := by omega
    have hbi : ¬ (65536 : Int) < (t.size : Int) := by omega
    obtain ⟨hq1, hq2⟩ := quoV_len t hsm
    have hU := implUnquote_calls w2 (quoV t) (by omega) (HE.out.chg HC2.out)
    rw [back hsm] at hU
    have Hset : Hid (∀ i, i < (quoV t).size → 33 ≤ chr (quoV t) i ∧ chr (quoV t) i ≤ 126) := fun i hi => quoV_set hi
    generalize quoV t = q at *
    go_wp2_with fail
    refine hU.mono ?_
    rintro e w3 ⟨rfl, c3⟩
    have HA3 : Hid (Chg 0 0 w (w3.alloc (.cells #[.bool true, .string t] 26))) := (HC2.out.trans c3).alloc _
    have HB3 : Hid ((w3.alloc (.cells #[.bool true, .string t] 26)).heap[w3.heap.size]? = some (.cells #[.bool true, .string t] 26 (0, 0))) := heap_new w3 _
    clear c3 hU
    go_wp2
    generalize w3.alloc (.cells #[.bool true, .string t] 26) = w4 at *
    go_loop [6] (fun x => ∃ (k : Nat), k ≤ q.size ∧ x = .int .i64 k) (fun x => q.size - (RowKit.intOf x).toNat)
    case atStart => exact ⟨0, Nat.zero_le _, rfl⟩
    case round =>
      obtain ⟨k, hk, rfl⟩ := hrel
      by_cases hlt : k < q.size
      · have hi : (k : Int) < (q.size : Int) := by omega
        have hcs : q[k].toNat = chr q k := (chr_lt hlt).symm
        obtain ⟨hr0, hr1⟩ := Hset.out k hlt
        generalize chr q k = c at *
        have d1 : ¬ (c : Int) < 33 := by omega
        have d2 : ¬ (126 : Int) < (c : Int) := by omega
        go_wp2
        refine ⟨⟨k + 1, by omega, by first | rfl | go_num⟩, by simp [RowKit.intOf]; omega⟩
      · have hi : ¬ (k : Int) < (q.size : Int) := by omega
        have hN := drawUnquote_calls w4 hB hcl (HV.out.chg HA3.out (by omega)) HA3.out.size
        go_wp2_with fail
        refine hN.mono ?_
        rintro e w5 ⟨tx, rfl, htx, c5⟩
        have HC5 : Hid (Chg 0 0 w w5) := HA3.out.trans c5
        have hlt4 := (Array.getElem?_eq_some_iff.1 HB3.out).1
        have HB5 : Hid (w5.heap[w3.heap.size]? = some (.cells #[.bool true, .string t] 26 (0, 0))) := (c5.block _ hlt4 (by omega)).trans HB3.out
        have hs5 := c5.size
        have hU := implUnquote_calls w5 tx (by omega) (HE.out.chg HC5.out)
        clear hN c5
        have hq0 : (0 : Int) < (q.size : Int) := by omega
        have het : (t.toList == t.toList) = true := by simp
        rcases unqV_is' tx with ⟨d, hd⟩ | hd
        · have hdq := forth hd
          have hQ := fun W => implQuote_calls W d (by have := unq_small hd; omega)
          rw [hdq] at hQ
          rw [hd] at hU
          have hex : (tx.toList == tx.toList) = true := by simp
          clear hdq hd
          go_wp2_with fail
          refine hU.mono ?_
          rintro e w6 ⟨rfl, c6⟩
          have HA7 : Hid (Chg 0 0 w (w6.alloc (.cells #[.bool true, .string d] 26))) := (HC5.out.trans c6).alloc _
          obtain ⟨y0, y1, _, _⟩ := two_cells (heap_new w6 (.cells #[.bool true, .string d] 26))
          have cA : Chg 0 0 w6 (w6.alloc (.cells #[.bool true, .string d] 26)) := Chg.alloc (Chg.refl 0 0 w6) _
          have hs6 := c6.size
          obtain ⟨x0, x1, _, _⟩ := two_cells ((cA.block w3.heap.size (by omega) (by omega)).trans ((c6.block w3.heap.size (by omega) (by omega)).trans HB5.out))
          clear c6 hU cA
          go_wp2_with fail
          generalize w6.alloc (.cells #[.bool true, .string d] 26) = w7 at *
          refine (hQ _).mono ?_
          rintro e w8 ⟨rfl, c8⟩
          have HC8 : Hid (Chg 0 0 w w8) := HA7.out.trans c8
          clear c8 hQ
          go_wp2
          go_ret
          exact ⟨rfl, HC8.out.below (by omega)⟩
        · rw [hd] at hU
          clear hd
          go_wp2_with fail
          refine hU.mono ?_
          rintro e w6 ⟨rfl, c6⟩
          have HA7 : Hid (Chg 0 0 w (w6.alloc (.cells #[.bool false, .string ⟨#[]⟩] 26))) := (HC5.out.trans c6).alloc _
          obtain ⟨y0, y1, _, _⟩ := two_cells (heap_new w6 (.cells #[.bool false, .string ⟨#[]⟩] 26))
          have cA : Chg 0 0 w6 (w6.alloc (.cells #[.bool false, .string ⟨#[]⟩] 26)) := Chg.alloc (Chg.refl 0 0 w6) _
          have hs6 := c6.size
          obtain ⟨x0, x1, _, _⟩ := two_cells ((cA.block w3.heap.size (by omega) (by omega)).trans ((c6.block w3.heap.size (by omega) (by omega)).trans HB5.out))
          clear c6 hU cA
          go_wp2
          go_ret
          exact ⟨rfl, HA7.out.below (by omega)⟩

end Go.Proofs.YtmbonljmghpcmaaDoor
