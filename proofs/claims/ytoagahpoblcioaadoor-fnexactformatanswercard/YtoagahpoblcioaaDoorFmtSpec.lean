/- FormatAnswer of the model. (made by tools/mkfmt.py) -/
import Derived.Test.YtoagahpoblcioaaDoorFmtSpecN
namespace Go.Proofs.YtoagahpoblcioaaDoor
open Go.RowKit Go.Lib

theorem sayRow (w0 : World) (A B : Obj) (word : ByteArray) (ns : List Int) (hl : ns.length ≤ 5) (hs : word.size ≤ 100) (hI : In64 ns) :
    Calls Tryd.prog 12 #[.string word, .slice (some ⟨w0.heap.size + 1 + 1, 0, none⟩) ns.length ns.length] (((w0.alloc A).alloc B).alloc (.cells (ns.map (Value.int .i64)).toArray 2)) fun e w' => e = .returned (.string (say word ns)) ∧ Chg 0 0 w0 w' := by
  have c : Chg 0 0 w0 (((w0.alloc A).alloc B).alloc (.cells (ns.map (Value.int .i64)).toArray 2)) := ((Chg.alloc (Chg.refl 0 0 w0) _).alloc _).alloc _
  have e : ((w0.alloc A).alloc B).heap.size = w0.heap.size + 1 + 1 := by simp
  have v := row_view64 (heap_new ((w0.alloc A).alloc B) (.cells (ns.map (Value.int .i64)).toArray 2)) (by omega)
  rw [e] at v
  refine (l14Say_calls _ word ns hl hs hI v).mono ?_
  rintro e w' ⟨he, c'⟩
  exact ⟨he, c.trans c'⟩

set_option maxRecDepth 20000 in
set_option maxHeartbeats 4000000 in
theorem specFormat_calls (w : World) (kind : Int) (path to' : ByteArray) (ch co cs : Int) (cd : ByteArray) (code : Int) (data : ByteArray) (na : Option Addr) (nc : Nat) (names : List ByteArray) (handle k l s b sq hd us rn cm : Int)
    (hI : In64 [code, handle, k, l, s, b, sq, hd, us, rn, cm]) (hdz : data.size ≤ 1048576) (hnz : (nmL names).length ≤ 2097152) {lo hi : Nat} (hN : SView w lo hi (.slice na names.length nc) names) :
    Calls Tryd.prog 6 #[.agg (cCall kind path to' ch co cs cd), .agg (cAns code data (.slice na names.length nc) handle k l s b sq hd us rn cm)] w fun e w' => e = .returned (.string (fmtV kind code data names handle k l s b sq hd us rn cm)) ∧ Chg 0 0 w w' := by
  obtain ⟨r, Hr⟩ : ∃ r, Hid (r = fmtV kind code data names handle k l s b sq hd us rn cm) := ⟨_, rfl⟩
  rw [← Hr.out]
  by_cases h0 : code = 0
  case neg =>
    have h0' : (code != 0) = true := by rw [bne_iff_ne]; exact h0
    have HR : Hid (r = say ⟨#[101, 114, 114, 111, 114]⟩ [code]) := by show _ = _; rw [Hr.out]; unfold fmtV; rw [if_pos h0]
    go_enter Tryd.func6, Tryd.ntmps6
    go_wp2_with fail
    refine (sayRow w _ _ ⟨#[101, 114, 114, 111, 114]⟩ [code] (by simp) (by decide) (fun x hx => hI x (by simp only [List.mem_cons, List.not_mem_nil, or_false] at hx ⊢; omega))).mono ?_
    rintro e w2 ⟨rfl, c2⟩
    have HC2 : Hid (Chg 0 0 w w2) := c2
    clear c2
    go_wp2
    go_ret
    exact ⟨by rw [HR.out]; rfl, HC2.out⟩
  subst h0
  by_cases h1 : kind = 17 ∨ kind = 15 ∨ kind = 21
  · have HR : Hid (r = ⟨#[100, 97, 116, 97, 32]⟩ ++ quoV data) := by show _ = _; rw [Hr.out]; unfold fmtV; rw [if_neg (by decide), if_pos h1]
    have hQ := fun W => specQuote_calls W data (by omega)
    have hqz := quoV_most data
    have HC0 : Hid (∀ A B : Obj, Chg 0 0 w ((w.alloc A).alloc B)) := fun A B => (Chg.alloc (Chg.refl 0 0 w) _).alloc _
    generalize quoV data = q at *
    rcases h1 with rfl | rfl | rfl
    all_goals
      go_enter Tryd.func6, Tryd.ntmps6
      go_wp2_with fail
      refine (hQ _).mono ?_
      rintro e w2 ⟨rfl, c2⟩
      have HC2 : Hid (Chg 0 0 w w2) := (HC0.out _ _).trans c2
      clear c2 hQ
      go_wp2
      go_ret
      exact ⟨by rw [HR.out]; rfl, HC2.out⟩
  by_cases h2 : kind = 14
  · have hR2 : fmtV kind 0 data names handle k l s b sq hd us rn cm = say ⟨#[104, 97, 110, 100, 108, 101]⟩ [handle] := by unfold fmtV; rw [if_neg (by decide), if_neg h1, if_pos h2]
    subst h2
    have HR : Hid (r = say ⟨#[104, 97, 110, 100, 108, 101]⟩ [handle]) := by show _ = _; rw [Hr.out]; exact hR2
    go_enter Tryd.func6, Tryd.ntmps6
    go_wp2_with fail
    refine (sayRow w _ _ ⟨#[104, 97, 110, 100, 108, 101]⟩ [handle] (by simp) (by decide) (fun x hx => hI x (by simp only [List.mem_cons, List.not_mem_nil, or_false] at hx ⊢; omega))).mono ?_
    rintro e w2 ⟨rfl, c2⟩
    have HC2 : Hid (Chg 0 0 w w2) := c2
    clear c2
    go_wp2
    go_ret
    exact ⟨by rw [HR.out]; rfl, HC2.out⟩
  by_cases h3 : kind = 18 ∨ kind = 19 ∨ kind = 16
  · have hR2 : fmtV kind 0 data names handle k l s b sq hd us rn cm = say ⟨#[115, 116, 97, 116]⟩ [k, l, s, b] := by unfold fmtV; rw [if_neg (by decide), if_neg h1, if_neg h2, if_pos h3]
    rcases h3 with rfl | rfl | rfl
    all_goals
      have HR : Hid (r = say ⟨#[115, 116, 97, 116]⟩ [k, l, s, b]) := by show _ = _; rw [Hr.out]; exact hR2
      go_enter Tryd.func6, Tryd.ntmps6
      go_wp2_with fail
      refine (sayRow w _ _ ⟨#[115, 116, 97, 116]⟩ [k, l, s, b] (by simp) (by decide) (fun x hx => hI x (by simp only [List.mem_cons, List.not_mem_nil, or_false] at hx ⊢; omega))).mono ?_
      rintro e w2 ⟨rfl, c2⟩
      have HC2 : Hid (Chg 0 0 w w2) := c2
      clear c2
      go_wp2
      go_ret
      exact ⟨by rw [HR.out]; rfl, HC2.out⟩
  by_cases h4 : kind = 20
  · have hR2 : fmtV kind 0 data names handle k l s b sq hd us rn cm = ⟨(nmL names).toArray⟩ := by unfold fmtV; rw [if_neg (by decide), if_neg h1, if_neg h2, if_neg h3, if_pos h4]
    have HR : Hid (r = ⟨(nmL names).toArray⟩) := by show _ = _; rw [Hr.out]; exact hR2
    clear hR2
    subst h4
    rw [Hr.out]
    exact specFormatN_calls w path to' ch co cs cd data na nc names handle k l s b sq hd us rn cm hnz hN
  by_cases h5 : kind = 24
  · have hR2 : fmtV kind 0 data names handle k l s b sq hd us rn cm = say ⟨#[115, 112, 97, 99, 101]⟩ [s, b] := by unfold fmtV; rw [if_neg (by decide), if_neg h1, if_neg h2, if_neg h3, if_neg h4, if_pos h5]
    subst h5
    have HR : Hid (r = say ⟨#[115, 112, 97, 99, 101]⟩ [s, b]) := by show _ = _; rw [Hr.out]; exact hR2
    go_enter Tryd.func6, Tryd.ntmps6
    go_wp2_with fail
    refine (sayRow w _ _ ⟨#[115, 112, 97, 99, 101]⟩ [s, b] (by simp) (by decide) (fun x hx => hI x (by simp only [List.mem_cons, List.not_mem_nil, or_false] at hx ⊢; omega))).mono ?_
    rintro e w2 ⟨rfl, c2⟩
    have HC2 : Hid (Chg 0 0 w w2) := c2
    clear c2
    go_wp2
    go_ret
    exact ⟨by rw [HR.out]; rfl, HC2.out⟩
  by_cases h6 : kind = 25
  · have hR2 : fmtV kind 0 data names handle k l s b sq hd us rn cm = say ⟨#[108, 111, 103]⟩ [sq, hd, us, rn, cm] := by unfold fmtV; rw [if_neg (by decide), if_neg h1, if_neg h2, if_neg h3, if_neg h4, if_neg h5, if_pos h6]
    subst h6
    have HR : Hid (r = say ⟨#[108, 111, 103]⟩ [sq, hd, us, rn, cm]) := by show _ = _; rw [Hr.out]; exact hR2
    go_enter Tryd.func6, Tryd.ntmps6
    go_wp2_with fail
    refine (sayRow w _ _ ⟨#[108, 111, 103]⟩ [sq, hd, us, rn, cm] (by simp) (by decide) (fun x hx => hI x (by simp only [List.mem_cons, List.not_mem_nil, or_false] at hx ⊢; omega))).mono ?_
    rintro e w2 ⟨rfl, c2⟩
    have HC2 : Hid (Chg 0 0 w w2) := c2
    clear c2
    go_wp2
    go_ret
    exact ⟨by rw [HR.out]; rfl, HC2.out⟩
  have HR : Hid (r = ⟨#[111, 107]⟩) := by show _ = _; rw [Hr.out]; unfold fmtV; rw [if_neg (by decide), if_neg h1, if_neg h2, if_neg h3, if_neg h4, if_neg h5, if_neg h6]
  have HC0 : Hid (Chg 0 0 w ((w.alloc (.cells (cCall kind path to' ch co cs cd) 34)).alloc (.cells (cAns 0 data (.slice na names.length nc) handle k l s b sq hd us rn cm) 39))) := (Chg.alloc (Chg.refl 0 0 w) _).alloc _
  have n17 : (kind == 17) = false := by rw [beq_eq_false_iff_ne]; omega
  have n15 : (kind == 15) = false := by rw [beq_eq_false_iff_ne]; omega
  have n21 : (kind == 21) = false := by rw [beq_eq_false_iff_ne]; omega
  have n14 : (kind == 14) = false := by rw [beq_eq_false_iff_ne]; omega
  have n18 : (kind == 18) = false := by rw [beq_eq_false_iff_ne]; omega
  have n19 : (kind == 19) = false := by rw [beq_eq_false_iff_ne]; omega
  have n16 : (kind == 16) = false := by rw [beq_eq_false_iff_ne]; omega
  have n20 : (kind == 20) = false := by rw [beq_eq_false_iff_ne]; omega
  have n24 : (kind == 24) = false := by rw [beq_eq_false_iff_ne]; omega
  have n25 : (kind == 25) = false := by rw [beq_eq_false_iff_ne]; omega
  clear h1 h2 h3 h4 h5 h6
  go_enter Tryd.func6, Tryd.ntmps6
  go_wp2
  go_ret
  exact ⟨by rw [HR.out]; rfl, HC0.out⟩

end Go.Proofs.YtoagahpoblcioaaDoor
