/- Numbers and letters of a line: l14Numbers, l14Letters of the model. -/
import Derived.Test.YteaeikmgkmpkiaaGreatDoorWeak
import Derived.Test.YteaeikmgkmpkiaaGreatDoorTakeE
import Derived.Test.YteaeikmgkmpkiaaGreatDoorTextL
import Derived.Test.YteaeikmgkmpkiaaGreatDoorBytSeen
import Derived.Test.YteaeikmgkmpkiaaGreatDoorViewStr
namespace Go.Proofs.YteaeikmgkmpkiaaGreatDoor
open Go.RowKit Go.Lib

/-- append of one number to numbers of one's own, nothing else told. -/
theorem wpList_app_i {ops : Array Oper} {rest : List Oper} {o : Oper} {a : Act} {w : World} {Q : Exit → Act → World → Prop} (hgd : o.guard = none) (s x : Operand)
    (ho : o.op = .call { callee := .builtin .append, args := #[s, x], argTypes := #[25, 25] })
    (base : Nat) (sv : Value) (xs : List Int) (hs : a.eval s = sv) (hO : OwnN w base sv xs) (hbase : base ≤ w.heap.size) (d : Nat) (n : Int) (hx : a.eval x = .slice (some ⟨d, 0, none⟩) 1 1) (hd : w.cell? ⟨d, 0, none⟩ = some (.int .i64 n)) (hl : xs.length ≤ 1048576)
    (h : ∀ g cp w', OwnN w' base (.slice (some ⟨g, 0, none⟩) (xs.length + 1) cp) (xs ++ [n]) → Chg base w.heap.size w w' → wpList Tryz.prog ops Q rest (a.put o.dst (.slice (some ⟨g, 0, none⟩) (xs.length + 1) cp)) w') : wpList Tryz.prog ops Q (o :: rest) a w := by
  obtain ⟨i, hi, hz0, hz1, hz2⟩ := info_parts Tryz.infoN
  have hrow : w.ownsRow base 2 1 sv xs.length (xs.map (Value.int .i64)) := hO
  have HNW : ∀ j u, [Value.int .i64 n][j]? = some u → w.cell? ((⟨d, 0, none⟩ : Addr).add j) = some u := by
    intro j u hj
    match j, hj with
    | 0, hj => simp at hj; subst hj; simpa [Addr.add] using hd
  refine wpList_append_own _ hgd s x 25 ho base 2 i (.int .i64 0) 1 8 Tryz.underlying25 hi hz0 hz1 hz2 rfl (by decide) sv xs.length (xs.map (Value.int .i64)) hs hrow ⟨d, 0, none⟩ 1 1 [.int .i64 n] hx rfl HNW (fun u hu => by simp at hu; subst hu; rfl) (by unfold maxLen; omega) (by omega) hbase ?_
  intro v' w2 hown hgrow _
  obtain ⟨g, cp, rfl⟩ : ∃ g cp, v' = .slice (some ⟨g, 0, none⟩) (xs.length + 1) cp := by
    rcases hown.2 with ⟨_, h0⟩ | ⟨g, cap, cur, hv, _⟩
    · omega
    · exact ⟨g, cap, hv⟩
  refine h g cp w2 ?_ (Chg.ofGrown hgrow (fun k hk _ => World.ownsRow.lt hrow k hk))
  unfold OwnN
  rw [List.length_append, List.map_append]
  exact hown

noncomputable def numsG : List Int → List ByteArray → List Int × Bool
  | acc, [] => (acc, true)
  | acc, x :: r => match numF x with
    | none => (acc, false)
    | some n => numsG (acc ++ [n]) r

theorem OwnN.nil' (w : World) : OwnN (w.alloc (.cells #[] 2)) w.heap.size (.slice (some ⟨w.heap.size, 0, none⟩) 0 0) [] := by
  have := World.ownsRow_lit (base := w.heap.size) (e := 2) (size := 1) w #[] 0 (Nat.le_refl _) (by unfold maxLen; omega) (by simp)
  simpa [OwnN] using this

set_option maxRecDepth 20000 in
set_option maxHeartbeats 4000000 in
theorem l14Numbers_calls (w : World) (F : List ByteArray) (gf fc : Nat) (hF : ∀ i, i < F.length → w.cell? ⟨gf, i, none⟩ = some (.string (F.getD i noText))) (h1 : 1 ≤ F.length) (hl : F.length ≤ 65537) (hs : ∀ x ∈ F, x.size ≤ 1048576) :
    Calls Tryz.prog 15 #[.slice (some ⟨gf, 0, none⟩) F.length fc, .int .i64 1] w fun e w' => ∃ g cp, e = .returned (.tuple #[.slice (some ⟨g, 0, none⟩) (numsG [] (F.drop 1)).1.length cp, .bool (numsG [] (F.drop 1)).2]) ∧ OwnN w' w.heap.size (.slice (some ⟨g, 0, none⟩) (numsG [] (F.drop 1)).1.length cp) (numsG [] (F.drop 1)).1 ∧ Chg 0 0 w w' := by
  have HO0 : Hid (OwnN (w.alloc (.cells #[] 2)) w.heap.size (.slice (some ⟨w.heap.size, 0, none⟩) 0 0) []) := OwnN.nil' w
  have HC0 : Hid (Chg 0 0 w (w.alloc (.cells #[] 2))) := Chg.alloc (Chg.refl 0 0 w) _
  have HF : Hid (∀ i, i < F.length → w.cell? ⟨gf, i, none⟩ = some (.string (F.getD i noText))) := hF
  have HS : Hid (∀ x ∈ F, x.size ≤ 1048576) := hs
  obtain ⟨R, HR⟩ : ∃ R, Hid (R = numsG [] (F.drop 1)) := ⟨_, rfl⟩
  rw [← HR.out]
  clear hF hs
  go_enter Tryz.func15, Tryz.ntmps15
  go_wp2
  go_loopw [6, 7] (fun o x wr => ∃ (k g cp : Nat) (ns : List Int), 1 ≤ k ∧ k ≤ F.length ∧ ns.length ≤ k ∧ x = .int .i64 k ∧ o = .slice (some ⟨g, 0, none⟩) ns.length cp ∧ OwnN wr w.heap.size (.slice (some ⟨g, 0, none⟩) ns.length cp) ns ∧ Chg 0 0 w wr ∧ R = numsG ns (F.drop k)) (fun _ x _ => F.length - (RowKit.intOf x).toNat)
  case atStart => exact ⟨1, _, _, [], by omega, by omega, by simp, rfl, rfl, HO0.out, HC0.out, HR.out⟩
  case round =>
    obtain ⟨k, g, cp, ns, hk1, hk, hp, rfl, rfl, ho, hch, hR⟩ := hrel
    have HC : Hid (Chg 0 0 w wr) := hch
    have HO : Hid (OwnN wr w.heap.size (.slice (some ⟨g, 0, none⟩) ns.length cp) ns) := ho
    have s1 := hch.size
    clear HO0 HC0
    by_cases hlt : k < F.length
    · have hi : (k : Int) < (F.length : Int) := by omega
      have hc := hch.cell (HF.out k hlt) (by omega)
      have eX : F.drop k = F.getD k noText :: F.drop (k + 1) := by
        rw [List.drop_eq_getElem_cons hlt, List.getD_eq_getElem?_getD, List.getElem?_eq_getElem hlt]; rfl
      have hxm : F.getD k noText ∈ F := by
        rw [List.getD_eq_getElem?_getD, List.getElem?_eq_getElem hlt]; exact List.getElem_mem hlt
      have hN := l14Number_calls wr (F.getD k noText) (HS.out _ hxm)
      rw [eX] at hR
      generalize F.getD k noText = x at *
      clear ho hch eX hxm
      cases hn : numF x with
      | none =>
        have Hn : Hid (R = (ns, false)) := by show _ = _; rw [hR]; show (match numF x with | none => _ | some n => _) = _; rw [hn]
        rw [hn] at hN
        clear hR hn
        go_wp2_with fail
        refine hN.mono ?_
        rintro e w2 ⟨rfl, c2⟩
        have HC2 : Hid (Chg 0 0 w w2) := HC.out.trans c2
        have HO2 : Hid (OwnN w2 w.heap.size (.slice (some ⟨g, 0, none⟩) ns.length cp) ns) := HO.out.chg c2 (by omega)
        clear c2 hN
        go_wp2
        exact bodyPost_ret (v := .tuple #[.slice (some ⟨g, 0, none⟩) ns.length cp, .bool false]) (by simp [results, Tryz.results15, go_sem]) rfl ⟨g, cp, by rw [Hn.out], by rw [Hn.out]; exact HO2.out, HC2.out⟩
      | some n =>
        have Hn : Hid (R = numsG (ns ++ [n]) (F.drop (k + 1))) := by show _ = _; rw [hR]; show (match numF x with | none => _ | some n => _) = _; rw [hn]
        rw [hn] at hN
        clear hR hn
        go_wp2_with fail
        refine hN.mono ?_
        rintro e w2 ⟨rfl, c2⟩
        have HC2 : Hid (Chg 0 0 w (w2.alloc (.cells #[.int .i64 n] 2))) := (HC.out.trans c2).alloc _
        have HO2 : Hid (OwnN (w2.alloc (.cells #[.int .i64 n] 2)) w.heap.size (.slice (some ⟨g, 0, none⟩) ns.length cp) ns) := (HO.out.chg c2 (by omega)).chg (Chg.alloc (Chg.refl 0 0 _) _) (by omega)
        have HNW : Hid ((w2.alloc (.cells #[.int .i64 n] 2)).cell? ⟨w2.heap.size, 0, none⟩ = some (.int .i64 n)) := by
          show _ = _
          rw [Lib.cell_of_heap (heap_new w2 _)]; rfl
        have s2 := c2.size
        clear c2 hN
        rw [Option.isSome_some, Option.getD_some]
        go_wp2_with (at_builtin; refine wpList_app_i rfl (.tmp 29) (.tmp 31) rfl w.heap.size _ ns rfl HO2.out (by simp; omega) w2.heap.size n rfl HNW.out (by omega) ?_)
        intro g' cap' w5 ho5 hc5
        have HO5 : Hid (OwnN w5 w.heap.size (.slice (some ⟨g', 0, none⟩) (ns ++ [n]).length cap') (ns ++ [n])) := by show OwnN _ _ _ _; rw [List.length_append]; exact ho5
        have HC5 : Hid (Chg 0 0 w w5) := HC2.out.step hc5 (Or.inr (Or.inl (Nat.le_refl _)))
        clear ho5 hc5 HNW HO2 HC2
        go_wp2
        go_roundw
        case rel => exact ⟨k + 1, g', cap', ns ++ [n], by omega, by omega, by simp; omega, by go_num, by simp, HO5.out, HC5.out, Hn.out⟩
        case measure => simp [RowKit.intOf]; omega
    · obtain rfl : k = F.length := by omega
      have Hn : Hid (R = (ns, true)) := by show _ = _; rw [hR, List.drop_length]; rfl
      clear hR
      go_wp2
      exact bodyPost_ret (v := .tuple #[.slice (some ⟨g, 0, none⟩) ns.length cp, .bool true]) (by simp [results, Tryz.results15, go_sem]) rfl ⟨g, cp, by rw [Hn.out], by rw [Hn.out]; exact HO.out, HC.out⟩

theorem letL_succ (c k : Nat) : letL c (k + 1) = letL c k ++ [((97 + (c - 97 + k) % 26 : Nat) : Int)] := by
  unfold letL; rw [List.range_succ, List.map_append]; rfl
theorem letL_len (c k : Nat) : (letL c k).length = k := by unfold letL; simp

set_option maxRecDepth 20000 in
set_option maxHeartbeats 4000000 in
theorem l14Letters_calls (w : World) (n c : Nat) (hn : n ≤ 3000) (h0 : 97 ≤ c) (h1 : c ≤ 122) :
    Calls Tryz.prog 26 #[.int .i64 n, .int .u8 c] w fun e w' => e = .returned (.string (strOfNums (letL c n))) ∧ Chg 0 0 w w' := by
  obtain ⟨R, HR⟩ : ∃ R, Hid (R = strOfNums (letL c n)) := ⟨_, rfl⟩
  rw [← HR.out]
  have HO0 : Hid (OwnB (w.alloc (.cells #[] 5)) w.heap.size 5 (.slice (some ⟨w.heap.size, 0, none⟩) 0 0) []) := OwnB.bnil w w.heap.size (Nat.le_refl _)
  have C0 : Hid (Chg 0 0 w (w.alloc (.cells #[] 5))) := Chg.alloc (Chg.refl 0 0 w) _
  go_enter Tryz.func26, Tryz.ntmps26
  go_wp2
  go_loopw [5, 6] (fun o x wr => ∃ (k g cp : Nat), k ≤ n ∧ x = .int .i64 k ∧ o = .slice (some ⟨g, 0, none⟩) k cp ∧ OwnB wr w.heap.size 5 (.slice (some ⟨g, 0, none⟩) k cp) (letL c k) ∧ Chg 0 0 w wr) (fun _ x _ => n - (RowKit.intOf x).toNat)
  case atStart => exact ⟨0, _, _, Nat.zero_le _, rfl, rfl, HO0.out, C0.out⟩
  case round =>
    obtain ⟨k, g, cp, hk, rfl, rfl, ho, hch⟩ := hrel
    have HO : Hid (OwnB wr w.heap.size 5 (.slice (some ⟨g, 0, none⟩) k cp) (letL c k)) := ho
    have HC : Hid (Chg 0 0 w wr) := hch
    have hsw := hch.size
    clear HO0 C0
    by_cases hlt : k < n
    · have hi : (k : Int) < (n : Int) := by omega
      clear ho hch
      have e0 : IntKind.u8.wrap ((c : Int) - 97) = (c : Int) - 97 := by rw [IntKind.wrap_u8]; omega
      have e1 : IntKind.i64.wrap ((c : Int) - 97) = (c : Int) - 97 := by rw [IntKind.wrap_i64]; omega
      have e2 : IntKind.i64.wrap ((c : Int) - 97 + (k : Int)) = (c : Int) - 97 + (k : Int) := by rw [IntKind.wrap_i64]; omega
      have e3 : Int.tmod ((c : Int) - 97 + (k : Int)) 26 = (((c - 97 + k) % 26 : Nat) : Int) := by
        rw [Int.tmod_eq_emod_of_nonneg (by omega)]; omega
      obtain ⟨m, hm⟩ : ∃ m : Nat, m = (c - 97 + k) % 26 := ⟨_, rfl⟩
      have hm1 : m < 26 := by omega
      rw [← hm] at e3
      have HS : Hid (letL c (k + 1) = letL c k ++ [((97 + m : Nat) : Int)]) := by show _ = _; rw [letL_succ, hm]
      have HL : Hid ((letL c k).length = k) := letL_len c k
      have e4 : IntKind.u8.wrap (97 + (m : Int)) = 97 + (m : Int) := by rw [IntKind.wrap_u8]; omega
      clear hm
      have cA : Chg 0 0 wr (wr.alloc (.cells #[.int .u8 (97 + (m : Int))] 5)) := Chg.alloc (Chg.refl 0 0 wr) _
      have VX : Hid (View (wr.alloc (.cells #[.int .u8 (97 + (m : Int))] 5)) wr.heap.size (wr.heap.size + 1) .u8 (.slice (some ⟨wr.heap.size, 0, none⟩) 1 1) [97 + (m : Int)]) := by
        have h := row_view (w := wr.alloc (.cells #[.int .u8 (97 + (m : Int))] 5)) (b := wr.heap.size) (xs := [97 + (m : Int)]) (t := 5) (heap_new wr _) 0 1 1 (by simp) (by simp) (Nat.le_refl _)
        exact h
      have HOA : Hid (OwnB (wr.alloc (.cells #[.int .u8 (97 + (m : Int))] 5)) w.heap.size 5 (.slice (some ⟨g, 0, none⟩) k cp) (letL c k)) := HO.out.chg cA (fun g' _ => by omega)
      have HCA : Hid (Chg 0 0 w (wr.alloc (.cells #[.int .u8 (97 + (m : Int))] 5))) := HC.out.trans cA
      have sA : wr.heap.size + 1 ≤ (wr.alloc (.cells #[.int .u8 (97 + (m : Int))] 5)).heap.size := by simp
      clear cA
      go_wp2_with (at_builtin; refine wpList_app_seen rfl (.tmp 13) (.tmp 22) rfl w.heap.size _ (letL c k) rfl HOA.out (by omega) _ _ _ [97 + (m : Int)] rfl VX.out (by simp) (by rw [HL.out]; simp; omega) ?_)
      intro v' w5 ho5 hc5
      have HO5 : Hid (OwnB w5 w.heap.size 5 v' (letL c (k + 1))) := by show OwnB _ _ _ _ _; rw [HS.out]; exact ho5
      have HC5 : Hid (Chg 0 0 w w5) := HCA.out.step hc5 (Or.inr (Or.inl (Nat.le_refl _)))
      obtain ⟨g', cap', rfl⟩ := OwnB.some_of HO5.out (by rw [letL_len]; omega)
      clear ho5 hc5 VX HOA HCA HS sA
      have HL5 : Hid ((letL c (k + 1)).length = k + 1) := letL_len c (k + 1)
      rw [HL5.out] at HO5 ⊢
      go_wp2
      go_roundw
      case rel => exact ⟨k + 1, g', cap', by omega, by go_num, rfl, HO5.out, HC5.out⟩
      case measure => simp [RowKit.intOf]; omega
    · obtain rfl : k = n := by omega
      have hst := (OwnB.seen ho (by rw [letL_len]; omega)).str
      go_wp2
      go_ret
      exact ⟨by rw [HR.out]; rfl, HC.out⟩

end Go.Proofs.YteaeikmgkmpkiaaGreatDoor
