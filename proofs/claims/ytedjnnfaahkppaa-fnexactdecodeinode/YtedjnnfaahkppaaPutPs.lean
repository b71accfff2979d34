/- Several short texts in one: CopyRow, PutPs. -/
import Derived.Test.YtedjnnfaahkppaaByt
import Derived.Laws.CopyOwn
import Derived.Test.YtedjnnfaahkppaaRowZ
import Derived.Test.YtedjnnfaahkppaaPutByt
import Derived.Test.YtedjnnfaahkppaaWeak
import Derived.Test.YtedjnnfaahkppaaHeld
import Derived.Deep.DeepCutAuto
namespace Go.Proofs.Ytedjnnfaahkppaa
open Go.RowKit

theorem wp_copy_row {P : Program} {o : Oper} {a : Act} {w : World} {K : Act → World → Prop} {Q : Exit → Act → World → Prop} (d s : Operand) (dT sT : TypeId)
    (ho : o.op = .call { callee := .builtin .copy, args := #[d, s], argTypes := #[dT, sT] }) (elem : TypeId) (hu : P.underlying dT = some (.slice elem)) (hsz : (P.info? elem).map (·.size) = some 1)
    (g off dLen dCap : Nat) (ad : Addr) (sLen sCap : Nat) (hd : a.eval d = .slice (some ⟨g, off, none⟩) dLen dCap) (hs : a.eval s = .slice (some ad) sLen sCap)
    (cur : List Value) (t : TypeId) (hg : w.heap[g]? = some (.cells cur.toArray t (0, 0))) (cs : List Value) (hn : cs.length = Nat.min sLen dLen)
    (hsrc : ∀ j v, cs[j]? = some v → w.cell? (ad.add j) = some v) (hfit : off + cs.length ≤ cur.length) (h1 : ∀ v ∈ cs, v.oneCell' = true)
    (h : ∀ w', Hid (w'.heap[g]? = some (.cells (splice cur off cs).toArray t (0, 0))) → Chg g (g + 1) w w' → K (a.put o.dst (goInt cs.length)) w') :
    Oper.wp P o a w K Q := by
  have hrun := run_copy_row (P := P) w dT sT o.type elem g off dLen dCap ad sLen sCap cur.toArray t cs hu hsz hg hn hsrc (by simpa using hfit) h1
  unfold Oper.wp
  simp [execOp, ho, resolve, invoke, builtin, hd, hs, hrun, Result.andThen]
  exact h _ (show _ = _ by simpa [splice] using setRow_heap w g _ _ t _ hg) (Chg.setRow _ _ _)

end Go.Proofs.Ytedjnnfaahkppaa

namespace Go.Proofs.Ytedjnnfaahkppaa
open Go.RowKit

/-- The bytes of numbers, two each. -/
def putPs (xs : List Int) : List Int := xs.flatMap fun x => putN x 2
theorem put2_len {x : Int} (h : 0 ≤ x ∧ x < 2048) : (putN x 2).length = 2 := by
  unfold putN
  rw [if_neg (by omega), if_neg (by have : (256 : Int) ^ (2 : Int).toNat = 65536 := rfl; rw [this]; omega), digs_length]; rfl
theorem putPs_len {xs : List Int} (h : ∀ x ∈ xs, 0 ≤ x ∧ x < 2048) : (putPs xs).length = 2 * xs.length := by
  unfold putPs
  induction xs with
  | nil => rfl
  | cons x r ih =>
    rw [List.flatMap_cons, List.length_append, put2_len (h x (by simp)), ih (fun y hy => h y (by simp [hy])), List.length_cons]; omega
theorem putPs_take {xs : List Int} {k : Nat} (h : k < xs.length) : putPs (xs.take (k + 1)) = putPs (xs.take k) ++ putN (xs.getD k 0) 2 := by
  unfold putPs
  rw [List.take_succ_eq_append_getElem h, List.flatMap_append]
  simp [List.getD_eq_getElem?_getD, h]
theorem splice_more {c xs ys : List Value} {o : Nat} (h : o + xs.length + ys.length ≤ c.length) : splice (splice c o xs) (o + xs.length) ys = splice c o (xs ++ ys) := by
  have e0 : (c.take o).length = o := by rw [List.length_take]; omega
  have e1 : (c.take o ++ xs).length = o + xs.length := by rw [List.length_append, e0]
  have A : (c.take o ++ (xs ++ c.drop (o + xs.length))).take (o + xs.length) = c.take o ++ xs := by
    rw [← List.append_assoc, List.take_append_of_le_length (by rw [e1]; exact Nat.le_refl _), List.take_of_length_le (by rw [e1]; exact Nat.le_refl _)]
  have B : (c.take o ++ (xs ++ c.drop (o + xs.length))).drop (o + xs.length + ys.length) = c.drop (o + xs.length + ys.length) := by
    rw [← List.append_assoc, List.drop_append, List.drop_eq_nil_of_le (by rw [e1]; omega), List.nil_append, e1, List.drop_drop]
    congr 1; omega
  unfold splice
  simp only [List.append_assoc] at A B ⊢
  rw [A, B, List.length_append, List.append_assoc, show o + (xs.length + ys.length) = o + xs.length + ys.length by omega]
theorem splice_nil {c : List Value} {o : Nat} : splice c o [] = c := by unfold splice; simp

/-- What lies where bytes that are one's own are seen. -/
theorem OwnB.two {x : World} {base : Nat} {e : TypeId} {r : Value} {xs : List Int} {n : Nat} (o2 : OwnB x base e r xs) (hn : xs.length = n) (hp : 0 < n) (hb : n ≤ 1048576) :
    ∃ g gc, r = .slice (some ⟨g, 0, none⟩) n gc ∧ ∀ j v, (xs.map (Value.int .u8))[j]? = some v → x.cell? ((⟨g, 0, none⟩ : Addr).add j) = some v := by
  have hv := o2.view (hi := x.heap.size) (by omega) (fun g hg => (o2.lt g hg).2)
  rcases o2.2 with ⟨_, h0⟩ | ⟨g, gc, cur, rfl, hg, hh, h1, h2, h3, h4⟩
  · omega
  · refine ⟨g, gc, by rw [hn], fun j v hj => ?_⟩
    rw [Addr.add_mid, Nat.zero_add]
    have hj' : cur.toList[j]? = some v := by
      rw [← h4] at hj
      rw [List.getElem?_take] at hj
      split at hj
      · exact hj
      · cases hj
    simp only [World.cell?, hh]
    simpa using hj'

set_option maxRecDepth 20000 in
set_option maxHeartbeats 2000000 in
theorem putPointers_calls (w : World) (B o n cap : Nat) (T : TypeId) (cs : List Value) (hA : ArrC w B T cs) (xs : List Int) (b off c2 : Nat) (hbB : b ≠ B) (hl : xs.length ≤ 1000) (hn : 2 * xs.length ≤ n) (hcap : n ≤ cap) (hcap2 : cap ≤ 1048576) (hon : o + n ≤ cs.length)
    (hg : ∀ x ∈ xs, 0 ≤ x ∧ x < 2048) (h1 : ∀ i, i < xs.length → w.cell? ⟨b, off + i, none⟩ = some (.int .i64 (xs.getD i 0))) :
    Calls Try.prog 39 #[.slice (some ⟨B, o, none⟩) n cap, .slice (some ⟨b, off, none⟩) xs.length c2] w fun e w' => (∃ v, e = .returned v) ∧ ArrC w' B T (splice cs o ((putPs xs).map (Value.int .u8))) ∧ Chg B (B + 1) w w' := by
  go_enter Try.func39, Try.ntmps39
  go_wp2
  go_loopw [8] (fun x wr => ∃ k : Nat, k ≤ xs.length ∧ x = .int .i64 k ∧ ArrC wr B T (splice cs o ((putPs (xs.take k)).map (Value.int .u8))) ∧ Chg B (B + 1) w wr) (fun x _ => xs.length - (intOf x).toNat)
  case atStart => exact ⟨0, Nat.zero_le _, rfl, by rw [List.take_zero]; show ArrC _ _ _ (splice cs o []); rw [splice_nil]; exact hA, Chg.refl _ _ _⟩
  case round =>
    obtain ⟨k, hk, rfl, ho, hc⟩ := hrel
    by_cases hlt : k < xs.length
    · have c1 := hc.cell (h1 k hlt) (by omega)
      have hx : xs.getD k 0 = xs[k] := by simp [List.getD_eq_getElem?_getD, hlt]
      have hi : (k : Int) < (xs.length : Int) := by omega
      have hgx := hg _ (List.getElem_mem hlt)
      rw [← hx] at hgx
      have h2 := put2_len hgx
      have hxb := hgx.2
      have hkl : (putPs (xs.take k)).length = 2 * k := by rw [putPs_len (fun x hx => hg x (List.mem_of_mem_take hx)), List.length_take, Nat.min_eq_left hk]
      have HT : Hid (splice (splice cs o ((putPs (xs.take k)).map (Value.int .u8))) (o + 2 * k) ((putN (xs.getD k 0) 2).map (Value.int .u8)) = splice cs o ((putPs (xs.take (k + 1))).map (Value.int .u8))) := by
        show _ = _
        rw [putPs_take hlt, List.map_append, ← splice_more (by rw [List.length_map, List.length_map, hkl, h2]; omega), List.length_map, hkl]
      have HL : Hid ((splice cs o ((putPs (xs.take k)).map (Value.int .u8))).length = cs.length) := length_splice _ _ _ (by rw [List.length_map, hkl]; omega)
      have H2 : Hid ((putN (xs.getD k 0) 2).length = 2) := h2
      have HO : Hid (ArrC wr B T (splice cs o ((putPs (xs.take k)).map (Value.int .u8)))) := ho
      have HC : Hid (Chg B (B + 1) w wr) := hc
      generalize splice cs o ((putPs (xs.take k)).map (Value.int .u8)) = cur at *
      generalize xs.getD k 0 = x at *
      have q1 : (0 : Int) ≤ (k : Int) * 2 := by omega
      have q2 : (k : Int) * 2 ≤ (n : Int) := by omega
      have q3 : ((k : Int) * 2).toNat = 2 * k := by omega
      have q5 : ¬ cap = 2 * k := by omega
      have q4 : IntKind.i64.wrap ((k : Int) * 2) = (k : Int) * 2 := by rw [IntKind.wrap_i64]; omega
      clear hx hgx h2 hkl hg h1 ho hc hA
      go_upto_region 3 with fail
      have HS0 : Hid ((fun _ : World => True) wr.drew) := trivial
      refine held_region (fun _ : World => True) (by kernel_rfl) ?_
      refine held_take 0 (.slice (some ⟨B, o, none⟩) n cap) rfl (by kernel_rfl) (by kernel_rfl) (by kernel_rfl) (fun _ _ _ h => h) (.inl ⟨by kernel_rfl, fun w' hw' => by go_simp⟩) HS0.out ?_
      go_simp
      refine held_take 1 (.int .i64 (k : Int)) rfl (by kernel_rfl) (by kernel_rfl) (by kernel_rfl) (fun _ _ _ h => h) (.inl ⟨by kernel_rfl, fun w' hw' => by go_simp⟩) HS0.out ?_
      go_simp
      refine held_take 2 (.int .i64 ((k : Int) * 2)) rfl (by kernel_rfl) (by kernel_rfl) (by kernel_rfl) (fun _ _ _ h => h) (.inl ⟨by kernel_rfl, fun w' hw' => by go_simp⟩) HS0.out ?_
      go_simp
      refine held_take 3 (.slice (some ⟨B, o + 2 * k, none⟩) (n - 2 * k) (cap - 2 * k)) rfl (by kernel_rfl) (by kernel_rfl) (by kernel_rfl) (fun _ _ _ h => h) (.inl ⟨by kernel_rfl, fun w' hw' => by go_simp⟩) HS0.out ?_
      go_simp
      refine held_take 4 (.int .i64 x) rfl (by kernel_rfl) (by kernel_rfl) (by kernel_rfl) (fun _ _ _ h => h) (.inl ⟨by kernel_rfl, fun w' hw' => by go_simp⟩) HS0.out ?_
      go_simp
      have C0 : Chg 0 0 wr wr.drew := Chg.drew (Chg.refl 0 0 wr)
      have HO1 : Hid (ArrC wr.drew B T cur) := HO.out.chg C0 (by omega)
      have HC1 : Hid (Chg B (B + 1) w wr.drew) := HC.out.step C0 (Or.inr (Or.inr (Nat.le_refl _)))
      clear HO HC
      generalize wr.drew = x1 at *
      have hB1 := HO1.out.lt
      have hN := implPut_calls x1 x 2 (by omega)
      refine held_one 5 rfl rfl (by kernel_rfl) ?_
      refine wp_enter 38 #[.int .i64 x, .int .i64 2] (by first | kernel_rfl | go_simp) hN ?_
      rintro e x2 ⟨r, rfl, o2, c2⟩
      have HO2 : Hid (ArrC x2 B T cur) := HO1.out.chg c2 (by omega)
      have HC2 : Hid (Chg B (B + 1) w x2) := HC1.out.step c2 (Or.inr (Or.inr (Nat.le_refl _)))
      obtain ⟨g, gc, rfl, hcell⟩ := o2.two H2.out (by omega) (by omega)
      refine ⟨_, rfl, trivial, ?_⟩
      have Hcell : Hid (∀ j v, ((putN x 2).map (Value.int .u8))[j]? = some v → x2.cell? ((⟨g, 0, none⟩ : Addr).add j) = some v) := hcell
      clear hN o2 c2 hcell HO1 HC1 C0
      go_simp
      refine held_one 6 rfl rfl (by kernel_rfl) ?_
      refine wp_copy_row (.tmp 16) (.tmp 18) 22 22 rfl 5 Try.underlying22 (by kernel_rfl) B (o + 2 * k) (n - 2 * k) (cap - 2 * k) ⟨g, 0, none⟩ 2 gc rfl rfl cur T HO2.out ((putN x 2).map (Value.int .u8)) (by rw [List.length_map, H2.out]; exact (Nat.min_eq_left (by omega)).symm) Hcell.out (by rw [List.length_map, H2.out, HL.out]; omega) (by intro v hv; rw [List.mem_map] at hv; obtain ⟨y, _, rfl⟩ := hv; rfl) ?_
      intro x3 hb3 hc3
      have HO3 : Hid (ArrC x3 B T (splice cs o ((putPs (xs.take (k + 1))).map (Value.int .u8)))) := by show ArrC _ _ _ _; rw [← HT.out]; exact hb3.out
      have HC3 : Hid (Chg B (B + 1) w x3) := HC2.out.trans hc3
      refine ⟨trivial, ?_⟩
      clear hb3 hc3 Hcell HO2 HC2
      go_simp
      refine held_done (by kernel_rfl) (NoPanic.normal ?_)
      go_wp2
      go_roundw
      case rel => exact ⟨k + 1, by omega, by go_num, HO3.out, HC3.out⟩
      case measure => simp [intOf]; omega
    · obtain rfl : k = xs.length := by omega
      rw [List.take_length] at ho
      have HO : Hid (ArrC wr B T (splice cs o ((putPs xs).map (Value.int .u8)))) := ho
      clear ho h1 hg
      go_wp2
      refine bodyPost_end (results_none rfl _ _ _) rfl ?_
      exact ⟨⟨_, rfl⟩, HO.out, hc⟩

end Go.Proofs.Ytedjnnfaahkppaa
