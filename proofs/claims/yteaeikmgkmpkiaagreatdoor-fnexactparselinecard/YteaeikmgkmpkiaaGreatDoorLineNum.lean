/- Several short texts in one: LineWord, LineNum. -/
import Derived.Test.YteaeikmgkmpkiaaGreatDoorTextL
import Derived.Test.YteaeikmgkmpkiaaGreatDoorMapText
import Derived.Lib.IndexBytes
import Derived.Test.YteaeikmgkmpkiaaGreatDoorNumImpl
import Derived.Test.YteaeikmgkmpkiaaGreatDoorTakeB
import Derived.Test.YteaeikmgkmpkiaaGreatDoorBytSeen
import Derived.Test.YteaeikmgkmpkiaaGreatDoorDecL
namespace Go.Proofs.YteaeikmgkmpkiaaGreatDoor
open Go.RowKit

theorem tl_yes {x : ByteArray} {l : List UInt8} (h : x = ⟨l.toArray⟩) : (x.toList == l) = true := by
  rw [h, Lib.toList_data]; simp
theorem tl_no {x : ByteArray} {l : List UInt8} (h : x ≠ ⟨l.toArray⟩) : (x.toList == l) = false := by
  cases hb : (x.toList == l) with
  | false => rfl
  | true =>
    exfalso
    apply h
    rw [Lib.toList_data] at hb
    have h2 : x.data.toList = l := by simpa using hb
    rw [← h2]
theorem tl_no2 {x y : ByteArray} (h : y ≠ x) : (y.toList == x.toList) = false := tl_no (fun e => h (by rw [e, Lib.toList_data]))
theorem tl_yes2 (x : ByteArray) : (x.toList == x.toList) = true := by simp

def wordN (w : ByteArray) : Int := if w = ⟨#[99, 114, 101, 97, 116, 101]⟩ then 1 else if w = ⟨#[109, 107, 100, 105, 114]⟩ then 2 else if w = ⟨#[117, 110, 108, 105, 110, 107]⟩ then 3 else if w = ⟨#[114, 109, 100, 105, 114]⟩ then 4 else if w = ⟨#[111, 112, 101, 110]⟩ then 14 else if w = ⟨#[115, 116, 97, 116]⟩ then 18 else if w = ⟨#[108, 115, 116, 97, 116]⟩ then 19 else if w = ⟨#[108, 105, 115, 116]⟩ then 20 else if w = ⟨#[114, 101, 97, 100, 108, 105, 110, 107]⟩ then 21 else 0

set_option maxRecDepth 20000 in
set_option maxHeartbeats 4000000 in
theorem l14Word_calls (w : World) (x : ByteArray) : Calls Tryz.prog 14 #[.string x] w fun e w' => e = .returned (.int .i64 (wordN x)) ∧ w' = w := by
  obtain ⟨R, HR⟩ : ∃ R, Hid (R = wordN x) := ⟨_, rfl⟩
  rw [← HR.out]
  go_enter Tryz.func14, Tryz.ntmps14
  by_cases h0 : x = ⟨#[99, 114, 101, 97, 116, 101]⟩
  · have HK : Hid (R = 1) := by show _ = _; rw [HR.out]; unfold wordN; rw [if_pos h0]
    have b0 : (x.toList == [99, 114, 101, 97, 116, 101]) = true := tl_yes h0
    clear h0
    go_wp2
    go_ret
    exact ⟨by rw [HK.out]; rfl, rfl⟩
  have b0 : (x.toList == [99, 114, 101, 97, 116, 101]) = false := tl_no h0
  by_cases h1 : x = ⟨#[109, 107, 100, 105, 114]⟩
  · have HK : Hid (R = 2) := by show _ = _; rw [HR.out]; unfold wordN; rw [if_neg h0, if_pos h1]
    have b1 : (x.toList == [109, 107, 100, 105, 114]) = true := tl_yes h1
    clear h0 h1
    go_wp2
    go_ret
    exact ⟨by rw [HK.out]; rfl, rfl⟩
  have b1 : (x.toList == [109, 107, 100, 105, 114]) = false := tl_no h1
  by_cases h2 : x = ⟨#[117, 110, 108, 105, 110, 107]⟩
  · have HK : Hid (R = 3) := by show _ = _; rw [HR.out]; unfold wordN; rw [if_neg h0, if_neg h1, if_pos h2]
    have b2 : (x.toList == [117, 110, 108, 105, 110, 107]) = true := tl_yes h2
    clear h0 h1 h2
    go_wp2
    go_ret
    exact ⟨by rw [HK.out]; rfl, rfl⟩
  have b2 : (x.toList == [117, 110, 108, 105, 110, 107]) = false := tl_no h2
  by_cases h3 : x = ⟨#[114, 109, 100, 105, 114]⟩
  · have HK : Hid (R = 4) := by show _ = _; rw [HR.out]; unfold wordN; rw [if_neg h0, if_neg h1, if_neg h2, if_pos h3]
    have b3 : (x.toList == [114, 109, 100, 105, 114]) = true := tl_yes h3
    clear h0 h1 h2 h3
    go_wp2
    go_ret
    exact ⟨by rw [HK.out]; rfl, rfl⟩
  have b3 : (x.toList == [114, 109, 100, 105, 114]) = false := tl_no h3
  by_cases h4 : x = ⟨#[111, 112, 101, 110]⟩
  · have HK : Hid (R = 14) := by show _ = _; rw [HR.out]; unfold wordN; rw [if_neg h0, if_neg h1, if_neg h2, if_neg h3, if_pos h4]
    have b4 : (x.toList == [111, 112, 101, 110]) = true := tl_yes h4
    clear h0 h1 h2 h3 h4
    go_wp2
    go_ret
    exact ⟨by rw [HK.out]; rfl, rfl⟩
  have b4 : (x.toList == [111, 112, 101, 110]) = false := tl_no h4
  by_cases h5 : x = ⟨#[115, 116, 97, 116]⟩
  · have HK : Hid (R = 18) := by show _ = _; rw [HR.out]; unfold wordN; rw [if_neg h0, if_neg h1, if_neg h2, if_neg h3, if_neg h4, if_pos h5]
    have b5 : (x.toList == [115, 116, 97, 116]) = true := tl_yes h5
    clear h0 h1 h2 h3 h4 h5
    go_wp2
    go_ret
    exact ⟨by rw [HK.out]; rfl, rfl⟩
  have b5 : (x.toList == [115, 116, 97, 116]) = false := tl_no h5
  by_cases h6 : x = ⟨#[108, 115, 116, 97, 116]⟩
  · have HK : Hid (R = 19) := by show _ = _; rw [HR.out]; unfold wordN; rw [if_neg h0, if_neg h1, if_neg h2, if_neg h3, if_neg h4, if_neg h5, if_pos h6]
    have b6 : (x.toList == [108, 115, 116, 97, 116]) = true := tl_yes h6
    clear h0 h1 h2 h3 h4 h5 h6
    go_wp2
    go_ret
    exact ⟨by rw [HK.out]; rfl, rfl⟩
  have b6 : (x.toList == [108, 115, 116, 97, 116]) = false := tl_no h6
  by_cases h7 : x = ⟨#[108, 105, 115, 116]⟩
  · have HK : Hid (R = 20) := by show _ = _; rw [HR.out]; unfold wordN; rw [if_neg h0, if_neg h1, if_neg h2, if_neg h3, if_neg h4, if_neg h5, if_neg h6, if_pos h7]
    have b7 : (x.toList == [108, 105, 115, 116]) = true := tl_yes h7
    clear h0 h1 h2 h3 h4 h5 h6 h7
    go_wp2
    go_ret
    exact ⟨by rw [HK.out]; rfl, rfl⟩
  have b7 : (x.toList == [108, 105, 115, 116]) = false := tl_no h7
  by_cases h8 : x = ⟨#[114, 101, 97, 100, 108, 105, 110, 107]⟩
  · have HK : Hid (R = 21) := by show _ = _; rw [HR.out]; unfold wordN; rw [if_neg h0, if_neg h1, if_neg h2, if_neg h3, if_neg h4, if_neg h5, if_neg h6, if_neg h7, if_pos h8]
    have b8 : (x.toList == [114, 101, 97, 100, 108, 105, 110, 107]) = true := tl_yes h8
    clear h0 h1 h2 h3 h4 h5 h6 h7 h8
    go_wp2
    go_ret
    exact ⟨by rw [HK.out]; rfl, rfl⟩
  have b8 : (x.toList == [114, 101, 97, 100, 108, 105, 110, 107]) = false := tl_no h8
  have HK : Hid (R = 0) := by show _ = _; rw [HR.out]; unfold wordN; rw [if_neg h0, if_neg h1, if_neg h2, if_neg h3, if_neg h4, if_neg h5, if_neg h6, if_neg h7, if_neg h8]
  clear h0 h1 h2 h3 h4 h5 h6 h7 h8
  go_wp2
  go_ret
  exact ⟨by rw [HK.out]; rfl, rfl⟩

def loneW : List ByteArray := [⟨#[115, 121, 110, 99]⟩, ⟨#[99, 104, 101, 99, 107, 112, 111, 105, 110, 116]⟩, ⟨#[115, 112, 97, 99, 101]⟩, ⟨#[108, 111, 103]⟩]
def loneF (x : ByteArray) : Nat → List ByteArray → Int
  | _, [] => 0
  | i, a :: r => if a = x then 22 + (i : Int) else loneF x (i + 1) r
def loneN (x : ByteArray) : Int := loneF x 0 loneW
theorem lone_drop (k : Nat) (h : k < 4) : loneW.drop k = loneW.getD k noText :: loneW.drop (k + 1) := by
  match k, h with
  | 0, _ => rfl
  | 1, _ => rfl
  | 2, _ => rfl
  | 3, _ => rfl

set_option maxRecDepth 20000 in
set_option maxHeartbeats 4000000 in
theorem l14Lone_calls (w : World) (x : ByteArray) : Calls Tryz.prog 13 #[.string x] w fun e w' => e = .returned (.int .i64 (loneN x)) ∧ Chg 0 0 w w' := by
  obtain ⟨R, HR⟩ : ∃ R, Hid (R = loneN x) := ⟨_, rfl⟩
  rw [← HR.out]
  have HC : Hid (Chg 0 0 w (w.alloc (.cells #[.string ⟨#[115, 121, 110, 99]⟩, .string ⟨#[99, 104, 101, 99, 107, 112, 111, 105, 110, 116]⟩, .string ⟨#[115, 112, 97, 99, 101]⟩, .string ⟨#[108, 111, 103]⟩] 9))) := Chg.alloc (Chg.refl 0 0 w) _
  have HH : Hid ((w.alloc (.cells #[.string ⟨#[115, 121, 110, 99]⟩, .string ⟨#[99, 104, 101, 99, 107, 112, 111, 105, 110, 116]⟩, .string ⟨#[115, 112, 97, 99, 101]⟩, .string ⟨#[108, 111, 103]⟩] 9)).heap[w.heap.size]? = some (.cells (loneW.map Value.string).toArray 9 (0, 0))) := heap_new w _
  go_enter Tryz.func13, Tryz.ntmps13
  go_wp2_with fail
  generalize w.alloc (.cells #[.string ⟨#[115, 121, 110, 99]⟩, .string ⟨#[99, 104, 101, 99, 107, 112, 111, 105, 110, 116]⟩, .string ⟨#[115, 112, 97, 99, 101]⟩, .string ⟨#[108, 111, 103]⟩] 9) = w1 at *
  go_loopw [4] (fun i wr => wr = w1 ∧ ∃ k : Nat, k ≤ 4 ∧ i = .int .i64 k ∧ R = loneF x k (loneW.drop k)) (fun i _ => 4 - (intOf i).toNat)
  case atStart => exact ⟨rfl, 0, by omega, rfl, HR.out⟩
  case round =>
    obtain ⟨rfl, k, hk, rfl, hR⟩ := hrel
    by_cases hlt : k < 4
    · have hi : (k : Int) < 4 := by omega
      have hc : wr.cell? ⟨w.heap.size, k, none⟩ = some (.string (loneW.getD k noText)) := by
        rw [Lib.cell_of_heap HH.out]
        have hl : k < loneW.length := hlt
        simp [List.getD_eq_getElem?_getD, hl]
      have HS : Hid (R = if loneW.getD k noText = x then 22 + (k : Int) else loneF x (k + 1) (loneW.drop (k + 1))) := by
        show _ = _
        rw [hR, lone_drop k hlt]; rfl
      generalize loneW.getD k noText = y at *
      clear hR
      by_cases he : y = x
      · have hb : (y.toList == x.toList) = true := by rw [he]; exact tl_yes2 x
        have HK : Hid (R = 22 + (k : Int)) := by show _ = _; rw [HS.out, if_pos he]
        clear he HS
        go_wp2
        go_ret
        exact ⟨by rw [HK.out]; rfl, HC.out⟩
      · have hb : (y.toList == x.toList) = false := tl_no2 he
        have HK : Hid (R = loneF x (k + 1) (loneW.drop (k + 1))) := by show _ = _; rw [HS.out, if_neg he]
        clear he HS
        go_wp2
        go_roundw
        case rel => exact ⟨trivial, k + 1, by omega, by go_num, HK.out⟩
        case measure => simp [intOf]; omega
    · obtain rfl : k = 4 := by omega
      have HK : Hid (R = 0) := by show _ = _; rw [hR]; rfl
      clear hR
      go_wp2
      go_ret
      exact ⟨by rw [HK.out]; rfl, HC.out⟩

end Go.Proofs.YteaeikmgkmpkiaaGreatDoor

namespace Go.Proofs.YteaeikmgkmpkiaaGreatDoor
open Go.RowKit Go.Lib

/-- append of one number to numbers of one's own, nothing else told. -/
theorem wpList_app_i {ops : Array Oper} {rest : List Oper} {o : Oper} {a : Act} {w : World} {Q : Exit → Act → World → Prop} (hgd : o.guard = none) (s x : Operand)
    (ho : o.op = .call { callee := .builtin .append, args := #[s, x], argTypes := #[25, 25] })
    (base : Nat) (sv : Value) (xs : List Int) (hs : a.eval s = sv) (hO : OwnN w base sv xs) (hbase : base ≤ w.heap.size) (d : Nat) (n : Int) (hx : a.eval x = .slice (some ⟨d, 0, none⟩) 1 1) (hd : w.cell? ⟨d, 0, none⟩ = some (.int .i64 n)) (hl : xs.length ≤ 1048576)
    (h : ∀ g cp w', OwnN w' base (.slice (some ⟨g, 0, none⟩) (xs.length + 1) cp) (xs ++ [n]) → Chg base w.heap.size w w' → wpList Tryz.prog ops Q rest (a.put o.dst (.slice (some ⟨g, 0, none⟩) (xs.length + 1) cp)) w') : wpList Tryz.prog ops Q (o :: rest) a w := by
  obtain ⟨i, hi, hz0, hz1, hz2⟩ := info_parts Tryz.infoN
  have hrow : w.ownsRow base 2 1 sv xs.length (xs.map (Value.int .i64)) := hO
  have HNW : ∀ j u, [Value.int .i64 n][j]? = some u → w.cell? ((⟨d, 0, none⟩ : Addr).add j) = some u := by
    intro j u hj
    match j, hj with
    | 0, hj => simp at hj; subst hj; simpa [Addr.add] using hd
  refine wpList_append_own _ hgd s x 25 ho base 2 i (.int .i64 0) 1 8 Tryz.underlying25 hi hz0 hz1 hz2 rfl (by decide) sv xs.length (xs.map (Value.int .i64)) hs hrow ⟨d, 0, none⟩ 1 1 [.int .i64 n] hx rfl HNW (fun u hu => by simp at hu; subst hu; rfl) (by unfold maxLen; omega) (by omega) hbase ?_
  intro v' w2 hown hgrow _
  obtain ⟨g, cp, rfl⟩ : ∃ g cp, v' = .slice (some ⟨g, 0, none⟩) (xs.length + 1) cp := by
    rcases hown.2 with ⟨_, h0⟩ | ⟨g, cap, cur, hv, _⟩
    · omega
    · exact ⟨g, cap, hv⟩
  refine h g cp w2 ?_ (Chg.ofGrown hgrow (fun k hk _ => World.ownsRow.lt hrow k hk))
  unfold OwnN
  rw [List.length_append, List.map_append]
  exact hown

def numsG : List Int → List ByteArray → List Int × Bool
  | acc, [] => (acc, true)
  | acc, x :: r => match numF x with
    | none => (acc, false)
    | some n => numsG (acc ++ [n]) r

theorem OwnN.nil' (w : World) : OwnN (w.alloc (.cells #[] 2)) w.heap.size (.slice (some ⟨w.heap.size, 0, none⟩) 0 0) [] := by
  have := World.ownsRow_lit (base := w.heap.size) (e := 2) (size := 1) w #[] 0 (Nat.le_refl _) (by unfold maxLen; omega) (by simp)
  simpa [OwnN] using this

set_option maxRecDepth 20000 in
set_option maxHeartbeats 4000000 in
theorem l14Numbers_calls (w : World) (F : List ByteArray) (gf fc : Nat) (hF : ∀ i, i < F.length → w.cell? ⟨gf, i, none⟩ = some (.string (F.getD i noText))) (h1 : 1 ≤ F.length) (hl : F.length ≤ 65537) (hs : ∀ x ∈ F, x.size ≤ 1048576) :
    Calls Tryz.prog 15 #[.slice (some ⟨gf, 0, none⟩) F.length fc, .int .i64 1] w fun e w' => ∃ g cp, e = .returned (.tuple #[.slice (some ⟨g, 0, none⟩) (numsG [] (F.drop 1)).1.length cp, .bool (numsG [] (F.drop 1)).2]) ∧ OwnN w' w.heap.size (.slice (some ⟨g, 0, none⟩) (numsG [] (F.drop 1)).1.length cp) (numsG [] (F.drop 1)).1 ∧ Chg 0 0 w w' := by
  have HO0 : Hid (OwnN (w.alloc (.cells #[] 2)) w.heap.size (.slice (some ⟨w.heap.size, 0, none⟩) 0 0) []) := OwnN.nil' w
  have HC0 : Hid (Chg 0 0 w (w.alloc (.cells #[] 2))) := Chg.alloc (Chg.refl 0 0 w) _
  have HF : Hid (∀ i, i < F.length → w.cell? ⟨gf, i, none⟩ = some (.string (F.getD i noText))) := hF
  have HS : Hid (∀ x ∈ F, x.size ≤ 1048576) := hs
  obtain ⟨R, HR⟩ : ∃ R, Hid (R = numsG [] (F.drop 1)) := ⟨_, rfl⟩
  rw [← HR.out]
  clear hF hs
  go_enter Tryz.func15, Tryz.ntmps15
  go_wp2
  go_loopw [6, 7] (fun o x wr => ∃ (k g cp : Nat) (ns : List Int), 1 ≤ k ∧ k ≤ F.length ∧ ns.length ≤ k ∧ x = .int .i64 k ∧ o = .slice (some ⟨g, 0, none⟩) ns.length cp ∧ OwnN wr w.heap.size (.slice (some ⟨g, 0, none⟩) ns.length cp) ns ∧ Chg 0 0 w wr ∧ R = numsG ns (F.drop k)) (fun _ x _ => F.length - (RowKit.intOf x).toNat)
  case atStart => exact ⟨1, _, _, [], by omega, by omega, by simp, rfl, rfl, HO0.out, HC0.out, HR.out⟩
  case round =>
    obtain ⟨k, g, cp, ns, hk1, hk, hp, rfl, rfl, ho, hch, hR⟩ := hrel
    have HC : Hid (Chg 0 0 w wr) := hch
    have HO : Hid (OwnN wr w.heap.size (.slice (some ⟨g, 0, none⟩) ns.length cp) ns) := ho
    have s1 := hch.size
    clear HO0 HC0
    by_cases hlt : k < F.length
    · have hi : (k : Int) < (F.length : Int) := by omega
      have hc := hch.cell (HF.out k hlt) (by omega)
      have eX : F.drop k = F.getD k noText :: F.drop (k + 1) := by
        rw [List.drop_eq_getElem_cons hlt, List.getD_eq_getElem?_getD, List.getElem?_eq_getElem hlt]; rfl
      have hxm : F.getD k noText ∈ F := by
        rw [List.getD_eq_getElem?_getD, List.getElem?_eq_getElem hlt]; exact List.getElem_mem hlt
      have hN := l14Number_calls wr (F.getD k noText) (HS.out _ hxm)
      rw [eX] at hR
      generalize F.getD k noText = x at *
      clear ho hch eX hxm
      cases hn : numF x with
      | none =>
        have Hn : Hid (R = (ns, false)) := by show _ = _; rw [hR]; show (match numF x with | none => _ | some n => _) = _; rw [hn]
        rw [hn] at hN
        clear hR hn
        go_wp2_with fail
        refine hN.mono ?_
        rintro e w2 ⟨rfl, c2⟩
        have HC2 : Hid (Chg 0 0 w w2) := HC.out.trans c2
        have HO2 : Hid (OwnN w2 w.heap.size (.slice (some ⟨g, 0, none⟩) ns.length cp) ns) := HO.out.chg c2 (by omega)
        clear c2 hN
        go_wp2
        exact bodyPost_ret (v := .tuple #[.slice (some ⟨g, 0, none⟩) ns.length cp, .bool false]) (by simp [results, Tryz.results15, go_sem]) rfl ⟨g, cp, by rw [Hn.out], by rw [Hn.out]; exact HO2.out, HC2.out⟩
      | some n =>
        have Hn : Hid (R = numsG (ns ++ [n]) (F.drop (k + 1))) := by show _ = _; rw [hR]; show (match numF x with | none => _ | some n => _) = _; rw [hn]
        rw [hn] at hN
        clear hR hn
        go_wp2_with fail
        refine hN.mono ?_
        rintro e w2 ⟨rfl, c2⟩
        have HC2 : Hid (Chg 0 0 w (w2.alloc (.cells #[.int .i64 n] 2))) := (HC.out.trans c2).alloc _
        have HO2 : Hid (OwnN (w2.alloc (.cells #[.int .i64 n] 2)) w.heap.size (.slice (some ⟨g, 0, none⟩) ns.length cp) ns) := (HO.out.chg c2 (by omega)).chg (Chg.alloc (Chg.refl 0 0 _) _) (by omega)
        have HNW : Hid ((w2.alloc (.cells #[.int .i64 n] 2)).cell? ⟨w2.heap.size, 0, none⟩ = some (.int .i64 n)) := by
          show _ = _
          rw [Lib.cell_of_heap (heap_new w2 _)]; rfl
        have s2 := c2.size
        clear c2 hN
        rw [Option.isSome_some, Option.getD_some]
        go_wp2_with (at_builtin; refine wpList_app_i rfl (.tmp 29) (.tmp 31) rfl w.heap.size _ ns rfl HO2.out (by simp; omega) w2.heap.size n rfl HNW.out (by omega) ?_)
        intro g' cap' w5 ho5 hc5
        have HO5 : Hid (OwnN w5 w.heap.size (.slice (some ⟨g', 0, none⟩) (ns ++ [n]).length cap') (ns ++ [n])) := by show OwnN _ _ _ _; rw [List.length_append]; exact ho5
        have HC5 : Hid (Chg 0 0 w w5) := HC2.out.step hc5 (Or.inr (Or.inl (Nat.le_refl _)))
        clear ho5 hc5 HNW HO2 HC2
        go_wp2
        go_roundw
        case rel => exact ⟨k + 1, g', cap', ns ++ [n], by omega, by omega, by simp; omega, by go_num, by simp, HO5.out, HC5.out, Hn.out⟩
        case measure => simp [RowKit.intOf]; omega
    · obtain rfl : k = F.length := by omega
      have Hn : Hid (R = (ns, true)) := by show _ = _; rw [hR, List.drop_length]; rfl
      clear hR
      go_wp2
      exact bodyPost_ret (v := .tuple #[.slice (some ⟨g, 0, none⟩) ns.length cp, .bool true]) (by simp [results, Tryz.results15, go_sem]) rfl ⟨g, cp, by rw [Hn.out], by rw [Hn.out]; exact HO.out, HC.out⟩

theorem letL_succ (c k : Nat) : letL c (k + 1) = letL c k ++ [((97 + (c - 97 + k) % 26 : Nat) : Int)] := by
  unfold letL; rw [List.range_succ, List.map_append]; rfl
theorem letL_len (c k : Nat) : (letL c k).length = k := by unfold letL; simp

set_option maxRecDepth 20000 in
set_option maxHeartbeats 4000000 in
theorem l14Letters_calls (w : World) (n c : Nat) (hn : n ≤ 3000) (h0 : 97 ≤ c) (h1 : c ≤ 122) :
    Calls Tryz.prog 26 #[.int .i64 n, .int .u8 c] w fun e w' => e = .returned (.string (strOfNums (letL c n))) ∧ Chg 0 0 w w' := by
  obtain ⟨R, HR⟩ : ∃ R, Hid (R = strOfNums (letL c n)) := ⟨_, rfl⟩
  rw [← HR.out]
  have HO0 : Hid (OwnB (w.alloc (.cells #[] 5)) w.heap.size 5 (.slice (some ⟨w.heap.size, 0, none⟩) 0 0) []) := OwnB.bnil w w.heap.size (Nat.le_refl _)
  have C0 : Hid (Chg 0 0 w (w.alloc (.cells #[] 5))) := Chg.alloc (Chg.refl 0 0 w) _
  go_enter Tryz.func26, Tryz.ntmps26
  go_wp2
  go_loopw [5, 6] (fun o x wr => ∃ (k g cp : Nat), k ≤ n ∧ x = .int .i64 k ∧ o = .slice (some ⟨g, 0, none⟩) k cp ∧ OwnB wr w.heap.size 5 (.slice (some ⟨g, 0, none⟩) k cp) (letL c k) ∧ Chg 0 0 w wr) (fun _ x _ => n - (RowKit.intOf x).toNat)
  case atStart => exact ⟨0, _, _, Nat.zero_le _, rfl, rfl, HO0.out, C0.out⟩
  case round =>
    obtain ⟨k, g, cp, hk, rfl, rfl, ho, hch⟩ := hrel
    have HO : Hid (OwnB wr w.heap.size 5 (.slice (some ⟨g, 0, none⟩) k cp) (letL c k)) := ho
    have HC : Hid (Chg 0 0 w wr) := hch
    have hsw := hch.size
    clear HO0 C0
    by_cases hlt : k < n
    · have hi : (k : Int) < (n : Int) := by omega
      clear ho hch
      have e0 : IntKind.u8.wrap ((c : Int) - 97) = (c : Int) - 97 := by rw [IntKind.wrap_u8]; omega
      have e1 : IntKind.i64.wrap ((c : Int) - 97) = (c : Int) - 97 := by rw [IntKind.wrap_i64]; omega
      have e2 : IntKind.i64.wrap ((c : Int) - 97 + (k : Int)) = (c : Int) - 97 + (k : Int) := by rw [IntKind.wrap_i64]; omega
      have e3 : Int.tmod ((c : Int) - 97 + (k : Int)) 26 = (((c - 97 + k) % 26 : Nat) : Int) := by
        rw [Int.tmod_eq_emod_of_nonneg (by omega)]; omega
      obtain ⟨m, hm⟩ : ∃ m : Nat, m = (c - 97 + k) % 26 := ⟨_, rfl⟩
      have hm1 : m < 26 := by omega
      rw [← hm] at e3
      have HS : Hid (letL c (k + 1) = letL c k ++ [((97 + m : Nat) : Int)]) := by show _ = _; rw [letL_succ, hm]
      have HL : Hid ((letL c k).length = k) := letL_len c k
      have e4 : IntKind.u8.wrap (97 + (m : Int)) = 97 + (m : Int) := by rw [IntKind.wrap_u8]; omega
      clear hm
      have cA : Chg 0 0 wr (wr.alloc (.cells #[.int .u8 (97 + (m : Int))] 5)) := Chg.alloc (Chg.refl 0 0 wr) _
      have VX : Hid (View (wr.alloc (.cells #[.int .u8 (97 + (m : Int))] 5)) wr.heap.size (wr.heap.size + 1) .u8 (.slice (some ⟨wr.heap.size, 0, none⟩) 1 1) [97 + (m : Int)]) := by
        have h := row_view (w := wr.alloc (.cells #[.int .u8 (97 + (m : Int))] 5)) (b := wr.heap.size) (xs := [97 + (m : Int)]) (t := 5) (heap_new wr _) 0 1 1 (by simp) (by simp) (Nat.le_refl _)
        exact h
      have HOA : Hid (OwnB (wr.alloc (.cells #[.int .u8 (97 + (m : Int))] 5)) w.heap.size 5 (.slice (some ⟨g, 0, none⟩) k cp) (letL c k)) := HO.out.chg cA (fun g' _ => by omega)
      have HCA : Hid (Chg 0 0 w (wr.alloc (.cells #[.int .u8 (97 + (m : Int))] 5))) := HC.out.trans cA
      have sA : wr.heap.size + 1 ≤ (wr.alloc (.cells #[.int .u8 (97 + (m : Int))] 5)).heap.size := by simp
      clear cA
      go_wp2_with (at_builtin; refine wpList_app_seen rfl (.tmp 13) (.tmp 22) rfl w.heap.size _ (letL c k) rfl HOA.out (by omega) _ _ _ [97 + (m : Int)] rfl VX.out (by simp) (by rw [HL.out]; simp; omega) ?_)
      intro v' w5 ho5 hc5
      have HO5 : Hid (OwnB w5 w.heap.size 5 v' (letL c (k + 1))) := by show OwnB _ _ _ _ _; rw [HS.out]; exact ho5
      have HC5 : Hid (Chg 0 0 w w5) := HCA.out.step hc5 (Or.inr (Or.inl (Nat.le_refl _)))
      obtain ⟨g', cap', rfl⟩ := OwnB.some_of HO5.out (by rw [letL_len]; omega)
      clear ho5 hc5 VX HOA HCA HS sA
      have HL5 : Hid ((letL c (k + 1)).length = k + 1) := letL_len c (k + 1)
      rw [HL5.out] at HO5 ⊢
      go_wp2
      go_roundw
      case rel => exact ⟨k + 1, g', cap', by omega, by go_num, rfl, HO5.out, HC5.out⟩
      case measure => simp [RowKit.intOf]; omega
    · obtain rfl : k = n := by omega
      have hst := (OwnB.seen ho (by rw [letL_len]; omega)).str
      go_wp2
      go_ret
      exact ⟨by rw [HR.out]; rfl, HC.out⟩

end Go.Proofs.YteaeikmgkmpkiaaGreatDoor
