/- Several short texts in one: Loose, IsWithin, NumImpl. -/
import Derived.Test.YtacfkgfemmgpkaaGreatDoorBytSeen
import Derived.Test.YtacfkgfemmgpkaaGreatDoorBld
import Derived.Laws.Strings2
import Derived.Laws.Strings3
import Derived.Test.YtacfkgfemmgpkaaGreatDoorMem
import Derived.Test.YtacfkgfemmgpkaaGreatDoorRows
import Derived.Test.YtacfkgfemmgpkaaGreatDoorShelfErr
namespace Go.Proofs.YtacfkgfemmgpkaaGreatDoor
open Go.RowKit Go.Lib

def puV (l : List UInt8) : Nat := (puF 0 l).getD 0

/-- The variable of the error holds something. -/
def SynE (w : World) : Prop := ∃ te pe, w.cell? ⟨3, 0, none⟩ = some (.iface te pe)

theorem bytesWorld_chg (w : World) (t : ByteArray) : Chg 0 0 w (Lib.bytesWorld w 5 t) :=
  ⟨rfl, rfl, rfl, by rw [Lib.bytesWorld_size]; omega, fun k hk _ => Lib.bytesWorld_at_old w _ t k hk⟩

theorem SynE.chg {w w' : World} (h : SynE w) (c : Chg 0 0 w w') : SynE w' := by
  obtain ⟨te, pe, h⟩ := h
  exact ⟨te, pe, c.cell h (by omega)⟩

set_option maxHeartbeats 2000000 in
theorem parse16_calls (t : ByteArray) (h2 : t.size = 2) (w : World) (hE : SynE w) :
    Calls Tryz.prog 71 #[.string t, .int .i64 16, .int .i64 8] w fun e w' => ∃ er, e = .returned (.tuple #[.int .u64 (puV t.data.toList : Int), er]) ∧ Chg 0 0 w w' := by
  have hP := pu16_calls t h2 w
  obtain ⟨r, hr⟩ : ∃ r, r = puF 0 t.data.toList := ⟨_, rfl⟩
  have hV : puV t.data.toList = r.getD 0 := by rw [hr]; rfl
  rw [hV]
  rw [← hr] at hP
  clear hr hV
  cases r with
  | some v =>
    go_enter Tryz.func71, Tryz.ntmps71
    go_wp2_with fail
    refine hP.mono ?_
    rintro e w1 ⟨rfl, rfl⟩
    have HC : Hid (Chg 0 0 w (Lib.bytesWorld w 5 t)) := bytesWorld_chg w t
    generalize Lib.bytesWorld w 5 t = w1 at *
    unfold puO
    go_wp2
    go_ret2
    exact ⟨_, rfl, HC.out⟩
  | none =>
    go_enter Tryz.func71, Tryz.ntmps71
    go_wp2_with fail
    refine hP.mono ?_
    rintro e w1 ⟨rfl, rfl⟩
    have HC : Hid (Chg 0 0 w (Lib.bytesWorld w 5 t)) := bytesWorld_chg w t
    obtain ⟨te, pe, h1⟩ := hE.chg HC.out
    have hT := Any.strconv_toError_syntax Tryz.laysC245 ⟨#[80, 97, 114, 115, 101, 85, 105, 110, 116]⟩ t 16 8 _ _ (by omega) h1 (Or.inr ⟨_, _, rfl⟩)
    generalize Lib.bytesWorld w 5 t = w1 at *
    unfold puO
    go_wp2_with fail
    refine hT.mono ?_
    rintro e w2 ⟨N, rfl, _, _, hb⟩
    have HC2 : Hid (Chg 0 0 w w2) := HC.out.trans (Chg.ofBelow hb 0 0)
    clear hb hT hP h1
    go_wp2
    go_ret2
    exact ⟨_, rfl, HC2.out⟩

/-- What is quoted, taken for what it may stand for. -/
def looseN : Nat → List UInt8 → List Int
  | 0, _ => []
  | _ + 1, [] => []
  | n + 1, c :: r => if c.toNat = 37 ∧ 2 ≤ r.length then (puV (r.take 2) : Int) :: looseN n (r.drop 2) else (c.toNat : Int) :: looseN n r
def strSz : Value → Nat
  | .string u => u.size
  | _ => 0

theorem puV_lt (l : List UInt8) (h : l.length = 2) : puV l < 256 := by
  match l, h with
  | [a, b], _ =>
    unfold puV puF puF puF
    split
    · split
      · simp; omega
      · simp
    · simp

theorem looseN_c (n : Nat) (c : UInt8) (r : List UInt8) : looseN (n + 1) (c :: r) = if c.toNat = 37 ∧ 2 ≤ r.length then (puV (r.take 2) : Int) :: looseN n (r.drop 2) else (c.toNat : Int) :: looseN n r := rfl

theorem u_cons (u : ByteArray) (h : 0 < u.size) : u.data.toList = u[0] :: u.data.toList.drop 1 := by
  have hl : 0 < u.data.toList.length := by rw [← Lib.size_eq]; exact h
  have h1 := List.drop_eq_getElem_cons hl
  have h2 : u.data.toList[0] = u[0] := rfl
  rw [h2] at h1
  exact h1

theorem looseN_pct {u : ByteArray} {f : Nat} (h : 2 < u.size) (h0 : u[0].toNat = 37) : looseN (f + 1) u.data.toList = (puV ((u.data.toList.drop 1).take 2) : Int) :: looseN f (u.data.toList.drop 3) := by
  have hl : u.data.toList.length = u.size := by rw [← Lib.size_eq]
  conv => lhs; rw [u_cons u (by omega)]
  rw [looseN_c, if_pos ⟨h0, by rw [List.length_drop]; omega⟩, List.drop_drop]

theorem looseN_chr {u : ByteArray} {f : Nat} (h : 0 < u.size) (hn : ¬ (u[0].toNat = 37 ∧ 2 < u.size)) : looseN (f + 1) u.data.toList = (u[0].toNat : Int) :: looseN f (u.data.toList.drop 1) := by
  have hl : u.data.toList.length = u.size := by rw [← Lib.size_eq]
  conv => lhs; rw [u_cons u h]
  rw [looseN_c, if_neg (by rw [List.length_drop]; omega)]

set_option maxRecDepth 20000 in
set_option maxHeartbeats 2000000 in
theorem loose_calls (w : World) (s : ByteArray) (hl : s.size ≤ 1048576) (hE : SynE w) :
    Calls Tryz.prog 57 #[.string s] w fun e w' => e = .returned (.string (strOfNums (looseN s.size s.data.toList))) ∧ Chg 0 0 w w' := by
  obtain ⟨R, HR⟩ : ∃ R, Hid (R = looseN s.size s.data.toList) := ⟨_, rfl⟩
  rw [← HR.out]
  have HB0 : Hid (Bd w.heap.size w.heap.size [] (w.alloc (.cells #[.pointer none, .slice none 0 0] 96))) := bd_new w
  have HC0 : Hid (Below w.heap.size w (w.alloc (.cells #[.pointer none, .slice none 0 0] 96))) := (Below.refl _ _).alloc (Nat.le_refl _) _
  have hs0 : w.heap.size + 1 ≤ (w.alloc (.cells #[.pointer none, .slice none 0 0] 96)).heap.size := by simp
  go_enter Tryz.func57, Tryz.ntmps57
  go_wp2
  go_loopw [0] (fun x wr => ∃ (u : ByteArray) (xs : List Int) (f : Nat), x = .string u ∧ u.size ≤ f ∧ xs.length + u.size ≤ s.size ∧ (∀ y ∈ xs, 0 ≤ y ∧ y < 256) ∧ R = xs ++ looseN f u.data.toList ∧ Bd w.heap.size w.heap.size xs wr ∧ Below w.heap.size w wr ∧ w.heap.size + 1 ≤ wr.heap.size) (fun x _ => strSz x)
  case atStart => exact ⟨s, [], s.size, rfl, Nat.le_refl _, by simp, by simp, HR.out, HB0.out, HC0.out, hs0⟩
  case round =>
    obtain ⟨u, xs, f, rfl, hf, hlen, hby, hR, hb, hch, hsz⟩ := hrel
    have HB : Hid (Bd w.heap.size w.heap.size xs wr) := hb
    have HC : Hid (Below w.heap.size w wr) := hch
    have Hby : Hid (∀ y ∈ xs, 0 ≤ y ∧ y < 256) := hby
    have HRr : Hid (R = xs ++ looseN f u.data.toList) := hR
    clear hb hch HB0 HC0 hs0 hby hR
    by_cases h0 : 0 < u.size
    · have hi : (0 : Int) < (u.size : Int) := by omega
      by_cases hp : u[0].toNat = 37
      · by_cases h3 : 2 < u.size
        · have hi2 : (2 : Int) < (u.size : Int) := by omega
          have hi3 : (3 : Int) ≤ (u.size : Int) := by omega
          have hlu : u.data.toList.length = u.size := by rw [Lib.size_eq]
          have e2 : (u.extract 1 3).size = 2 := by rw [ByteArray.size_extract]; omega
          have eT : (u.extract 1 3).data.toList = (u.data.toList.drop 1).take 2 := by rw [ByteArray.data_extract, Array.toList_extract, List.extract_eq_take_drop]
          have e3 : (u.extract 3 u.size).size = u.size - 3 := by rw [ByteArray.size_extract]; omega
          have eD : (u.extract 3 u.size).data.toList = u.data.toList.drop 3 := by rw [ByteArray.data_extract, Array.toList_extract, List.extract_eq_take_drop, List.take_of_length_le (by rw [List.length_drop, Lib.size_eq]; omega)]
          have hE2 : SynE wr := by
            obtain ⟨te, pe, h⟩ := hE
            exact ⟨te, pe, by rw [HC.out.cell (p := ⟨3, 0, none⟩) (World.block_lt_of_cell? _ _ h)]; exact h⟩
          have hP := parse16_calls (u.extract 1 3) e2 wr hE2
          obtain ⟨v, hv⟩ : ∃ v, v = puV (u.extract 1 3).data.toList := ⟨_, rfl⟩
          have hv256 : v < 256 := by rw [hv]; exact puV_lt _ (by rw [eT, List.length_take, List.length_drop]; omega)
          obtain ⟨f', rfl⟩ : ∃ f', f = f' + 1 := ⟨f - 1, by omega⟩
          have HN : Hid (R = (xs ++ [(v : Int)]) ++ looseN f' (u.extract 3 u.size).data.toList) := by
            show _ = _
            rw [HRr.out, hv, eT, eD, looseN_pct h3 hp]
            simp
          rw [← hv] at hP
          clear hv eT eD HRr hlu
          go_wp2_with fail
          generalize u.extract 1 3 = u13 at *
          refine hP.mono ?_
          rintro e w2 ⟨er, rfl, c2⟩
          have HB2 : Hid (Bd w.heap.size w.heap.size xs w2) := HB.out.chg c2 (by omega)
          have HC2 : Hid (Below w.heap.size w w2) := HC.out.trans (c2.belowN (Or.inr (Nat.le_refl 0)) (by omega))
          have hs2 := c2.size
          have ew : IntKind.u8.wrap (v : Int) = (v : Int) := by rw [IntKind.wrap_u8]; omega
          have hW := writeByte_calls w.heap.size w.heap.size xs (v : Int) w2 HB2.out (by omega) (by omega)
          clear c2 hP
          go_wp2_with fail
          refine hW.mono ?_
          rintro e w8 ⟨rfl, b8, c8⟩
          have HB8 : Hid (Bd w.heap.size w.heap.size (xs ++ [(v : Int)]) w8) := b8
          have HC8 : Hid (Below w.heap.size w w8) := HC2.out.trans c8
          have hs8 := c8.size
          clear b8 c8 hW
          go_wp2
          refine ⟨⟨u.extract 3 u.size, xs ++ [(v : Int)], f', rfl, by omega, by rw [List.length_append, e3]; simp; omega, ?_, HN.out, HB8.out, HC8.out, by omega⟩, ?_⟩
          · intro y hy
            rcases List.mem_append.1 hy with h | h
            · exact Hby.out y h
            · simp only [List.mem_singleton] at h; omega
          · show (u.extract 3 u.size).size < u.size
            rw [e3]; omega
        · have hi2 : ¬ (2 : Int) < (u.size : Int) := by omega
          have hi1 : (1 : Int) ≤ (u.size : Int) := by omega
          have e3 : (u.extract 1 u.size).size = u.size - 1 := by rw [ByteArray.size_extract]; omega
          have eD : (u.extract 1 u.size).data.toList = u.data.toList.drop 1 := by rw [ByteArray.data_extract, Array.toList_extract, List.extract_eq_take_drop, List.take_of_length_le (by rw [List.length_drop, Lib.size_eq]; omega)]
          obtain ⟨f', rfl⟩ : ∃ f', f = f' + 1 := ⟨f - 1, by omega⟩
          have HN : Hid (R = (xs ++ [(u[0].toNat : Int)]) ++ looseN f' (u.extract 1 u.size).data.toList) := by
            show _ = _
            rw [HRr.out, eD, looseN_chr h0 (by omega)]
            simp
          have hv256 : u[0].toNat < 256 := u[0].toNat_lt
          clear eD HRr
          have hW := writeByte_calls w.heap.size w.heap.size xs (u[0].toNat : Int) wr HB.out (by omega) (by omega)
          rw [hp] at hW
          go_wp2_with fail
          refine hW.mono ?_
          rintro e w8 ⟨rfl, b8, c8⟩
          have HB8 : Hid (Bd w.heap.size w.heap.size (xs ++ [(u[0].toNat : Int)]) w8) := by rw [hp]; exact b8
          have HC8 : Hid (Below w.heap.size w w8) := HC.out.trans c8
          have hs8 := c8.size
          clear b8 c8 hW
          go_wp2
          refine ⟨⟨u.extract 1 u.size, xs ++ [(u[0].toNat : Int)], f', rfl, by omega, by rw [List.length_append, e3]; simp; omega, ?_, HN.out, HB8.out, HC8.out, by omega⟩, ?_⟩
          · intro y hy
            rcases List.mem_append.1 hy with h | h
            · exact Hby.out y h
            · simp only [List.mem_singleton] at h; omega
          · show (u.extract 1 u.size).size < u.size
            rw [e3]; omega
      · have hp2 : ((u[0].toNat : Int) == 37) = false := by rw [beq_eq_false_iff_ne]; omega
        have hi1 : (1 : Int) ≤ (u.size : Int) := by omega
        have e3 : (u.extract 1 u.size).size = u.size - 1 := by rw [ByteArray.size_extract]; omega
        have eD : (u.extract 1 u.size).data.toList = u.data.toList.drop 1 := by rw [ByteArray.data_extract, Array.toList_extract, List.extract_eq_take_drop, List.take_of_length_le (by rw [List.length_drop, Lib.size_eq]; omega)]
        obtain ⟨f', rfl⟩ : ∃ f', f = f' + 1 := ⟨f - 1, by omega⟩
        have HN : Hid (R = (xs ++ [(u[0].toNat : Int)]) ++ looseN f' (u.extract 1 u.size).data.toList) := by
          show _ = _
          rw [HRr.out, eD, looseN_chr h0 (by omega)]
          simp
        have hv256 : u[0].toNat < 256 := u[0].toNat_lt
        clear eD HRr
        have hW := writeByte_calls w.heap.size w.heap.size xs (u[0].toNat : Int) wr HB.out (by omega) (by omega)
        go_wp2_with fail
        refine hW.mono ?_
        rintro e w8 ⟨rfl, b8, c8⟩
        have HB8 : Hid (Bd w.heap.size w.heap.size (xs ++ [(u[0].toNat : Int)]) w8) := by exact b8
        have HC8 : Hid (Below w.heap.size w w8) := HC.out.trans c8
        have hs8 := c8.size
        clear b8 c8 hW
        go_wp2
        refine ⟨⟨u.extract 1 u.size, xs ++ [(u[0].toNat : Int)], f', rfl, by omega, by rw [List.length_append, e3]; simp; omega, ?_, HN.out, HB8.out, HC8.out, by omega⟩, ?_⟩
        · intro y hy
          rcases List.mem_append.1 hy with h | h
          · exact Hby.out y h
          · simp only [List.mem_singleton] at h; omega
        · show (u.extract 1 u.size).size < u.size
          rw [e3]; omega
    · have hz : u.size = 0 := by omega
      have hi : ¬ (0 : Int) < (u.size : Int) := by omega
      have HX : Hid (R = xs) := by
        show _ = _
        have : u.data.toList = [] := List.eq_nil_of_length_eq_zero (by rw [← Lib.size_eq]; exact hz)
        rw [HRr.out, this]
        cases f <;> simp [looseN]
      have hS := bstring_calls w.heap.size w.heap.size xs wr HB.out (by omega) Hby.out
      clear HRr
      go_wp2_with fail
      refine hS.mono ?_
      rintro e w8 ⟨rfl, c8⟩
      have HC8 : Hid (Below w.heap.size w w8) := HC.out.trans c8
      clear c8 hS
      go_wp2
      go_ret
      exact ⟨by rw [HX.out]; rfl, Chg.ofBelow HC8.out 0 0⟩

end Go.Proofs.YtacfkgfemmgpkaaGreatDoor

namespace Go.Proofs.YtacfkgfemmgpkaaGreatDoor
open Go.RowKit

set_option maxHeartbeats 400000 in
theorem isWithin_calls (w : World) (v l m : Int) : Calls Tryz.prog 49 #[.int .i64 v, .int .i64 l, .int .i64 m] w fun e w' => e = .returned (.bool (decide (l ≤ v) && decide (v ≤ m))) ∧ w' = w := by
  by_cases h1 : l ≤ v
  · by_cases h2 : v ≤ m
    · rw [decide_eq_true h1, decide_eq_true h2]
      go_enter Tryz.func49, Tryz.ntmps49
      go_wp2
      go_ret
      exact ⟨rfl, rfl⟩
    · rw [decide_eq_true h1, decide_eq_false h2]
      go_enter Tryz.func49, Tryz.ntmps49
      go_wp2
      go_ret
      exact ⟨rfl, rfl⟩
  · rw [decide_eq_false h1]
    go_enter Tryz.func49, Tryz.ntmps49
    go_wp2
    go_ret
    exact ⟨rfl, rfl⟩

end Go.Proofs.YtacfkgfemmgpkaaGreatDoor

namespace Go.Proofs.YtacfkgfemmgpkaaGreatDoor
open Go.RowKit Go.Lib

/-- The variable of the other error holds something. -/
def RanE (w : World) : Prop := ∃ te pe, w.cell? ⟨4, 0, none⟩ = some (.iface te pe)
theorem RanE.chg {w w' : World} (h : RanE w) (c : Chg 0 0 w w') : RanE w' := by
  obtain ⟨te, pe, h⟩ := h
  exact ⟨te, pe, c.cell h (by omega)⟩

theorem parseB_range {l : List UInt8} {v : Int} (h : parseIntB 64 l = .ok v) : -9223372036854775808 ≤ v ∧ v ≤ 9223372036854775807 := by
  unfold parseIntB at h
  split at h
  · cases h
  · simp only at h
    split at h
    · cases h
    · cases h
    · rename_i u _
      split at h
      · cases h
      · split at h
        · cases h
        · rename_i h1 h2
          injection h with h
          have e : (2 : Nat) ^ (64 - 1) = 9223372036854775808 := by decide
          rw [e] at h1 h2
          split at h <;> omega

set_option maxHeartbeats 2000000 in
theorem numberOf_calls (w : World) (f : ByteArray) (hl : f.size ≤ 1048576) (hS : SynE w) (hR : RanE w) (hp : Pow w) :
    Calls Tryz.prog 48 #[.string f] w fun e w' => e = .returned (.tuple #[.int .i64 ((numF f).getD 0), .bool (numF f).isSome]) ∧ Chg 0 0 w w' := by
  have HP : Hid (Pow w) := hp
  obtain ⟨te, pe, hS⟩ := hS
  obtain ⟨te', pe', hR⟩ := hR
  rcases hb : parseIntB 64 f.data.toList with v | _ | _
  · obtain ⟨v0, v1⟩ := parseB_range hb
    have hP := Any.strconv_ParseInt_10_at64_ok Tryz.laysC174 f (by omega) v hb w
    have HNo : Hid (¬ (-999999999 ≤ v ∧ v ≤ 999999999 ∧ dec v = f) → numF f = none) := fun hne => num_no fun n hn => by
      obtain ⟨b0, b1, b2⟩ := numF_is hn
      have hb' := hb
      rw [← b2, dec_data, parse_itoa n b0 b1] at hb'
      injection hb' with hb'
      subst hb'
      exact hne ⟨b0, b1, b2⟩
    clear hb
    have hW := fun W => isWithin_calls W v (-999999999) 999999999
    go_enter Tryz.func48, Tryz.ntmps48
    go_wp2_with fail
    refine hP.mono ?_
    rintro e w2 ⟨rfl, h2⟩
    have HC2 : Hid (Chg 0 0 w w2) := by
      rcases h2 with h2 | ⟨t, h2⟩
      · rw [h2]; exact Chg.refl _ _ _
      · rw [h2]; exact bytesWorld_chg w t
    clear h2 hP
    go_wp2_with fail
    refine (hW _).mono ?_
    rintro e w3 ⟨rfl, rfl⟩
    clear hW
    by_cases hin : -999999999 ≤ v ∧ v ≤ 999999999
    · have hd : (decide ((-999999999 : Int) ≤ v) && decide (v ≤ 999999999)) = true := by simp; omega
      rw [hd]
      have hF := format_calls w3 v v0 v1 (HP.out.chg HC2.out)
      go_wp2_with fail
      refine hF.mono ?_
      rintro e w4 ⟨rfl, c4⟩
      have HC4 : Hid (Chg 0 0 w w4) := HC2.out.trans c4
      clear hF c4 hd
      by_cases heq : dec v = f
      · have Hs : Hid (numF f = some v) := numF_some hin.1 hin.2 heq
        have hb : ((dec v).toList != f.toList) = false := by rw [heq]; simp
        have hb2 : ((dec v).toList == f.toList) = true := by rw [heq]; simp
        clear heq
        generalize dec v = ds at *
        go_wp2
        go_ret2
        exact ⟨by rw [Hs.out]; rfl, HC4.out⟩
      · have Hs : Hid (numF f = none) := HNo.out (fun h => heq h.2.2)
        have hb : ((dec v).toList != f.toList) = true := by rw [bne_iff_ne]; exact fun h => heq ((text_eq _ _).1 h)
        have hb2 : ((dec v).toList == f.toList) = false := by rw [beq_eq_false_iff_ne]; exact fun h => heq ((text_eq _ _).1 h)
        clear heq HNo
        generalize dec v = ds at *
        go_wp2
        go_ret2
        exact ⟨by rw [Hs.out]; rfl, HC4.out⟩
    · have hd : (decide ((-999999999 : Int) ≤ v) && decide (v ≤ 999999999)) = false := by
        rw [Bool.and_eq_false_iff, decide_eq_false_iff_not, decide_eq_false_iff_not]; omega
      have Hs : Hid (numF f = none) := HNo.out (fun h => hin ⟨h.1, h.2.1⟩)
      rw [hd]
      clear HNo
      go_wp2
      go_ret2
      exact ⟨by rw [Hs.out]; rfl, HC2.out⟩
  · have HNo : Hid (numF f = none) := num_no fun n hn => by
      obtain ⟨b0, b1, b2⟩ := numF_is hn
      rw [← b2, dec_data, parse_itoa n b0 b1] at hb
      cases hb
    have hP := Any.strconv_ParseInt_10_at64_syntax Tryz.laysC174 f (by omega) hb _ w hS (Or.inr ⟨_, _, rfl⟩)
    go_enter Tryz.func48, Tryz.ntmps48
    go_wp2_with fail
    refine hP.mono ?_
    rintro e w2 ⟨N, rfl, _, _, c2⟩
    have HC2 : Hid (Chg 0 0 w w2) := Chg.ofBelow c2 0 0
    clear c2 hP
    go_wp2
    go_ret2
    exact ⟨by rw [HNo.out]; rfl, HC2.out⟩
  · have HNo : Hid (numF f = none) := num_no fun n hn => by
      obtain ⟨b0, b1, b2⟩ := numF_is hn
      rw [← b2, dec_data, parse_itoa n b0 b1] at hb
      cases hb
    have hP := Any.strconv_ParseInt_10_at64_range Tryz.laysC174 f (by omega) hb _ w hR (Or.inr ⟨_, _, rfl⟩)
    generalize intSat 64 f.data.toList = sat at *
    go_enter Tryz.func48, Tryz.ntmps48
    go_wp2_with fail
    refine hP.mono ?_
    rintro e w2 ⟨N, rfl, _, _, c2⟩
    have HC2 : Hid (Chg 0 0 w w2) := Chg.ofBelow c2 0 0
    clear c2 hP
    go_wp2
    go_ret2
    exact ⟨by rw [HNo.out]; rfl, HC2.out⟩

end Go.Proofs.YtacfkgfemmgpkaaGreatDoor
