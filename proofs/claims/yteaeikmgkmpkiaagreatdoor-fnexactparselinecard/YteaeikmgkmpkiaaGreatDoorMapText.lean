/- Several short texts in one: TakeE, MapText. -/
import Derived.Test.YteaeikmgkmpkiaaGreatDoorRowM
import Derived.Test.YteaeikmgkmpkiaaGreatDoorRows
import Derived.Test.YteaeikmgkmpkiaaGreatDoorMem
import Derived.MapKept
import Derived.Maps.RangeRun
import Derived.RangeFuncRecord
namespace Go.Proofs.YteaeikmgkmpkiaaGreatDoor
open Go.RowKit Go.Lib

/-- k letters from c on. -/
def letL (c k : Nat) : List Int := (List.range k).map fun i => ((97 + (c - 97 + i) % 26 : Nat) : Int)
def letF (s : Lst) (x : ByteArray) : Option Lst :=
  if x.size = 1 ∧ 97 ≤ chr x 0 ∧ chr x 0 ≤ 122 then some { s with data := strOfNums (letL (chr x 0) s.data.size) } else none

theorem letL_set (c n k : Nat) (h : k < n) (xs : List Int) (hl : xs.length = n) (hp : ∀ i, i < k → xs.getD i 0 = ((97 + (c - 97 + i) % 26 : Nat) : Int)) :
    ∀ i, i < k + 1 → (xs.set k ((97 + (c - 97 + k) % 26 : Nat) : Int)).getD i 0 = ((97 + (c - 97 + i) % 26 : Nat) : Int) := by
  intro i hi
  by_cases e : i = k
  · subst e
    simp [List.getD_eq_getElem?_getD, hl, h]
  · rw [← hp i (by omega)]
    simp [List.getD_eq_getElem?_getD, List.getElem?_set_ne (fun h => e h.symm)]
theorem letL_all (c n : Nat) (xs : List Int) (hl : xs.length = n) (hp : ∀ i, i < n → xs.getD i 0 = ((97 + (c - 97 + i) % 26 : Nat) : Int)) : xs = letL c n := by
  apply List.ext_getElem?
  intro i
  by_cases hi : i < n
  · have h1 := hp i hi
    rw [List.getD_eq_getElem?_getD, List.getElem?_eq_getElem (by omega)] at h1
    rw [List.getElem?_eq_getElem (by omega)]
    unfold letL
    simp only [List.getElem?_map, List.getElem?_range hi, Option.map_some]
    congr 1
  · rw [List.getElem?_eq_none (by omega), List.getElem?_eq_none (by unfold letL; simp; omega)]

set_option maxRecDepth 20000 in
set_option maxHeartbeats 2000000 in
theorem takeLetter_ok : TakeOk 36 letF := by
  intro W b s x hx _ hdz _ _ _ hL
  have hb := hL.lt
  have hW := fun V v => isWithin_calls V v 97 122
  by_cases h1 : x.size = 1
  case neg =>
    have HF : Hid (letF s x = none) := by show _ = _; unfold letF; rw [if_neg (fun h => h1 h.1)]
    rw [HF.out]
    have hb1 : ((x.size : Int) != 1) = true := by rw [bne_iff_ne]; omega
    have HC : Hid (Chg b W.heap.size W W ∧ Oth b W W) := ⟨Chg.refl _ _ _, oth_of (Chg.refl _ _ _)⟩
    clear h1
    go_enter Tryz.func36, Tryz.ntmps36
    go_wp2
    go_ret
    exact ⟨rfl, fun s' e => by (cases e), HC.out⟩
  have hsz : (0 : Int) < (x.size : Int) := by omega
  have h0 : 0 < x.size := by omega
  have hcs : x[0].toNat = chr x 0 := (chr_lt h0).symm
  have hc2 := chr_256 x 0
  have hb1 : ((x.size : Int) != 1) = false := by rw [h1]; rfl
  have e0 : IntKind.i64.wrap ((chr x 0 : Nat) : Int) = ((chr x 0 : Nat) : Int) := by rw [IntKind.wrap_i64]; omega
  by_cases hin : 97 ≤ chr x 0 ∧ chr x 0 ≤ 122
  case neg =>
    have HF : Hid (letF s x = none) := by show _ = _; unfold letF; rw [if_neg (fun h => hin h.2)]
    rw [HF.out]
    have HC : Hid (Chg b W.heap.size W W ∧ Oth b W W) := ⟨Chg.refl _ _ _, oth_of (Chg.refl _ _ _)⟩
    have hd : (decide ((97 : Int) ≤ ((chr x 0 : Nat) : Int)) && decide (((chr x 0 : Nat) : Int) ≤ 122)) = false := by
      rw [Bool.and_eq_false_iff, decide_eq_false_iff_not, decide_eq_false_iff_not]; omega
    generalize chr x 0 = c at *
    go_enter Tryz.func36, Tryz.ntmps36
    go_wp2_with fail
    refine (hW _ _).mono ?_
    rintro e w3 ⟨rfl, rfl⟩
    rw [hd]
    go_wp2
    go_ret
    exact ⟨rfl, fun s' e => by (cases e), HC.out⟩
  have HF : Hid (letF s x = some { s with data := strOfNums (letL (chr x 0) s.data.size) }) := by show _ = _; unfold letF; rw [if_pos ⟨h1, hin⟩]
  rw [HF.out]
  have hd : (decide ((97 : Int) ≤ ((chr x 0 : Nat) : Int)) && decide (((chr x 0 : Nat) : Int) ≤ 122)) = true := by simp; omega
  clear HF
  generalize chr x 0 = c at *
  have e1 : IntKind.u8.wrap ((c : Int) - 97) = (c : Int) - 97 := by rw [IntKind.wrap_u8]; omega
  have e2 : IntKind.i64.wrap ((c : Int) - 97) = (c : Int) - 97 := by rw [IntKind.wrap_i64]; omega
  have hcv := Lib.run_convert_string_bytes (P := Tryz.prog) W 9 22 5 s.data (u := .string) Tryz.underlying9 Tryz.underlying22 Tryz.underlying5
  have hR := RowM.conv W s.data (by omega)
  have cB : Chg 0 0 W (Lib.bytesWorld W 5 s.data) := bytesWorld_chg W s.data
  have hql : (s.data.data.toList.map fun b => (b.toNat : Int)).length = s.data.size := by rw [List.length_map, ← Lib.size_eq]
  have sB : (Lib.bytesWorld W 5 s.data).heap.size = W.heap.size + 1 := Lib.bytesWorld_size _ _ _
  have H0 : Hid (LineAt W b s) := hL
  obtain ⟨nv, hh, _⟩ := hL
  have y : W.cell? ⟨b, 7, none⟩ = some (.string s.data) := by rw [Lib.cell_of_heap hh]; rfl
  generalize Lib.bytesWorld W 5 s.data = w1 at *
  generalize (s.data.data.toList.map fun b => (b.toNat : Int)) = xs at *
  generalize grownCap W s.data.size 0 5 = cq at *
  have HR : Hid (RowM w1 W.heap.size (.slice (some ⟨W.heap.size, 0, none⟩) s.data.size cq) xs) := hR
  have HC : Hid (Chg 0 0 W w1) := cB
  clear hR cB hh
  generalize hn : s.data.size = n at *
  have Hn : Hid (s.data.size = n) := hn
  clear hn
  go_enter Tryz.func36, Tryz.ntmps36
  go_wp2_with fail
  refine (hW _ _).mono ?_
  rintro e w3 ⟨rfl, rfl⟩
  rw [hd]
  clear hW
  go_wp2
  go_loopw [30] (fun i wr => ∃ (k : Nat) (ys : List Int), k ≤ n ∧ i = .int .i64 k ∧ ys.length = n ∧ (∀ i, i < k → ys.getD i 0 = ((97 + (c - 97 + i) % 26 : Nat) : Int)) ∧ RowM wr w3.heap.size (.slice (some ⟨w3.heap.size, 0, none⟩) n cq) ys ∧ Chg 0 0 w3 wr) (fun i _ => n - (RowKit.intOf i).toNat)
  case atStart => exact ⟨0, xs, Nat.zero_le _, rfl, hql, fun i hi => absurd hi (Nat.not_lt_zero i), HR.out, HC.out⟩
  case round =>
    obtain ⟨k, ys, hk, rfl, hyl, hp, hr, hch⟩ := hrel
    have HR2 : Hid (RowM wr w3.heap.size (.slice (some ⟨w3.heap.size, 0, none⟩) n cq) ys) := hr
    have HC2 : Hid (Chg 0 0 w3 wr) := hch
    have Hp : Hid (∀ i, i < k → ys.getD i 0 = ((97 + (c - 97 + i) % 26 : Nat) : Int)) := hp
    clear hr hch hp HR HC hcv
    by_cases hlt : k < n
    · have hi1 : (k : Int) < (n : Int) := by omega
      obtain ⟨⟨u, hu⟩, hfz, hr3⟩ := HR2.out.store hyl k hlt ((97 + (c - 97 + k) % 26 : Nat) : Int)
      have e3 : IntKind.i64.wrap ((c : Int) - 97 + (k : Int)) = (c : Int) - 97 + (k : Int) := by rw [IntKind.wrap_i64]; omega
      have e4 : ((c : Int) - 97 + (k : Int)).tmod 26 = (((c - 97 + k) % 26 : Nat) : Int) := by rw [Int.tmod_eq_emod_of_nonneg (by omega)]; omega
      have e5 : IntKind.i64.wrap (((c - 97 + k) % 26 : Nat) : Int) = (((c - 97 + k) % 26 : Nat) : Int) := by rw [IntKind.wrap_i64]; omega
      have e6 : IntKind.i64.wrap (97 + (((c - 97 + k) % 26 : Nat) : Int)) = ((97 + (c - 97 + k) % 26 : Nat) : Int) := by rw [IntKind.wrap_i64]; omega
      have e7 : IntKind.u8.wrap ((97 + (c - 97 + k) % 26 : Nat) : Int) = ((97 + (c - 97 + k) % 26 : Nat) : Int) := by rw [IntKind.wrap_u8]; omega
      have HP2 : Hid (∀ i, i < k + 1 → (ys.set k ((97 + (c - 97 + k) % 26 : Nat) : Int)).getD i 0 = ((97 + (c - 97 + i) % 26 : Nat) : Int)) := letL_set c n k hlt ys hyl Hp.out
      have HR3 : Hid (RowM (wr.setCell ⟨w3.heap.size, k, none⟩ (.int .u8 ((97 + (c - 97 + k) % 26 : Nat) : Int))) w3.heap.size (.slice (some ⟨w3.heap.size, 0, none⟩) n cq) (ys.set k ((97 + (c - 97 + k) % 26 : Nat) : Int))) := hr3
      have HC3 : Hid (Chg 0 0 w3 (wr.setCell ⟨w3.heap.size, k, none⟩ (.int .u8 ((97 + (c - 97 + k) % 26 : Nat) : Int)))) := HC2.out.setCell (p := ⟨w3.heap.size, k, none⟩) (Or.inr (Nat.le_refl _)) _
      clear hr3
      generalize hvv : ((97 + (c - 97 + k) % 26 : Nat) : Int) = vv at *
      generalize hmm : (((c - 97 + k) % 26 : Nat) : Int) = mm at *
      go_wp2
      go_roundw
      case rel => exact ⟨k + 1, _, by omega, by go_num, by rw [List.length_set]; exact hyl, HP2.out, HR3.out, HC3.out⟩
      case measure => simp [RowKit.intOf]; omega
    · obtain rfl : k = n := by omega
      have hi1 : ¬ (k : Int) < (k : Int) := by omega
      have hst := (HR2.out.seen (by omega)).str
      have hys := letL_all c k ys hyl Hp.out
      have hL2 := H0.out.keep HC2.out
      obtain ⟨_, fz, hL3, c3⟩ := hL2.put 7 (.string (strOfNums ys)) (s' := { s with data := strOfNums ys }) (fun nv => rfl) rfl
      obtain ⟨nv', hh, _⟩ := hL2
      have y7 : wr.cell? ⟨b, 7, none⟩ = some (.string s.data) := by rw [Lib.cell_of_heap hh]; rfl
      have HL : Hid (LineAt (wr.setCell ⟨b, 7, none⟩ (.string (strOfNums ys))) b { s with data := strOfNums (letL c k) }) := by rw [← hys]; exact hL3
      have HCz : Hid (Chg b w3.heap.size w3 (wr.setCell ⟨b, 7, none⟩ (.string (strOfNums ys))) ∧ Oth b w3 (wr.setCell ⟨b, 7, none⟩ (.string (strOfNums ys)))) := ⟨chg_into HC2.out c3, oth_put HC2.out 7 _⟩
      clear hL3 c3 hh hys
      go_wp2
      go_ret
      first
        | exact ⟨rfl, HL.out, HCz.out⟩
        | exact ⟨rfl, fun s' e => by injection e with e; rw [← e]; exact HL.out, HCz.out⟩

end Go.Proofs.YteaeikmgkmpkiaaGreatDoor

namespace Go.Proofs.YteaeikmgkmpkiaaGreatDoor
open Go.RowKit

/-- What a map holds, in its order. -/
def mkE : Nat → List (ByteArray × Value) → List MapEntry
  | _, [] => []
  | i, (k, v) :: r => { key := .string k, val := v, born := i } :: mkE (i + 1) r
theorem mkE_len : ∀ (l : List (ByteArray × Value)) (i : Nat), (mkE i l).length = l.length
  | [], _ => rfl
  | (k, v) :: r, i => by show (mkE (i + 1) r).length + 1 = _; rw [mkE_len r]; rfl
theorem mkE_push : ∀ (l : List (ByteArray × Value)) (i : Nat) (k : ByteArray) (v : Value), mkE i l ++ [{ key := .string k, val := v, born := i + l.length }] = mkE i (l ++ [(k, v)])
  | [], i, k, v => rfl
  | (a, b) :: r, i, k, v => by
    have := mkE_push r (i + 1) k v
    show _ :: (mkE (i + 1) r ++ _) = _ :: mkE (i + 1) (r ++ [(k, v)])
    rw [← this, show i + ((a, b) :: r).length = i + 1 + r.length by simp; omega]

def MapT (w : World) (b : Nat) (l : List (ByteArray × Value)) : Prop := w.heap[b]? = some (.map (mkE 0 l).toArray l.length)

theorem beqB_no {a k : ByteArray} (h : a ≠ k) : (k == a) = false := by
  cases hb : (k == a) with
  | false => rfl
  | true =>
    exfalso
    apply h
    have h2 : (k.data == a.data) = true := hb
    have h3 : k.data = a.data := by simpa using h2
    exact (ByteArray.ext h3).symm
theorem beqB_yes (a : ByteArray) : (a == a) = true := by
  have h2 : (a.data == a.data) = true := by simp
  exact h2

theorem find_no : ∀ (l : List (ByteArray × Value)) (i j : Nat) (k : ByteArray), (∀ p ∈ l, p.1 ≠ k) → Instr.findNow .string (.string k) (mkE i l) j = some none
  | [], _, _, _, _ => rfl
  | (a, b) :: r, i, j, k, h => by
    have ha : a ≠ k := h (a, b) (List.mem_cons_self ..)
    have hb : (k == a) = false := beqB_no ha
    show (match some (k == a) with | some true => _ | some false => _ | none => _) = _
    rw [hb]
    exact find_no r (i + 1) (j + 1) k (fun p hp => h p (List.mem_cons_of_mem _ hp))
theorem find_at : ∀ (l : List (ByteArray × Value)) (i j : Nat) (k : ByteArray) (v : Value) (n : Nat), l[n]? = some (k, v) → (∀ m, m < n → ∀ p, l[m]? = some p → p.1 ≠ k) → Instr.findNow .string (.string k) (mkE i l) j = some (some (j + n, v))
  | [], _, _, _, _, _, h, _ => by simp at h
  | (a, b) :: r, i, j, k, v, 0, h, _ => by
    simp only [List.getElem?_cons_zero, Option.some.injEq, Prod.mk.injEq] at h
    obtain ⟨rfl, rfl⟩ := h
    have hb : (a == a) = true := beqB_yes a
    show (match some (a == a) with | some true => some (some (j, b)) | some false => _ | none => _) = _
    rw [hb]
    rfl
  | (a, b) :: r, i, j, k, v, n + 1, h, hn => by
    have ha : a ≠ k := hn 0 (by omega) (a, b) rfl
    have hb : (k == a) = false := beqB_no ha
    show (match some (k == a) with | some true => _ | some false => _ | none => _) = _
    rw [hb]
    have := find_at r (i + 1) (j + 1) k v n (by simpa using h) (fun m hm p hp => hn (m + 1) (by omega) p (by simpa using hp))
    rw [show j + (n + 1) = j + 1 + n by omega]
    exact this

theorem run_insertT {w : World} {b : Nat} {l : List (ByteArray × Value)} {t k e : TypeId} (h : MapT w b l) (ht : Tryz.prog.underlying t = some (.map k e)) (hk : Tryz.prog.underlying k = some .string) (key : ByteArray) (v : Value) (hn : ∀ p ∈ l, p.1 ≠ key) :
    ∃ w', (Instr.mapUpdate t (.map (some b)) (.string key) v).run Tryz.prog w = .ok () w' ∧ MapT w' b (l ++ [(key, v)]) ∧ Chg b (b + 1) w w' := by
  have hf := find_no l 0 0 key hn
  have hlt := (Array.getElem?_eq_some_iff.1 h).1
  have h' : w.heap[b]? = some (.map (mkE 0 l).toArray l.length) := h
  refine ⟨w.putObj b (.map (mkE 0 (l ++ [(key, v)])).toArray (l.length + 1)), ?_, ?_, ?_⟩
  · have hp : (mkE 0 l).toArray.push { key := .string key, val := v, born := l.length } = (mkE 0 (l ++ [(key, v)])).toArray := by
      rw [← mkE_push l 0 key v]
      simp
    have hg : (getObj b).run Tryz.prog w = .ok (.map (mkE 0 l).toArray l.length) w := by simp [getObj, Sem.run, h']
    have hc : (Instr.checkKey false 10000 k (.string key)).run Tryz.prog w = .ok () w := by
      show (Instr.checkKey false (9999 + 1) k (.string key)).run Tryz.prog w = _
      unfold Instr.checkKey
      simp [run_underlying hk]
    have hfk : (Instr.findKey k (.string key) (mkE 0 l)).run Tryz.prog w = .ok none w := by
      unfold Instr.findKey
      simp [run_underlying hk, hf]
    unfold Instr.mapUpdate
    simp only [Sem.run_bind, run_underlying ht, Result.andThen_ok, hg, hc, hfk]
    simp [setObj, Sem.run, World.putObj, hp, h']
  · show (w.putObj b _).heap[b]? = some (.map _ (l ++ [(key, v)]).length)
    rw [World.putObj_heap_same hlt]
    simp
  · exact ⟨rfl, rfl, rfl, by simp, fun j _ hj => World.putObj_heap_other (by omega)⟩

theorem wpList_insertT {w : World} {ops : Array Oper} {rest : List Oper} {o : Oper} {a : Act} {Q : Exit → Act → World → Prop} (hg : o.guard = none) (m x v : Operand) (t : TypeId) (hop : o.op = Op.insert t m x v)
    {k e : TypeId} (ht : Tryz.prog.underlying t = some (.map k e)) (hk : Tryz.prog.underlying k = some .string) (b : Nat) (l : List (ByteArray × Value)) (hm : a.eval m = .map (some b)) (h : MapT w b l) (key : ByteArray) (val : Value) (hx : a.eval x = .string key) (hv : a.eval v = val) (hn : ∀ p ∈ l, p.1 ≠ key)
    (hK : ∀ w', MapT w' b (l ++ [(key, val)]) → Chg b (b + 1) w w' → wpList Tryz.prog ops Q rest (a.put o.dst undef) w') :
    wpList Tryz.prog ops Q (o :: rest) a w := by
  refine wpList_plain hg fun K' hK' => ?_
  obtain ⟨w', hrun, r1, r2⟩ := run_insertT h ht hk key val hn
  unfold Oper.wp
  simp [execOp, hop, hm, hx, hv, hrun, Result.andThen]
  exact hK' _ _ (hK w' r1 r2)

theorem first_at : ∀ (l : List (ByteArray × Value)) (key : ByteArray), (∃ p ∈ l, p.1 = key) → ∃ (n : Nat) (v : Value), l[n]? = some (key, v) ∧ ∀ m, m < n → ∀ p : ByteArray × Value, l[m]? = some p → p.1 ≠ key
  | [], _, h => by obtain ⟨p, hp, _⟩ := h; cases hp
  | (a, b) :: r, key, h => by
    by_cases e : a = key
    · subst e
      exact ⟨0, b, rfl, fun m hm => absurd hm (Nat.not_lt_zero m)⟩
    · obtain ⟨p, hp, hk⟩ := h
      have hr : ∃ p ∈ r, p.1 = key := by
        rcases List.mem_cons.1 hp with rfl | hp
        · exact absurd hk e
        · exact ⟨p, hp, hk⟩
      obtain ⟨n, v, h1, h2⟩ := first_at r key hr
      refine ⟨n + 1, v, by simpa using h1, fun m hm p hp => ?_⟩
      cases m with
      | zero => simp at hp; subst hp; exact e
      | succ m => exact h2 m (by omega) p (by simpa using hp)

theorem run_lookT {w : World} {b : Nat} {l : List (ByteArray × Value)} {t k e : TypeId} (h : MapT w b l) (ht : Tryz.prog.underlying t = some (.map k e)) (hk : Tryz.prog.underlying k = some .string) {z : Value} (hz : (zeroValue e).run Tryz.prog w = .ok z w) (key : ByteArray) :
    ∃ v ok, (Instr.lookup t (.map (some b)) (.string key) true).run Tryz.prog w = .ok (.tuple #[v, .bool ok]) w ∧ ((ok = true ∧ ∃ n : Nat, l[n]? = some (key, v) ∧ ∀ m, m < n → ∀ p : ByteArray × Value, l[m]? = some p → p.1 ≠ key) ∨ (ok = false ∧ v = z ∧ ∀ p ∈ l, p.1 ≠ key)) := by
  have h' : w.heap[b]? = some (.map (mkE 0 l).toArray l.length) := h
  have hg : (getObj b).run Tryz.prog w = .ok (.map (mkE 0 l).toArray l.length) w := by simp [getObj, Sem.run, h']
  have hc : ∀ em, (Instr.checkKey em 10000 k (.string key)).run Tryz.prog w = .ok () w := by
    intro em
    show (Instr.checkKey em (9999 + 1) k (.string key)).run Tryz.prog w = _
    unfold Instr.checkKey
    simp [run_underlying hk]
  by_cases hx : ∃ p ∈ l, p.1 = key
  · obtain ⟨n, v, hp, hlow⟩ := first_at l key hx
    have hf := find_at l 0 0 key v n hp hlow
    have hfk : (Instr.findKey k (.string key) (mkE 0 l)).run Tryz.prog w = .ok (some (0 + n, v)) w := by
      unfold Instr.findKey
      simp [run_underlying hk, hf]
    refine ⟨v, true, ?_, Or.inl ⟨rfl, n, hp, hlow⟩⟩
    unfold Instr.lookup
    simp only [Sem.run_bind, run_underlying ht, Result.andThen_ok, hg, Sem.run_pure, hc, hfk]
    rfl
  · have hno : ∀ p ∈ l, p.1 ≠ key := fun p hp e => hx ⟨p, hp, e⟩
    have hf := find_no l 0 0 key hno
    have hfk : (Instr.findKey k (.string key) (mkE 0 l)).run Tryz.prog w = .ok none w := by
      unfold Instr.findKey
      simp [run_underlying hk, hf]
    refine ⟨z, false, ?_, Or.inr ⟨rfl, rfl, hno⟩⟩
    unfold Instr.lookup
    simp only [Sem.run_bind, run_underlying ht, Result.andThen_ok, hg, Sem.run_pure, hc, hfk, hz]
    rfl

end Go.Proofs.YteaeikmgkmpkiaaGreatDoor
