/- Several short texts in one: MarkText, TextL, MapText, LineWord. -/
import Derived.Test.YtacfkgfemmgpkaaGreatDoorNameSpec
import Derived.Deep.DeepCutAuto
import Derived.Deep.RegionWith
import Derived.Test.YtacfkgfemmgpkaaGreatDoorRows
import Derived.Test.YtacfkgfemmgpkaaGreatDoorMem
import Derived.MapKept
import Derived.Maps.RangeRun
import Derived.RangeFuncRecord
import Derived.Lib.IndexBytes
import Derived.Test.YtacfkgfemmgpkaaGreatDoorNumImpl
namespace Go.Proofs.YtacfkgfemmgpkaaGreatDoor
open Go.RowKit

def mtGo : Nat → Nat → ByteArray → ByteArray
  | 0, _, s => s
  | n + 1, m, s => if m = 0 then s else mtGo n (m / 10) (strOfNums [48 + (m : Int) % 10] ++ s)
/-- The text that marks with k. -/
def mtext (k : Nat) : ByteArray := (⟨#[109]⟩ : ByteArray) ++ mtGo k k ⟨#[]⟩

theorem strOfNums_one (d : Int) : (strOfNums [d]).size = 1 := by simp [strOfNums, ByteArray.size]

end Go.Proofs.YtacfkgfemmgpkaaGreatDoor

namespace Go.Proofs.YtacfkgfemmgpkaaGreatDoor
open Go.RowKit

def noText : ByteArray := ⟨#[]⟩
def SView (w : World) (lo hi : Nat) (v : Value) (ps : List ByteArray) : Prop :=
  ∃ ao cap, v = .slice ao ps.length cap ∧ ps.length ≤ 9223372036854775807 ∧ ps.length ≤ cap ∧
    (ps = [] ∨ ∃ b off, ao = some ⟨b, off, none⟩ ∧ lo ≤ b ∧ b < hi ∧ ∀ i, i < ps.length → w.cell? ⟨b, off + i, none⟩ = some (.string (ps.getD i noText)))
theorem SView.chg {w w' : World} {lo hi l r : Nat} {v : Value} {ps : List ByteArray} (h : SView w lo hi v ps) (c : Chg l r w w') (d : hi ≤ l ∨ r ≤ lo ∨ r ≤ l) : SView w' lo hi v ps := by
  obtain ⟨ao, cap, hv, h1, h2, h3⟩ := h
  refine ⟨ao, cap, hv, h1, h2, ?_⟩
  rcases h3 with h3 | ⟨b, off, hao, hb, hb', h3⟩
  · exact Or.inl h3
  · exact Or.inr ⟨b, off, hao, hb, hb', fun i hi => c.cell (h3 i hi) (by show b < l ∨ r ≤ b; omega)⟩
theorem SView.slice {w : World} {lo hi : Nat} {v : Value} {ps : List ByteArray} (h : SView w lo hi v ps) : ∃ ao cap, v = .slice ao ps.length cap := by
  obtain ⟨ao, cap, rfl, _⟩ := h; exact ⟨ao, cap, rfl⟩
theorem SView.nil (w : World) (lo hi : Nat) : SView w lo hi (.slice none 0 0) [] := ⟨none, 0, rfl, by simp, by simp, Or.inl rfl⟩
theorem OwnS.view {w : World} {base : Nat} {e : TypeId} {v : Value} {ps : List ByteArray} (h : OwnS w base e v ps) (hl : ps.length ≤ 9223372036854775807) {hi : Nat} (hb : ∀ g, v.ownBlock = some g → g < hi) : SView w base hi v ps := by
  have h' := h
  obtain ⟨_, h2⟩ := h
  rcases h2 with ⟨rfl, h0⟩ | ⟨g, cap, cur, rfl, hg, hh, hc, hm, hs, ht⟩
  · obtain rfl : ps = [] := List.eq_nil_of_length_eq_zero h0
    exact SView.nil _ _ _
  · refine ⟨_, cap, rfl, hl, hc, Or.inr ⟨g, 0, rfl, hg, hb g rfl, fun i hi => ?_⟩⟩
    rw [Nat.zero_add, World.ownsRow.cellAt h' i (by omega), List.getElem?_map, List.getElem?_eq_getElem hi]
    simp [List.getD_eq_getElem?_getD, List.getElem?_eq_getElem hi]

/-- Texts that are marks. -/
def mkT (k0 n : Nat) : List ByteArray := (List.range n).map fun i => mtext (k0 + i)
theorem mkT_len (k0 n : Nat) : (mkT k0 n).length = n := by simp [mkT]
theorem mkT_getD (k0 n i : Nat) (h : i < n) : (mkT k0 n).getD i noText = mtext (k0 + i) := by simp [mkT, List.getD_eq_getElem?_getD, h]
theorem mkT_set (k0 k : Nat) (ps : List ByteArray) (h : k < ps.length) : ((mkT k0 k ++ ps.drop k).map Value.string).set k (.string (mtext (k0 + k))) = (mkT k0 (k + 1) ++ ps.drop (k + 1)).map Value.string := by
  rw [← List.map_set]
  congr 1
  rw [List.set_append, mkT_len, if_neg (by omega), Nat.sub_self, List.drop_eq_getElem_cons h, List.set_cons_zero]
  have : mkT k0 (k + 1) = mkT k0 k ++ [mtext (k0 + k)] := by simp [mkT, List.range_succ]
  rw [this, List.append_assoc]; rfl

end Go.Proofs.YtacfkgfemmgpkaaGreatDoor

namespace Go.Proofs.YtacfkgfemmgpkaaGreatDoor
open Go.RowKit

/-- What a map holds, in its order. -/
def mkE : Nat → List (ByteArray × Value) → List MapEntry
  | _, [] => []
  | i, (k, v) :: r => { key := .string k, val := v, born := i } :: mkE (i + 1) r
theorem mkE_len : ∀ (l : List (ByteArray × Value)) (i : Nat), (mkE i l).length = l.length
  | [], _ => rfl
  | (k, v) :: r, i => by show (mkE (i + 1) r).length + 1 = _; rw [mkE_len r]; rfl
theorem mkE_push : ∀ (l : List (ByteArray × Value)) (i : Nat) (k : ByteArray) (v : Value), mkE i l ++ [{ key := .string k, val := v, born := i + l.length }] = mkE i (l ++ [(k, v)])
  | [], i, k, v => rfl
  | (a, b) :: r, i, k, v => by
    have := mkE_push r (i + 1) k v
    show _ :: (mkE (i + 1) r ++ _) = _ :: mkE (i + 1) (r ++ [(k, v)])
    rw [← this, show i + ((a, b) :: r).length = i + 1 + r.length by simp; omega]

def MapT (w : World) (b : Nat) (l : List (ByteArray × Value)) : Prop := w.heap[b]? = some (.map (mkE 0 l).toArray l.length)

theorem beqB_no {a k : ByteArray} (h : a ≠ k) : (k == a) = false := by
  cases hb : (k == a) with
  | false => rfl
  | true =>
    exfalso
    apply h
    have h2 : (k.data == a.data) = true := hb
    have h3 : k.data = a.data := by simpa using h2
    exact (ByteArray.ext h3).symm
theorem beqB_yes (a : ByteArray) : (a == a) = true := by
  have h2 : (a.data == a.data) = true := by simp
  exact h2

theorem find_no : ∀ (l : List (ByteArray × Value)) (i j : Nat) (k : ByteArray), (∀ p ∈ l, p.1 ≠ k) → Instr.findNow .string (.string k) (mkE i l) j = some none
  | [], _, _, _, _ => rfl
  | (a, b) :: r, i, j, k, h => by
    have ha : a ≠ k := h (a, b) (List.mem_cons_self ..)
    have hb : (k == a) = false := beqB_no ha
    show (match some (k == a) with | some true => _ | some false => _ | none => _) = _
    rw [hb]
    exact find_no r (i + 1) (j + 1) k (fun p hp => h p (List.mem_cons_of_mem _ hp))
theorem find_at : ∀ (l : List (ByteArray × Value)) (i j : Nat) (k : ByteArray) (v : Value) (n : Nat), l[n]? = some (k, v) → (∀ m, m < n → ∀ p, l[m]? = some p → p.1 ≠ k) → Instr.findNow .string (.string k) (mkE i l) j = some (some (j + n, v))
  | [], _, _, _, _, _, h, _ => by simp at h
  | (a, b) :: r, i, j, k, v, 0, h, _ => by
    simp only [List.getElem?_cons_zero, Option.some.injEq, Prod.mk.injEq] at h
    obtain ⟨rfl, rfl⟩ := h
    have hb : (a == a) = true := beqB_yes a
    show (match some (a == a) with | some true => some (some (j, b)) | some false => _ | none => _) = _
    rw [hb]
    rfl
  | (a, b) :: r, i, j, k, v, n + 1, h, hn => by
    have ha : a ≠ k := hn 0 (by omega) (a, b) rfl
    have hb : (k == a) = false := beqB_no ha
    show (match some (k == a) with | some true => _ | some false => _ | none => _) = _
    rw [hb]
    have := find_at r (i + 1) (j + 1) k v n (by simpa using h) (fun m hm p hp => hn (m + 1) (by omega) p (by simpa using hp))
    rw [show j + (n + 1) = j + 1 + n by omega]
    exact this

theorem run_insertT {w : World} {b : Nat} {l : List (ByteArray × Value)} {t k e : TypeId} (h : MapT w b l) (ht : Tryz.prog.underlying t = some (.map k e)) (hk : Tryz.prog.underlying k = some .string) (key : ByteArray) (v : Value) (hn : ∀ p ∈ l, p.1 ≠ key) :
    ∃ w', (Instr.mapUpdate t (.map (some b)) (.string key) v).run Tryz.prog w = .ok () w' ∧ MapT w' b (l ++ [(key, v)]) ∧ Chg b (b + 1) w w' := by
  have hf := find_no l 0 0 key hn
  have hlt := (Array.getElem?_eq_some_iff.1 h).1
  have h' : w.heap[b]? = some (.map (mkE 0 l).toArray l.length) := h
  refine ⟨w.putObj b (.map (mkE 0 (l ++ [(key, v)])).toArray (l.length + 1)), ?_, ?_, ?_⟩
  · have hp : (mkE 0 l).toArray.push { key := .string key, val := v, born := l.length } = (mkE 0 (l ++ [(key, v)])).toArray := by
      rw [← mkE_push l 0 key v]
      simp
    have hg : (getObj b).run Tryz.prog w = .ok (.map (mkE 0 l).toArray l.length) w := by simp [getObj, Sem.run, h']
    have hc : (Instr.checkKey false 10000 k (.string key)).run Tryz.prog w = .ok () w := by
      show (Instr.checkKey false (9999 + 1) k (.string key)).run Tryz.prog w = _
      unfold Instr.checkKey
      simp [run_underlying hk]
    have hfk : (Instr.findKey k (.string key) (mkE 0 l)).run Tryz.prog w = .ok none w := by
      unfold Instr.findKey
      simp [run_underlying hk, hf]
    unfold Instr.mapUpdate
    simp only [Sem.run_bind, run_underlying ht, Result.andThen_ok, hg, hc, hfk]
    simp [setObj, Sem.run, World.putObj, hp, h']
  · show (w.putObj b _).heap[b]? = some (.map _ (l ++ [(key, v)]).length)
    rw [World.putObj_heap_same hlt]
    simp
  · exact ⟨rfl, rfl, rfl, by simp, fun j _ hj => World.putObj_heap_other (by omega)⟩

theorem wpList_insertT {w : World} {ops : Array Oper} {rest : List Oper} {o : Oper} {a : Act} {Q : Exit → Act → World → Prop} (hg : o.guard = none) (m x v : Operand) (t : TypeId) (hop : o.op = Op.insert t m x v)
    {k e : TypeId} (ht : Tryz.prog.underlying t = some (.map k e)) (hk : Tryz.prog.underlying k = some .string) (b : Nat) (l : List (ByteArray × Value)) (hm : a.eval m = .map (some b)) (h : MapT w b l) (key : ByteArray) (val : Value) (hx : a.eval x = .string key) (hv : a.eval v = val) (hn : ∀ p ∈ l, p.1 ≠ key)
    (hK : ∀ w', MapT w' b (l ++ [(key, val)]) → Chg b (b + 1) w w' → wpList Tryz.prog ops Q rest (a.put o.dst undef) w') :
    wpList Tryz.prog ops Q (o :: rest) a w := by
  refine wpList_plain hg fun K' hK' => ?_
  obtain ⟨w', hrun, r1, r2⟩ := run_insertT h ht hk key val hn
  unfold Oper.wp
  simp [execOp, hop, hm, hx, hv, hrun, Result.andThen]
  exact hK' _ _ (hK w' r1 r2)

theorem first_at : ∀ (l : List (ByteArray × Value)) (key : ByteArray), (∃ p ∈ l, p.1 = key) → ∃ (n : Nat) (v : Value), l[n]? = some (key, v) ∧ ∀ m, m < n → ∀ p : ByteArray × Value, l[m]? = some p → p.1 ≠ key
  | [], _, h => by obtain ⟨p, hp, _⟩ := h; cases hp
  | (a, b) :: r, key, h => by
    by_cases e : a = key
    · subst e
      exact ⟨0, b, rfl, fun m hm => absurd hm (Nat.not_lt_zero m)⟩
    · obtain ⟨p, hp, hk⟩ := h
      have hr : ∃ p ∈ r, p.1 = key := by
        rcases List.mem_cons.1 hp with rfl | hp
        · exact absurd hk e
        · exact ⟨p, hp, hk⟩
      obtain ⟨n, v, h1, h2⟩ := first_at r key hr
      refine ⟨n + 1, v, by simpa using h1, fun m hm p hp => ?_⟩
      cases m with
      | zero => simp at hp; subst hp; exact e
      | succ m => exact h2 m (by omega) p (by simpa using hp)

theorem run_lookT {w : World} {b : Nat} {l : List (ByteArray × Value)} {t k e : TypeId} (h : MapT w b l) (ht : Tryz.prog.underlying t = some (.map k e)) (hk : Tryz.prog.underlying k = some .string) {z : Value} (hz : (zeroValue e).run Tryz.prog w = .ok z w) (key : ByteArray) :
    ∃ v ok, (Instr.lookup t (.map (some b)) (.string key) true).run Tryz.prog w = .ok (.tuple #[v, .bool ok]) w ∧ ((ok = true ∧ ∃ n : Nat, l[n]? = some (key, v) ∧ ∀ m, m < n → ∀ p : ByteArray × Value, l[m]? = some p → p.1 ≠ key) ∨ (ok = false ∧ v = z ∧ ∀ p ∈ l, p.1 ≠ key)) := by
  have h' : w.heap[b]? = some (.map (mkE 0 l).toArray l.length) := h
  have hg : (getObj b).run Tryz.prog w = .ok (.map (mkE 0 l).toArray l.length) w := by simp [getObj, Sem.run, h']
  have hc : ∀ em, (Instr.checkKey em 10000 k (.string key)).run Tryz.prog w = .ok () w := by
    intro em
    show (Instr.checkKey em (9999 + 1) k (.string key)).run Tryz.prog w = _
    unfold Instr.checkKey
    simp [run_underlying hk]
  by_cases hx : ∃ p ∈ l, p.1 = key
  · obtain ⟨n, v, hp, hlow⟩ := first_at l key hx
    have hf := find_at l 0 0 key v n hp hlow
    have hfk : (Instr.findKey k (.string key) (mkE 0 l)).run Tryz.prog w = .ok (some (0 + n, v)) w := by
      unfold Instr.findKey
      simp [run_underlying hk, hf]
    refine ⟨v, true, ?_, Or.inl ⟨rfl, n, hp, hlow⟩⟩
    unfold Instr.lookup
    simp only [Sem.run_bind, run_underlying ht, Result.andThen_ok, hg, Sem.run_pure, hc, hfk]
    rfl
  · have hno : ∀ p ∈ l, p.1 ≠ key := fun p hp e => hx ⟨p, hp, e⟩
    have hf := find_no l 0 0 key hno
    have hfk : (Instr.findKey k (.string key) (mkE 0 l)).run Tryz.prog w = .ok none w := by
      unfold Instr.findKey
      simp [run_underlying hk, hf]
    refine ⟨z, false, ?_, Or.inr ⟨rfl, rfl, hno⟩⟩
    unfold Instr.lookup
    simp only [Sem.run_bind, run_underlying ht, Result.andThen_ok, hg, Sem.run_pure, hc, hfk, hz]
    rfl

end Go.Proofs.YtacfkgfemmgpkaaGreatDoor

namespace Go.Proofs.YtacfkgfemmgpkaaGreatDoor
open Go.RowKit

theorem tl_yes {x : ByteArray} {l : List UInt8} (h : x = ⟨l.toArray⟩) : (x.toList == l) = true := by
  rw [h, Lib.toList_data]; simp
theorem tl_no {x : ByteArray} {l : List UInt8} (h : x ≠ ⟨l.toArray⟩) : (x.toList == l) = false := by
  cases hb : (x.toList == l) with
  | false => rfl
  | true =>
    exfalso
    apply h
    rw [Lib.toList_data] at hb
    have h2 : x.data.toList = l := by simpa using hb
    rw [← h2]
theorem tl_no2 {x y : ByteArray} (h : y ≠ x) : (y.toList == x.toList) = false := tl_no (fun e => h (by rw [e, Lib.toList_data]))
theorem tl_yes2 (x : ByteArray) : (x.toList == x.toList) = true := by simp

def wordN (w : ByteArray) : Int := if w = ⟨#[99, 114, 101, 97, 116, 101]⟩ then 1 else if w = ⟨#[109, 107, 100, 105, 114]⟩ then 2 else if w = ⟨#[117, 110, 108, 105, 110, 107]⟩ then 3 else if w = ⟨#[114, 109, 100, 105, 114]⟩ then 4 else if w = ⟨#[111, 112, 101, 110]⟩ then 14 else if w = ⟨#[115, 116, 97, 116]⟩ then 18 else if w = ⟨#[108, 115, 116, 97, 116]⟩ then 19 else if w = ⟨#[108, 105, 115, 116]⟩ then 20 else if w = ⟨#[114, 101, 97, 100, 108, 105, 110, 107]⟩ then 21 else 0

def loneW : List ByteArray := [⟨#[115, 121, 110, 99]⟩, ⟨#[99, 104, 101, 99, 107, 112, 111, 105, 110, 116]⟩, ⟨#[115, 112, 97, 99, 101]⟩, ⟨#[108, 111, 103]⟩]
def loneF (x : ByteArray) : Nat → List ByteArray → Int
  | _, [] => 0
  | i, a :: r => if a = x then 22 + (i : Int) else loneF x (i + 1) r
def loneN (x : ByteArray) : Int := loneF x 0 loneW
theorem lone_drop (k : Nat) (h : k < 4) : loneW.drop k = loneW.getD k noText :: loneW.drop (k + 1) := by
  match k, h with
  | 0, _ => rfl
  | 1, _ => rfl
  | 2, _ => rfl
  | 3, _ => rfl

end Go.Proofs.YtacfkgfemmgpkaaGreatDoor
