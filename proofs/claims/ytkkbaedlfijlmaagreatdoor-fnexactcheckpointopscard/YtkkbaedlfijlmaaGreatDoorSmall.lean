/- Several short texts in one: As, GetI, Head, OpenBlk, Small. -/
import Derived.Test.YtkkbaedlfijlmaaGreatDoorRows
import Derived.Test.YtkkbaedlfijlmaaGreatDoorMem
import Derived.LaidEql
import Derived.Stop.Asserts
import Derived.RowKitTokens
import Derived.Test.YtkkbaedlfijlmaaGreatDoorSpecBeg
import Derived.Laws.BitsAllLaws
import Derived.Test.YtkkbaedlfijlmaaGreatDoorCopyRow
import Derived.Test.YtkkbaedlfijlmaaGreatDoorWeak
import Derived.Deep.RegionHeld3
import Derived.Deep.RegionWith
import Derived.Deep.DeepCutAuto
namespace Go.Proofs.YtkkbaedlfijlmaaGreatDoor
open Go.RowKit Go.Extern.Stop Go.Stop Go.Extern

theorem as_nil (t : Value) (w : World) :
    Calls Tryz.prog 51 #[.nilIface, t] w fun e w' => e = .returned (.bool false) ∧ w' = w := by
  go_enter Tryz.func51, Tryz.ntmps51
  go_wp2
  go_ret
  exact ⟨rfl, rfl⟩

theorem rl_valueOfPP (t : Addr) (w : World) : (ReflectliteValue.unpack (.iface 88 (.pointer (some t)))).run Tryz.prog w
    = .ok (.agg #[.pointer (some ⟨3, 88, none⟩), .pointer (some ⟨w.heap.size, 0, none⟩), .int .u64 150]) (w.alloc (.cells #[.pointer (some t)] 88)) := by kernel_rfl
theorem rl_typePP (a : Addr) (w : World) : (ReflectliteValue.methodAny (ReflectliteValue.valueError "reflectlite.Value.Type" 0) (fun t _ _ _ => ReflectliteType.toType t) #[.agg #[.pointer (some ⟨3, 88, none⟩), .pointer (some a), .int .u64 150]]).run Tryz.prog w
    = .ok (.iface 103 (.agg #[.pointer (some ⟨3, 88, none⟩)])) w := by kernel_rfl
theorem rl_methodKind (h : Value) (w : World) : (Go.method 292 103 (.agg #[h]) "Kind").run Tryz.prog w = .ok (73, h) w := by kernel_rfl
theorem rl_kindPP (w : World) : ((ReflectliteType.abiMethod fun t => (fun a : Nat => Value.int IntKind.u8 (a : Int)) <$> Rtype.kind t) #[.pointer (some ⟨3, 88, none⟩)]).run Tryz.prog w = .ok (.int .u8 22) w := by kernel_rfl
theorem rl_kindP (w : World) : ((ReflectliteType.abiMethod fun t => (fun a : Nat => Value.int IntKind.u8 (a : Int)) <$> Rtype.kind t) #[.pointer (some ⟨3, 86, none⟩)]).run Tryz.prog w = .ok (.int .u8 22) w := by kernel_rfl

theorem rl_partsPP (a : Addr) (w : World) : (ReflectliteValue.parts (.agg #[.pointer (some ⟨3, 88, none⟩), .pointer (some a), .int .u64 150])).run Tryz.prog w = .ok (some (88, a, 150)) w := by kernel_rfl
theorem rl_isNilPP (a p : Addr) (W : World) (ha : W.cell? a = some (.pointer (some p))) :
    (ReflectliteValue.method (ReflectliteValue.valueError "reflectlite.Value.IsNil" 0) ReflectliteValue.isNil #[.agg #[.pointer (some ⟨3, 88, none⟩), .pointer (some a), .int .u64 150]]).run Tryz.prog W = .ok (.bool false) W := by
  delta ReflectliteValue.method
  delta ReflectliteValue.method.match_2
  dsimp [Array.getLit]
  simp only [Sem.run_bind, rl_partsPP, Result.andThen]
  simp [ReflectliteValue.isNil, loadVar, isAgg, underlying, Tryz.underlying88, ha, Result.andThen]

theorem rl_methodElem (h : Value) (w : World) : (Go.method 292 103 (.agg #[h]) "Elem").run Tryz.prog w = .ok (123, .agg #[h]) w := by kernel_rfl
theorem rl_methodImplements (h : Value) (w : World) : (Go.method 292 103 (.agg #[h]) "Implements").run Tryz.prog w = .ok (124, .agg #[h]) w := by kernel_rfl
theorem rl_methodAssignableTo (h : Value) (w : World) : (Go.method 292 103 (.agg #[h]) "AssignableTo").run Tryz.prog w = .ok (121, .agg #[h]) w := by kernel_rfl
theorem rl_elemPP (w : World) : (ReflectliteType.method ReflectliteType.elem #[.agg #[.pointer (some ⟨3, 88, none⟩)]]).run Tryz.prog w = .ok (.iface 103 (.agg #[.pointer (some ⟨3, 86, none⟩)])) w := by kernel_rfl
theorem rl_implementsP (w : World) : (ReflectliteType.relation "Implements" ReflectliteType.implements_ #[.agg #[.pointer (some ⟨3, 86, none⟩)], .iface 103 (.agg #[.pointer (some ⟨3, 78, none⟩)])]).run Tryz.prog w = .ok (.bool true) w := by kernel_rfl
theorem rl_typeOfP (v : Value) (w : World) : (ReflectliteType.typeOf #[.iface 86 v]).run Tryz.prog w = .ok (.iface 103 (.agg #[.pointer (some ⟨3, 86, none⟩)])) w := by kernel_rfl
theorem rl_assignableP (w : World) : (ReflectliteType.relation "AssignableTo" ReflectliteType.assignableTo #[.agg #[.pointer (some ⟨3, 86, none⟩)], .iface 103 (.agg #[.pointer (some ⟨3, 86, none⟩)])]).run Tryz.prog w = .ok (.bool true) w := by kernel_rfl
theorem rl_valueOfP (e : Addr) (w : World) : (ReflectliteValue.unpack (.iface 86 (.pointer (some e)))).run Tryz.prog w
    = .ok (.agg #[.pointer (some ⟨3, 86, none⟩), .pointer (some ⟨w.heap.size, 0, none⟩), .int .u64 150]) (w.alloc (.cells #[.pointer (some e)] 86)) := by kernel_rfl

theorem rl_elemOfPP (w : World) : (Rtype.elem? 88).run Tryz.prog w = .ok (some 86) w := by kernel_rfl
theorem rl_mkP (p : Addr) (w : World) : (ReflectliteValue.mk 86 p ReflectliteValue.flagAddr).run Tryz.prog w = .ok (.agg #[.pointer (some ⟨3, 86, none⟩), .pointer (some p), .int .u64 406]) w := by kernel_rfl
theorem rl_elemVPP (a p : Addr) (W : World) (ha : W.cell? a = some (.pointer (some p))) :
    (ReflectliteValue.method (ReflectliteValue.valueError "reflectlite.Value.Elem" 0) ReflectliteValue.elem #[.agg #[.pointer (some ⟨3, 88, none⟩), .pointer (some a), .int .u64 150]]).run Tryz.prog W
      = .ok (.agg #[.pointer (some ⟨3, 86, none⟩), .pointer (some p), .int .u64 406]) W := by
  delta ReflectliteValue.method
  delta ReflectliteValue.method.match_2
  dsimp [Array.getLit]
  simp only [Sem.run_bind, rl_partsPP, Result.andThen]
  simp [ReflectliteValue.elem, loadVar, isAgg, underlying, Tryz.underlying88, ha, Result.andThen, rl_elemOfPP, rl_mkP]
theorem rl_partsPa (a : Addr) (w : World) : (ReflectliteValue.parts (.agg #[.pointer (some ⟨3, 86, none⟩), .pointer (some a), .int .u64 406])).run Tryz.prog w = .ok (some (86, a, 406)) w := by kernel_rfl
theorem rl_partsP (a : Addr) (w : World) : (ReflectliteValue.parts (.agg #[.pointer (some ⟨3, 86, none⟩), .pointer (some a), .int .u64 150])).run Tryz.prog w = .ok (some (86, a, 150)) w := by kernel_rfl
theorem rl_directP (w : World) : (Rtype.directlyAssignable 86 86).run Tryz.prog w = .ok true w := by kernel_rfl
theorem rl_setP (ta b e : Addr) (old : Value) (W : World) (hb : W.cell? b = some (.pointer (some e))) (ht : W.cell? ta = some old) (hf : W.frozen? ta = false) :
    (ReflectliteValue.set #[.agg #[.pointer (some ⟨3, 86, none⟩), .pointer (some ta), .int .u64 406], .agg #[.pointer (some ⟨3, 86, none⟩), .pointer (some b), .int .u64 150]]).run Tryz.prog W
      = .ok (.tuple #[]) (W.setCell ta (.pointer (some e))) := by
  delta ReflectliteValue.set
  delta ReflectliteValue.set.match_3
  dsimp [Array.getLit]
  simp only [Sem.run_bind, rl_partsPa, rl_partsP, Result.andThen]
  simp [ReflectliteValue.flagAddr, loadVar, isAgg, underlying, Tryz.underlying86, hb, Result.andThen, rl_directP, storeVar, Value.cells, storeCells, Addr.add]
  rw [run_store Tryz.prog W ta _ _ (by rfl)]
  simp [ht, hf]

/-- What package errors knows the type 'error' by. -/
def ErrT (w : World) : Prop := w.cell? ⟨1, 0, none⟩ = some (.iface 103 (.agg #[.pointer (some ⟨3, 78, none⟩)]))

theorem ErrT.lt {w : World} (h : ErrT w) : 1 < w.heap.size := lt_of_cell h

theorem ErrT.chg {w w' : World} {lo hi : Nat} (h : ErrT w) (c : Chg lo hi w w') (hlo : hi ≤ lo ∨ 3 ≤ lo) : ErrT w' := c.cell h (by omega)

set_option maxHeartbeats 4000000 in
theorem as_hit (e t : Addr) (old : Value) (w : World) (hg : ErrT w) (ht0 : w.cell? t = some old) (hf0 : w.frozen? t = false) :
    Calls Tryz.prog 51 #[.iface 86 (.pointer (some e)), .iface 88 (.pointer (some t))] w fun ev w' => ev = .returned (.bool true) ∧ w' = ((((w.alloc (.cells #[.pointer (some t)] 88)).alloc (.cells #[.pointer (some ⟨3, 88, none⟩), .pointer (some ⟨w.heap.size, 0, none⟩), .int .u64 150] 92)).alloc (.cells #[.pointer (some ⟨3, 88, none⟩), .pointer (some ⟨w.heap.size, 0, none⟩), .int .u64 150] 92)).alloc (.cells #[.pointer (some e)] 86)).setCell t (.pointer (some e)) := by
  have h6 := @run_callFunc_extern Tryz.prog 52 _ (fun args => ReflectliteValue.unpack (args.getD 0 (.tuple #[]))) Tryz.func52 (by kernel_rfl) (by kernel_rfl) (by kernel_rfl) (by kernel_rfl)
  have h7 := @run_callFunc_extern Tryz.prog 53 _ (ReflectliteValue.methodAny (ReflectliteValue.valueError "reflectlite.Value.Type" 0) (fun t _ _ _ => ReflectliteType.toType t)) Tryz.func53 (by kernel_rfl) (by kernel_rfl) (by kernel_rfl) (by kernel_rfl)
  have h8 := @run_callFunc_extern Tryz.prog 54 _ (ReflectliteValue.method (ReflectliteValue.valueError "reflectlite.Value.IsNil" 0) ReflectliteValue.isNil) Tryz.func54 (by kernel_rfl) (by kernel_rfl) (by kernel_rfl) (by kernel_rfl)
  have h27 := @run_callFunc_extern Tryz.prog 73 _ (ReflectliteType.abiMethod fun t => do pure (.int .u8 (← Rtype.kind t))) Tryz.func73 (by kernel_rfl) (by kernel_rfl) (by kernel_rfl) (by kernel_rfl)
  have h37 := @run_callFunc_extern Tryz.prog 123 _ (ReflectliteType.method ReflectliteType.elem) Tryz.func123 (by kernel_rfl) (by kernel_rfl) (by kernel_rfl) (by kernel_rfl)
  have h38 := @run_callFunc_extern Tryz.prog 124 _ (ReflectliteType.relation "Implements" ReflectliteType.implements_) Tryz.func124 (by kernel_rfl) (by kernel_rfl) (by kernel_rfl) (by kernel_rfl)
  have h10 := @run_callFunc_extern Tryz.prog 56 _ ReflectliteType.typeOf Tryz.func56 (by kernel_rfl) (by kernel_rfl) (by kernel_rfl) (by kernel_rfl)
  have h35 := @run_callFunc_extern Tryz.prog 121 _ (ReflectliteType.relation "AssignableTo" ReflectliteType.assignableTo) Tryz.func121 (by kernel_rfl) (by kernel_rfl) (by kernel_rfl) (by kernel_rfl)
  have h11 := @run_callFunc_extern Tryz.prog 57 _ (ReflectliteValue.method (ReflectliteValue.valueError "reflectlite.Value.Elem" 0) ReflectliteValue.elem) Tryz.func57 (by kernel_rfl) (by kernel_rfl) (by kernel_rfl) (by kernel_rfl)
  have h12 := @run_callFunc_extern Tryz.prog 58 _ ReflectliteValue.set Tryz.func58 (by kernel_rfl) (by kernel_rfl) (by kernel_rfl) (by kernel_rfl)
  have tO := rl_typeOfP
  have mA := rl_methodAssignableTo
  have a25 := rl_assignableP
  have v25 := rl_valueOfP
  have f6 := rl_valueOfPP
  have f7 := rl_typePP
  have mK := rl_methodKind
  have mE := rl_methodElem
  have mI := rl_methodImplements
  have k27 := rl_kindPP
  have k25 := rl_kindP
  have e27 := rl_elemPP
  have i25 := rl_implementsP
  have n8 := rl_isNilPP ⟨w.heap.size, 0, none⟩ t ((w.alloc (.cells #[.pointer (some t)] 88)).alloc (.cells #[.pointer (some ⟨3, 88, none⟩), .pointer (some ⟨w.heap.size, 0, none⟩), .int .u64 150] 92)) (by simp)
  have hlt := hg.lt
  have hg2 : ((w.alloc (.cells #[.pointer (some t)] 88)).alloc (.cells #[.pointer (some ⟨3, 88, none⟩), .pointer (some ⟨w.heap.size, 0, none⟩), .int .u64 150] 92)).cell? ⟨1, 0, none⟩ = some (.iface 103 (.agg #[.pointer (some ⟨3, 78, none⟩)])) := by
    rw [World.cell?_alloc_lt _ _ ⟨1, 0, none⟩ (by simp; omega), World.cell?_alloc_lt _ _ ⟨1, 0, none⟩ hlt]; exact hg
  have htl : t.block < w.heap.size := by
    rcases Nat.lt_or_ge t.block w.heap.size with h | h
    · exact h
    · simp [World.cell?, Array.getElem?_eq_none h] at ht0
  have el := rl_elemVPP ⟨w.heap.size, 0, none⟩ t (((w.alloc (.cells #[.pointer (some t)] 88)).alloc (.cells #[.pointer (some ⟨3, 88, none⟩), .pointer (some ⟨w.heap.size, 0, none⟩), .int .u64 150] 92)).alloc (.cells #[.pointer (some ⟨3, 88, none⟩), .pointer (some ⟨w.heap.size, 0, none⟩), .int .u64 150] 92)) (by rw [World.cell?_alloc_lt _ _ ⟨w.heap.size, 0, none⟩ (by simp; omega)]; simp)
  have st := rl_setP t ⟨w.heap.size + 1 + 1 + 1, 0, none⟩ e old ((((w.alloc (.cells #[.pointer (some t)] 88)).alloc (.cells #[.pointer (some ⟨3, 88, none⟩), .pointer (some ⟨w.heap.size, 0, none⟩), .int .u64 150] 92)).alloc (.cells #[.pointer (some ⟨3, 88, none⟩), .pointer (some ⟨w.heap.size, 0, none⟩), .int .u64 150] 92)).alloc (.cells #[.pointer (some e)] 86))
    (by rw [World.cell?_alloc_at _ _ _ _ (by simp)]; rfl)
    (by rw [World.cell?_alloc_lt _ _ t (by simp; omega), World.cell?_alloc_lt _ _ t (by simp; omega), World.cell?_alloc_lt _ _ t (by simp; omega), World.cell?_alloc_lt _ _ t htl]; exact ht0)
    (by rw [World.frozen?_alloc_old _ _ t (by simp; omega), World.frozen?_alloc_old _ _ t (by simp; omega), World.frozen?_alloc_old _ _ t (by simp; omega), World.frozen?_alloc_old _ _ t (Nat.ne_of_lt htl)]; exact hf0)
  unfold ErrT at hg
  go_enter Tryz.func51, Tryz.ntmps51
  go_wp2
  refine wp_loop_rounds 1 ?_
  rw [rounds_succ]
  go_wp2
  go_ret
  exact ⟨rfl, rfl⟩

set_option maxHeartbeats 1000000 in
theorem isFault_no (w : World) : Calls Tryz.prog 47 #[.nilIface] w fun e w' => e = .returned (.bool false) ∧ Chg 0 0 w w' := by
  have C : Chg 0 0 w (w.alloc (.cells #[.pointer none] 86)) := Chg.alloc (Chg.refl 0 0 w) _
  go_enter Tryz.func47, Tryz.ntmps47
  go_wp2_with (go_at_call 51; refine (as_nil _ _).mono ?_; rintro e w' ⟨rfl, rfl⟩)
  go_ret
  exact ⟨rfl, C⟩

set_option maxHeartbeats 1000000 in
theorem isFault_yes (w : World) (a : Addr) (hg : ErrT w) : Calls Tryz.prog 47 #[.iface 86 (.pointer (some a))] w fun e w' => e = .returned (.bool true) ∧ Chg 0 0 w w' := by
  have C : Chg 0 0 w (w.alloc (.cells #[.pointer none] 86)) := Chg.alloc (Chg.refl 0 0 w) _
  have hgA : ErrT (w.alloc (.cells #[.pointer none] 86)) := hg.chg C (by omega)
  have htA : (w.alloc (.cells #[.pointer none] 86)).cell? ⟨w.heap.size, 0, none⟩ = some (.pointer none) := by simp
  have hfA : (w.alloc (.cells #[.pointer none] 86)).frozen? ⟨w.heap.size, 0, none⟩ = false := by simp
  have hA := as_hit a ⟨w.heap.size, 0, none⟩ (.pointer none) _ hgA htA hfA
  have HC : Hid (Chg 0 0 w (w.alloc (.cells #[.pointer none] 86))) := C
  clear C hgA htA hfA hg
  go_enter Tryz.func47, Tryz.ntmps47
  go_wp2_with fail
  generalize w.alloc (.cells #[.pointer none] 86) = wa at *
  refine hA.mono ?_
  rintro e w' ⟨rfl, hw⟩
  have C2 : Chg 0 0 w w' := by
    rw [hw]
    exact ((((HC.out.alloc _).alloc _).alloc _).alloc _).setCell (p := ⟨w.heap.size, 0, none⟩) (Or.inr (Nat.le_refl _)) _
  have HC2 : Hid (Chg 0 0 w w') := C2
  clear hA hw C2
  go_wp2
  go_ret
  exact ⟨rfl, HC2.out⟩

end Go.Proofs.YtkkbaedlfijlmaaGreatDoor

namespace Go.Proofs.YtkkbaedlfijlmaaGreatDoor
open Go.RowKit

/-- The number of which these are the bytes. -/
def num (xs : List Int) : Int := xs.foldl (fun v x => v * 256 + x) 0

theorem num_take_succ (xs : List Int) (k : Nat) (h : k < xs.length) : num (xs.take (k + 1)) = num (xs.take k) * 256 + xs.getD k 0 := by
  unfold num
  rw [List.take_succ_eq_append_getElem h, List.foldl_append]
  simp [List.getD_eq_getElem?_getD, h]

/-- A number of k bytes, the first of which is at most m, lies below (m + 1) * 256 ^ (k - 1). -/
theorem num_bound {xs : List Int} (h : Byt xs) (m : Nat) (hm : xs.getD 0 0 ≤ m) : ∀ k, k < xs.length → 0 ≤ num (xs.take (k + 1)) ∧ num (xs.take (k + 1)) < (m + 1) * 256 ^ k := by
  intro k
  induction k with
  | zero =>
    intro hk
    rw [num_take_succ xs 0 hk]
    have := h.getD 0
    simp only [List.take_zero, num, List.foldl_nil, Int.pow_zero]; omega
  | succ k ih =>
    intro hk
    have h1 := ih (by omega)
    rw [num_take_succ xs (k + 1) hk]
    have := h.getD (k + 1)
    have e : ((m : Int) + 1) * 256 ^ (k + 1) = ((m + 1) * 256 ^ k) * 256 := by rw [Int.pow_succ, Int.mul_assoc]
    rw [e]
    omega

theorem pw_le {k n : Nat} (h : k ≤ n) : (256 : Int) ^ k ≤ 256 ^ n := by
  induction n with
  | zero => rw [Nat.le_zero.1 h]; exact Int.le_refl _
  | succ n ih =>
    rcases Nat.lt_or_ge k (n + 1) with h' | h'
    · have h1 := ih (by omega)
      have h2 : (0 : Int) ≤ 256 ^ n := Int.le_of_lt (Int.pow_pos (by decide))
      rw [Int.pow_succ]; omega
    · rw [Nat.le_antisymm h h']; exact Int.le_refl _

theorem num_lt {xs : List Int} (h : Byt xs) (hl : xs.length ≤ 8) (h8 : xs.length = 8 → xs.getD 0 0 ≤ 127) (k : Nat) (hk : k ≤ xs.length) : 0 ≤ num (xs.take k) ∧ num (xs.take k) < 9223372036854775808 ∧ (k < xs.length → num (xs.take k) < 36028797018963968) := by
  cases k with
  | zero => simp [num]
  | succ k =>
    by_cases h' : xs.length = 8
    · have h1 := num_bound h 127 (h8 h') k (by omega)
      have hp : (256 : Int) ^ k ≤ 72057594037927936 := pw_le (n := 7) (by omega)
      refine ⟨h1.1, by omega, fun h2 => ?_⟩
      have hp : (256 : Int) ^ k ≤ 281474976710656 := pw_le (n := 6) (by omega)
      omega
    · have h1 := num_bound h 255 (by have := h.getD 0; omega) k (by omega)
      have hp : (256 : Int) ^ k ≤ 281474976710656 := pw_le (n := 6) (by omega)
      refine ⟨h1.1, by omega, fun h2 => ?_⟩
      have hp : (256 : Int) ^ k ≤ 1099511627776 := pw_le (n := 5) (by omega)
      omega

theorem or_low (u x : Int) (h1 : 0 ≤ u) (h2 : u < 36028797018963968) (h3 : 0 ≤ x) (h4 : x < 256) : bits .or .u64 (u * 256) x = u * 256 + x := by
  rw [u64_or _ _ (by omega) (by omega) h3 (by omega), nat_join 8 _ _ (by omega) (by omega)]
  omega

/-- What GetNumber answers. -/
def getN (xs : List Int) : Int := if xs.length = 0 ∨ 8 < xs.length ∨ (xs.length = 8 ∧ 127 < xs.getD 0 0) then -1 else num xs

end Go.Proofs.YtkkbaedlfijlmaaGreatDoor

namespace Go.Proofs.YtkkbaedlfijlmaaGreatDoor
open Go.RowKit

/-- What is wrong with a block. -/
def FaultAt (w : World) (b : Nat) (k : Int) (why : Value) : Prop := w.heap[b]? = some (.cells #[.int .i64 k, why] 138 (0, 0))

set_option maxRecDepth 20000 in
set_option maxHeartbeats 400000 in
theorem faultOf_calls (w : World) (k : Int) (t : TypeId) (v : Value) :
    Calls Tryz.prog 82 #[.int .i64 k, (.iface t v)] w fun e w' => e = .returned (.iface 86 (.pointer (some ⟨w.heap.size, 0, none⟩))) ∧ FaultAt w' w.heap.size k (.iface t v) ∧ Chg 0 0 w w' := by
  have HB : Hid (FaultAt (w.alloc (.cells #[.int .i64 k, (.iface t v)] 138)) w.heap.size k (.iface t v)) := heap_new w _
  have HC : Hid (Chg 0 0 w (w.alloc (.cells #[.int .i64 k, (.iface t v)] 138))) := Chg.alloc (Chg.refl 0 0 w) _
  go_enter Tryz.func82, Tryz.ntmps82
  go_wp2
  go_ret
  exact ⟨rfl, HB.out, HC.out⟩

/-- A header's seven cells. -/
def hd7 (xs : List Int) : Array Value := #[.int .u8 (xs.getD 0 0), .int .u8 (xs.getD 1 0), .int .u8 (xs.getD 2 0), .int .u8 (xs.getD 3 0), .int .i64 (xs.getD 4 0), .int .i64 (getN ((xs.drop 6).take 2)), .int .i64 (getN ((xs.drop 8).take 4))]

theorem arrayAt_four (w : World) (a : Addr) (cap : Nat) : (Instr.arrayAt 66 (.slice (some a) 4 cap)).run Tryz.prog w = .ok (.pointer (some a)) w := by
  first | kernel_rfl | rfl | simp [Instr.arrayAt, go_sem]

theorem row_range {w : World} {b : Nat} {cs : List Value} {t : TypeId} (h : w.heap[b]? = some (.cells cs.toArray t (0, 0))) (o n : Nat) : w.rangeAt b o ((cs.drop o).take n) := by
  intro j v hj
  rw [List.getElem?_take] at hj
  split at hj
  · rw [List.getElem?_drop] at hj
    simp [World.cell?, h, hj]
  · cases hj

end Go.Proofs.YtkkbaedlfijlmaaGreatDoor

namespace Go.Proofs.YtkkbaedlfijlmaaGreatDoor
open Go.RowKit

/-- An error that wraps another one. -/
def Wraps (w : World) (lo : Nat) (ev : Value) (t : TypeId) (v : Value) : Prop := ∃ b k, lo ≤ b ∧ ev = .iface 86 (.pointer (some ⟨b, 0, none⟩)) ∧ FaultAt w b k (.iface t v)

theorem Wraps.chg {w w' : World} {lo l r : Nat} {ev : Value} {t : TypeId} {v : Value} (h : Wraps w lo ev t v) (c : Chg l r w w') (e : r ≤ l ∨ r ≤ lo) : Wraps w' lo ev t v := by
  obtain ⟨b, k, hb, he, hf⟩ := h
  exact ⟨b, k, hb, he, (c.block b (Array.getElem?_eq_some_iff.1 hf).1 (by omega)).trans hf⟩

theorem results_bhe {P : Program} {fn : Func} {p1 p2 p3 : Tmp} {t1 t2 : TypeId} {w : World} {tmps : Array Value} {a1 a2 : Addr} {v1 v2 v3 : Value} (h : fn.results = #[.cell p1 t1, .cell p2 t2, .tmp p3]) (h1 : tmps.getD p1 undef = .pointer (some a1)) (h2 : tmps.getD p2 undef = .pointer (some a2)) (h3 : tmps.getD p3 undef = v3)
    (hl1 : (loadVar t1 a1).run P w = .ok v1 w) (hl2 : (loadVar t2 a2).run P w = .ok v2 w) : (results fn tmps).run P w = .ok (.tuple #[v1, v2, v3]) w := by
  have h1' : tmps[p1]?.getD undef = .pointer (some a1) := by simpa using h1
  have h2' : tmps[p2]?.getD undef = .pointer (some a2) := by simpa using h2
  have h3' : tmps[p3]?.getD undef = v3 := by simpa using h3
  simp only [results, h]
  simp [asAddr, h1', h2', h3', hl1, hl2]

/-- The cells of a block. -/
def Blk (L : List Value) : Prop := L.length = 64 ∧ ∀ v ∈ L, v.oneCell' = true

abbrev z7 : List Value := [.int .u8 0, .int .u8 0, .int .u8 0, .int .u8 0, .int .i64 0, .int .i64 0, .int .i64 0]

end Go.Proofs.YtkkbaedlfijlmaaGreatDoor

namespace Go.Proofs.YtkkbaedlfijlmaaGreatDoor
open Go.RowKit

theorem OwnB.nothing (w : World) (N : Nat) (e : TypeId) : OwnB w N e (.slice none 0 0) [] := ⟨rfl, Or.inl ⟨rfl, rfl⟩⟩
theorem alloc_two (w : World) (o1 o2 : Obj) : ((w.alloc o1).alloc o2).heap[w.heap.size]? = some o1 := (alloc2 w o1 o2).2.1
theorem alloc_twoN (w : World) (o1 o2 : Obj) : ((w.alloc o1).alloc o2).heap[w.heap.size + 1]? = some o2 := (alloc2 w o1 o2).2.2
theorem trio {w : World} {s : Nat} {a b c : Value} {t : TypeId} (h : w.heap[s]? = some (.cells #[a, b, c] t (0, 0))) :
    w.cell? ⟨s, 0, none⟩ = some a ∧ w.cell? ⟨s, 1, none⟩ = some b ∧ w.cell? ⟨s, 2, none⟩ = some c := by
  simp [World.cell?, h]

end Go.Proofs.YtkkbaedlfijlmaaGreatDoor
