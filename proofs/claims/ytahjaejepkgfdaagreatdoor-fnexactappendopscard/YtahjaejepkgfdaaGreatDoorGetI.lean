/- Several short texts in one: As, GetI. -/
import Derived.Test.YtahjaejepkgfdaaGreatDoorRows
import Derived.Test.YtahjaejepkgfdaaGreatDoorMem
import Derived.LaidEql
import Derived.Stop.Asserts
import Derived.RowKitTokens
import Derived.Test.YtahjaejepkgfdaaGreatDoorByt
import Derived.Laws.BitsAllLaws
namespace Go.Proofs.YtahjaejepkgfdaaGreatDoor
open Go.RowKit Go.Extern.Stop Go.Stop Go.Extern

theorem as_nil (t : Value) (w : World) :
    Calls Tryz.prog 103 #[.nilIface, t] w fun e w' => e = .returned (.bool false) ∧ w' = w := by
  go_enter Tryz.func103, Tryz.ntmps103
  go_wp2
  go_ret
  exact ⟨rfl, rfl⟩

theorem rl_valueOfPP (t : Addr) (w : World) : (ReflectliteValue.unpack (.iface 176 (.pointer (some t)))).run Tryz.prog w
    = .ok (.agg #[.pointer (some ⟨4, 176, none⟩), .pointer (some ⟨w.heap.size, 0, none⟩), .int .u64 150]) (w.alloc (.cells #[.pointer (some t)] 176)) := by kernel_rfl
theorem rl_typePP (a : Addr) (w : World) : (ReflectliteValue.methodAny (ReflectliteValue.valueError "reflectlite.Value.Type" 0) (fun t _ _ _ => ReflectliteType.toType t) #[.agg #[.pointer (some ⟨4, 176, none⟩), .pointer (some a), .int .u64 150]]).run Tryz.prog w
    = .ok (.iface 199 (.agg #[.pointer (some ⟨4, 176, none⟩)])) w := by kernel_rfl
theorem rl_methodKind (h : Value) (w : World) : (Go.method 359 199 (.agg #[h]) "Kind").run Tryz.prog w = .ok (152, h) w := by kernel_rfl
theorem rl_kindPP (w : World) : ((ReflectliteType.abiMethod fun t => (fun a : Nat => Value.int IntKind.u8 (a : Int)) <$> Rtype.kind t) #[.pointer (some ⟨4, 176, none⟩)]).run Tryz.prog w = .ok (.int .u8 22) w := by kernel_rfl
theorem rl_kindP (w : World) : ((ReflectliteType.abiMethod fun t => (fun a : Nat => Value.int IntKind.u8 (a : Int)) <$> Rtype.kind t) #[.pointer (some ⟨4, 174, none⟩)]).run Tryz.prog w = .ok (.int .u8 22) w := by kernel_rfl

theorem rl_partsPP (a : Addr) (w : World) : (ReflectliteValue.parts (.agg #[.pointer (some ⟨4, 176, none⟩), .pointer (some a), .int .u64 150])).run Tryz.prog w = .ok (some (176, a, 150)) w := by kernel_rfl
theorem rl_isNilPP (a p : Addr) (W : World) (ha : W.cell? a = some (.pointer (some p))) :
    (ReflectliteValue.method (ReflectliteValue.valueError "reflectlite.Value.IsNil" 0) ReflectliteValue.isNil #[.agg #[.pointer (some ⟨4, 176, none⟩), .pointer (some a), .int .u64 150]]).run Tryz.prog W = .ok (.bool false) W := by
  delta ReflectliteValue.method
  delta ReflectliteValue.method.match_2
  dsimp [Array.getLit]
  simp only [Sem.run_bind, rl_partsPP, Result.andThen]
  simp [ReflectliteValue.isNil, loadVar, isAgg, underlying, Tryz.underlying176, ha, Result.andThen]

theorem rl_methodElem (h : Value) (w : World) : (Go.method 359 199 (.agg #[h]) "Elem").run Tryz.prog w = .ok (174, .agg #[h]) w := by kernel_rfl
theorem rl_methodImplements (h : Value) (w : World) : (Go.method 359 199 (.agg #[h]) "Implements").run Tryz.prog w = .ok (175, .agg #[h]) w := by kernel_rfl
theorem rl_methodAssignableTo (h : Value) (w : World) : (Go.method 359 199 (.agg #[h]) "AssignableTo").run Tryz.prog w = .ok (172, .agg #[h]) w := by kernel_rfl
theorem rl_elemPP (w : World) : (ReflectliteType.method ReflectliteType.elem #[.agg #[.pointer (some ⟨4, 176, none⟩)]]).run Tryz.prog w = .ok (.iface 199 (.agg #[.pointer (some ⟨4, 174, none⟩)])) w := by kernel_rfl
theorem rl_implementsP (w : World) : (ReflectliteType.relation "Implements" ReflectliteType.implements_ #[.agg #[.pointer (some ⟨4, 174, none⟩)], .iface 199 (.agg #[.pointer (some ⟨4, 162, none⟩)])]).run Tryz.prog w = .ok (.bool true) w := by kernel_rfl
theorem rl_typeOfP (v : Value) (w : World) : (ReflectliteType.typeOf #[.iface 174 v]).run Tryz.prog w = .ok (.iface 199 (.agg #[.pointer (some ⟨4, 174, none⟩)])) w := by kernel_rfl
theorem rl_assignableP (w : World) : (ReflectliteType.relation "AssignableTo" ReflectliteType.assignableTo #[.agg #[.pointer (some ⟨4, 174, none⟩)], .iface 199 (.agg #[.pointer (some ⟨4, 174, none⟩)])]).run Tryz.prog w = .ok (.bool true) w := by kernel_rfl
theorem rl_valueOfP (e : Addr) (w : World) : (ReflectliteValue.unpack (.iface 174 (.pointer (some e)))).run Tryz.prog w
    = .ok (.agg #[.pointer (some ⟨4, 174, none⟩), .pointer (some ⟨w.heap.size, 0, none⟩), .int .u64 150]) (w.alloc (.cells #[.pointer (some e)] 174)) := by kernel_rfl

theorem rl_elemOfPP (w : World) : (Rtype.elem? 176).run Tryz.prog w = .ok (some 174) w := by kernel_rfl
theorem rl_mkP (p : Addr) (w : World) : (ReflectliteValue.mk 174 p ReflectliteValue.flagAddr).run Tryz.prog w = .ok (.agg #[.pointer (some ⟨4, 174, none⟩), .pointer (some p), .int .u64 406]) w := by kernel_rfl
theorem rl_elemVPP (a p : Addr) (W : World) (ha : W.cell? a = some (.pointer (some p))) :
    (ReflectliteValue.method (ReflectliteValue.valueError "reflectlite.Value.Elem" 0) ReflectliteValue.elem #[.agg #[.pointer (some ⟨4, 176, none⟩), .pointer (some a), .int .u64 150]]).run Tryz.prog W
      = .ok (.agg #[.pointer (some ⟨4, 174, none⟩), .pointer (some p), .int .u64 406]) W := by
  delta ReflectliteValue.method
  delta ReflectliteValue.method.match_2
  dsimp [Array.getLit]
  simp only [Sem.run_bind, rl_partsPP, Result.andThen]
  simp [ReflectliteValue.elem, loadVar, isAgg, underlying, Tryz.underlying176, ha, Result.andThen, rl_elemOfPP, rl_mkP]
theorem rl_partsPa (a : Addr) (w : World) : (ReflectliteValue.parts (.agg #[.pointer (some ⟨4, 174, none⟩), .pointer (some a), .int .u64 406])).run Tryz.prog w = .ok (some (174, a, 406)) w := by kernel_rfl
theorem rl_partsP (a : Addr) (w : World) : (ReflectliteValue.parts (.agg #[.pointer (some ⟨4, 174, none⟩), .pointer (some a), .int .u64 150])).run Tryz.prog w = .ok (some (174, a, 150)) w := by kernel_rfl
theorem rl_directP (w : World) : (Rtype.directlyAssignable 174 174).run Tryz.prog w = .ok true w := by kernel_rfl
theorem rl_setP (ta b e : Addr) (old : Value) (W : World) (hb : W.cell? b = some (.pointer (some e))) (ht : W.cell? ta = some old) (hf : W.frozen? ta = false) :
    (ReflectliteValue.set #[.agg #[.pointer (some ⟨4, 174, none⟩), .pointer (some ta), .int .u64 406], .agg #[.pointer (some ⟨4, 174, none⟩), .pointer (some b), .int .u64 150]]).run Tryz.prog W
      = .ok (.tuple #[]) (W.setCell ta (.pointer (some e))) := by
  delta ReflectliteValue.set
  delta ReflectliteValue.set.match_3
  dsimp [Array.getLit]
  simp only [Sem.run_bind, rl_partsPa, rl_partsP, Result.andThen]
  simp [ReflectliteValue.flagAddr, loadVar, isAgg, underlying, Tryz.underlying174, hb, Result.andThen, rl_directP, storeVar, Value.cells, storeCells, Addr.add]
  rw [run_store Tryz.prog W ta _ _ (by rfl)]
  simp [ht, hf]

/-- What package errors knows the type 'error' by. -/
def ErrT (w : World) : Prop := w.cell? ⟨1, 0, none⟩ = some (.iface 199 (.agg #[.pointer (some ⟨4, 162, none⟩)]))

theorem ErrT.lt {w : World} (h : ErrT w) : 1 < w.heap.size := lt_of_cell h

theorem ErrT.chg {w w' : World} {lo hi : Nat} (h : ErrT w) (c : Chg lo hi w w') (hlo : hi ≤ lo ∨ 4 ≤ lo) : ErrT w' := c.cell h (by omega)

set_option maxHeartbeats 4000000 in
theorem as_hit (e t : Addr) (old : Value) (w : World) (hg : ErrT w) (ht0 : w.cell? t = some old) (hf0 : w.frozen? t = false) :
    Calls Tryz.prog 103 #[.iface 174 (.pointer (some e)), .iface 176 (.pointer (some t))] w fun ev w' => ev = .returned (.bool true) ∧ w' = ((((w.alloc (.cells #[.pointer (some t)] 176)).alloc (.cells #[.pointer (some ⟨4, 176, none⟩), .pointer (some ⟨w.heap.size, 0, none⟩), .int .u64 150] 186)).alloc (.cells #[.pointer (some ⟨4, 176, none⟩), .pointer (some ⟨w.heap.size, 0, none⟩), .int .u64 150] 186)).alloc (.cells #[.pointer (some e)] 174)).setCell t (.pointer (some e)) := by
  have h6 := @run_callFunc_extern Tryz.prog 111 _ (fun args => ReflectliteValue.unpack (args.getD 0 (.tuple #[]))) Tryz.func111 (by kernel_rfl) (by kernel_rfl) (by kernel_rfl) (by kernel_rfl)
  have h7 := @run_callFunc_extern Tryz.prog 112 _ (ReflectliteValue.methodAny (ReflectliteValue.valueError "reflectlite.Value.Type" 0) (fun t _ _ _ => ReflectliteType.toType t)) Tryz.func112 (by kernel_rfl) (by kernel_rfl) (by kernel_rfl) (by kernel_rfl)
  have h8 := @run_callFunc_extern Tryz.prog 113 _ (ReflectliteValue.method (ReflectliteValue.valueError "reflectlite.Value.IsNil" 0) ReflectliteValue.isNil) Tryz.func113 (by kernel_rfl) (by kernel_rfl) (by kernel_rfl) (by kernel_rfl)
  have h27 := @run_callFunc_extern Tryz.prog 152 _ (ReflectliteType.abiMethod fun t => do pure (.int .u8 (← Rtype.kind t))) Tryz.func152 (by kernel_rfl) (by kernel_rfl) (by kernel_rfl) (by kernel_rfl)
  have h37 := @run_callFunc_extern Tryz.prog 174 _ (ReflectliteType.method ReflectliteType.elem) Tryz.func174 (by kernel_rfl) (by kernel_rfl) (by kernel_rfl) (by kernel_rfl)
  have h38 := @run_callFunc_extern Tryz.prog 175 _ (ReflectliteType.relation "Implements" ReflectliteType.implements_) Tryz.func175 (by kernel_rfl) (by kernel_rfl) (by kernel_rfl) (by kernel_rfl)
  have h10 := @run_callFunc_extern Tryz.prog 120 _ ReflectliteType.typeOf Tryz.func120 (by kernel_rfl) (by kernel_rfl) (by kernel_rfl) (by kernel_rfl)
  have h35 := @run_callFunc_extern Tryz.prog 172 _ (ReflectliteType.relation "AssignableTo" ReflectliteType.assignableTo) Tryz.func172 (by kernel_rfl) (by kernel_rfl) (by kernel_rfl) (by kernel_rfl)
  have h11 := @run_callFunc_extern Tryz.prog 121 _ (ReflectliteValue.method (ReflectliteValue.valueError "reflectlite.Value.Elem" 0) ReflectliteValue.elem) Tryz.func121 (by kernel_rfl) (by kernel_rfl) (by kernel_rfl) (by kernel_rfl)
  have h12 := @run_callFunc_extern Tryz.prog 122 _ ReflectliteValue.set Tryz.func122 (by kernel_rfl) (by kernel_rfl) (by kernel_rfl) (by kernel_rfl)
  have tO := rl_typeOfP
  have mA := rl_methodAssignableTo
  have a25 := rl_assignableP
  have v25 := rl_valueOfP
  have f6 := rl_valueOfPP
  have f7 := rl_typePP
  have mK := rl_methodKind
  have mE := rl_methodElem
  have mI := rl_methodImplements
  have k27 := rl_kindPP
  have k25 := rl_kindP
  have e27 := rl_elemPP
  have i25 := rl_implementsP
  have n8 := rl_isNilPP ⟨w.heap.size, 0, none⟩ t ((w.alloc (.cells #[.pointer (some t)] 176)).alloc (.cells #[.pointer (some ⟨4, 176, none⟩), .pointer (some ⟨w.heap.size, 0, none⟩), .int .u64 150] 186)) (by simp)
  have hlt := hg.lt
  have hg2 : ((w.alloc (.cells #[.pointer (some t)] 176)).alloc (.cells #[.pointer (some ⟨4, 176, none⟩), .pointer (some ⟨w.heap.size, 0, none⟩), .int .u64 150] 186)).cell? ⟨1, 0, none⟩ = some (.iface 199 (.agg #[.pointer (some ⟨4, 162, none⟩)])) := by
    rw [World.cell?_alloc_lt _ _ ⟨1, 0, none⟩ (by simp; omega), World.cell?_alloc_lt _ _ ⟨1, 0, none⟩ hlt]; exact hg
  have htl : t.block < w.heap.size := by
    rcases Nat.lt_or_ge t.block w.heap.size with h | h
    · exact h
    · simp [World.cell?, Array.getElem?_eq_none h] at ht0
  have el := rl_elemVPP ⟨w.heap.size, 0, none⟩ t (((w.alloc (.cells #[.pointer (some t)] 176)).alloc (.cells #[.pointer (some ⟨4, 176, none⟩), .pointer (some ⟨w.heap.size, 0, none⟩), .int .u64 150] 186)).alloc (.cells #[.pointer (some ⟨4, 176, none⟩), .pointer (some ⟨w.heap.size, 0, none⟩), .int .u64 150] 186)) (by rw [World.cell?_alloc_lt _ _ ⟨w.heap.size, 0, none⟩ (by simp; omega)]; simp)
  have st := rl_setP t ⟨w.heap.size + 1 + 1 + 1, 0, none⟩ e old ((((w.alloc (.cells #[.pointer (some t)] 176)).alloc (.cells #[.pointer (some ⟨4, 176, none⟩), .pointer (some ⟨w.heap.size, 0, none⟩), .int .u64 150] 186)).alloc (.cells #[.pointer (some ⟨4, 176, none⟩), .pointer (some ⟨w.heap.size, 0, none⟩), .int .u64 150] 186)).alloc (.cells #[.pointer (some e)] 174))
    (by rw [World.cell?_alloc_at _ _ _ _ (by simp)]; rfl)
    (by rw [World.cell?_alloc_lt _ _ t (by simp; omega), World.cell?_alloc_lt _ _ t (by simp; omega), World.cell?_alloc_lt _ _ t (by simp; omega), World.cell?_alloc_lt _ _ t htl]; exact ht0)
    (by rw [World.frozen?_alloc_old _ _ t (by simp; omega), World.frozen?_alloc_old _ _ t (by simp; omega), World.frozen?_alloc_old _ _ t (by simp; omega), World.frozen?_alloc_old _ _ t (Nat.ne_of_lt htl)]; exact hf0)
  unfold ErrT at hg
  go_enter Tryz.func103, Tryz.ntmps103
  go_wp2
  refine wp_loop_rounds 1 ?_
  rw [rounds_succ]
  go_wp2
  go_ret
  exact ⟨rfl, rfl⟩

set_option maxHeartbeats 1000000 in
theorem isFault_no (w : World) : Calls Tryz.prog 91 #[.nilIface] w fun e w' => e = .returned (.bool false) ∧ Chg 0 0 w w' := by
  have C : Chg 0 0 w (w.alloc (.cells #[.pointer none] 174)) := Chg.alloc (Chg.refl 0 0 w) _
  go_enter Tryz.func91, Tryz.ntmps91
  go_wp2_with (go_at_call 103; refine (as_nil _ _).mono ?_; rintro e w' ⟨rfl, rfl⟩)
  go_ret
  exact ⟨rfl, C⟩

set_option maxHeartbeats 1000000 in
theorem isFault_yes (w : World) (a : Addr) (hg : ErrT w) : Calls Tryz.prog 91 #[.iface 174 (.pointer (some a))] w fun e w' => e = .returned (.bool true) ∧ Chg 0 0 w w' := by
  have C : Chg 0 0 w (w.alloc (.cells #[.pointer none] 174)) := Chg.alloc (Chg.refl 0 0 w) _
  have hgA : ErrT (w.alloc (.cells #[.pointer none] 174)) := hg.chg C (by omega)
  have htA : (w.alloc (.cells #[.pointer none] 174)).cell? ⟨w.heap.size, 0, none⟩ = some (.pointer none) := by simp
  have hfA : (w.alloc (.cells #[.pointer none] 174)).frozen? ⟨w.heap.size, 0, none⟩ = false := by simp
  have hA := as_hit a ⟨w.heap.size, 0, none⟩ (.pointer none) _ hgA htA hfA
  have HC : Hid (Chg 0 0 w (w.alloc (.cells #[.pointer none] 174))) := C
  clear C hgA htA hfA hg
  go_enter Tryz.func91, Tryz.ntmps91
  go_wp2_with fail
  generalize w.alloc (.cells #[.pointer none] 174) = wa at *
  refine hA.mono ?_
  rintro e w' ⟨rfl, hw⟩
  have C2 : Chg 0 0 w w' := by
    rw [hw]
    exact ((((HC.out.alloc _).alloc _).alloc _).alloc _).setCell (p := ⟨w.heap.size, 0, none⟩) (Or.inr (Nat.le_refl _)) _
  have HC2 : Hid (Chg 0 0 w w') := C2
  clear hA hw C2
  go_wp2
  go_ret
  exact ⟨rfl, HC2.out⟩

end Go.Proofs.YtahjaejepkgfdaaGreatDoor

namespace Go.Proofs.YtahjaejepkgfdaaGreatDoor
open Go.RowKit

/-- The number of which these are the bytes. -/
def num (xs : List Int) : Int := xs.foldl (fun v x => v * 256 + x) 0

theorem num_take_succ (xs : List Int) (k : Nat) (h : k < xs.length) : num (xs.take (k + 1)) = num (xs.take k) * 256 + xs.getD k 0 := by
  unfold num
  rw [List.take_succ_eq_append_getElem h, List.foldl_append]
  simp [List.getD_eq_getElem?_getD, h]

/-- A number of k bytes, the first of which is at most m, lies below (m + 1) * 256 ^ (k - 1). -/
theorem num_bound {xs : List Int} (h : Byt xs) (m : Nat) (hm : xs.getD 0 0 ≤ m) : ∀ k, k < xs.length → 0 ≤ num (xs.take (k + 1)) ∧ num (xs.take (k + 1)) < (m + 1) * 256 ^ k := by
  intro k
  induction k with
  | zero =>
    intro hk
    rw [num_take_succ xs 0 hk]
    have := h.getD 0
    simp only [List.take_zero, num, List.foldl_nil, Int.pow_zero]; omega
  | succ k ih =>
    intro hk
    have h1 := ih (by omega)
    rw [num_take_succ xs (k + 1) hk]
    have := h.getD (k + 1)
    have e : ((m : Int) + 1) * 256 ^ (k + 1) = ((m + 1) * 256 ^ k) * 256 := by rw [Int.pow_succ, Int.mul_assoc]
    rw [e]
    omega

theorem pw_le {k n : Nat} (h : k ≤ n) : (256 : Int) ^ k ≤ 256 ^ n := by
  induction n with
  | zero => rw [Nat.le_zero.1 h]; exact Int.le_refl _
  | succ n ih =>
    rcases Nat.lt_or_ge k (n + 1) with h' | h'
    · have h1 := ih (by omega)
      have h2 : (0 : Int) ≤ 256 ^ n := Int.le_of_lt (Int.pow_pos (by decide))
      rw [Int.pow_succ]; omega
    · rw [Nat.le_antisymm h h']; exact Int.le_refl _

theorem num_lt {xs : List Int} (h : Byt xs) (hl : xs.length ≤ 8) (h8 : xs.length = 8 → xs.getD 0 0 ≤ 127) (k : Nat) (hk : k ≤ xs.length) : 0 ≤ num (xs.take k) ∧ num (xs.take k) < 9223372036854775808 ∧ (k < xs.length → num (xs.take k) < 36028797018963968) := by
  cases k with
  | zero => simp [num]
  | succ k =>
    by_cases h' : xs.length = 8
    · have h1 := num_bound h 127 (h8 h') k (by omega)
      have hp : (256 : Int) ^ k ≤ 72057594037927936 := pw_le (n := 7) (by omega)
      refine ⟨h1.1, by omega, fun h2 => ?_⟩
      have hp : (256 : Int) ^ k ≤ 281474976710656 := pw_le (n := 6) (by omega)
      omega
    · have h1 := num_bound h 255 (by have := h.getD 0; omega) k (by omega)
      have hp : (256 : Int) ^ k ≤ 281474976710656 := pw_le (n := 6) (by omega)
      refine ⟨h1.1, by omega, fun h2 => ?_⟩
      have hp : (256 : Int) ^ k ≤ 1099511627776 := pw_le (n := 5) (by omega)
      omega

theorem or_low (u x : Int) (h1 : 0 ≤ u) (h2 : u < 36028797018963968) (h3 : 0 ≤ x) (h4 : x < 256) : bits .or .u64 (u * 256) x = u * 256 + x := by
  rw [u64_or _ _ (by omega) (by omega) h3 (by omega), nat_join 8 _ _ (by omega) (by omega)]
  omega

/-- What GetNumber answers. -/
def getN (xs : List Int) : Int := if xs.length = 0 ∨ 8 < xs.length ∨ (xs.length = 8 ∧ 127 < xs.getD 0 0) then -1 else num xs

set_option maxHeartbeats 400000 in
theorem implGet_some (w : World) (xs : List Int) (b off cap : Nat) (hB : Byt xs)
    (hl : xs.length ≤ 9223372036854775807)
    (h1 : ∀ i, i < xs.length → w.cell? ⟨b, off + i, none⟩ = some (.int .u8 (xs.getD i 0))) :
    Calls Tryz.prog 115 #[.slice (some ⟨b, off, none⟩) xs.length cap] w fun e w' => e = .returned (.int .i64 (getN xs)) ∧ Same w w' := by
  by_cases hz : xs.length = 0
  · have hg : getN xs = -1 := by unfold getN; rw [if_pos (by omega)]
    have hi : ((xs.length : Int) == 0) = true := by rw [hz]; rfl
    rw [hg]
    go_enter Tryz.func115, Tryz.ntmps115
    go_wp2
    all_goals go_ret
    all_goals exact ⟨rfl, Same.refl _⟩
  by_cases h9 : 8 < xs.length
  · have hg : getN xs = -1 := by unfold getN; rw [if_pos (by omega)]
    have hi : ((xs.length : Int) == 0) = false := by simp only [beq_eq_false_iff_ne, ne_eq]; omega
    have hi2 : (xs.length : Int) > 8 := by omega
    rw [hg]
    go_enter Tryz.func115, Tryz.ntmps115
    go_wp2
    all_goals go_ret
    all_goals exact ⟨rfl, Same.refl _⟩
  have hz' : ((xs.length : Int) == 0) = false := by simp only [beq_eq_false_iff_ne, ne_eq]; omega
  have h9' : ¬ (xs.length : Int) > 8 := by omega
  have c0 := h1 0 (by omega)
  have b0 := hB.getD 0
  by_cases h8 : xs.length = 8 ∧ 127 < xs.getD 0 0
  · have hg : getN xs = -1 := by unfold getN; rw [if_pos (by omega)]
    rw [hg]
    obtain ⟨h8, h127⟩ := h8
    rw [Nat.add_zero] at c0
    generalize xs.getD 0 0 = x0 at *
    clear h1
    rw [h8]
    go_enter Tryz.func115, Tryz.ntmps115
    go_wp2
    all_goals go_ret
    all_goals exact ⟨rfl, Same.refl _⟩
  have hg : getN xs = num xs := by unfold getN; rw [if_neg (by omega)]
  have h127 : xs.length = 8 → xs.getD 0 0 ≤ 127 := by omega
  rw [hg]
  have hlt := num_lt hB (by omega) h127
  rw [Nat.add_zero] at c0
  have HG : Hid (∀ i, i < xs.length → w.cell? ⟨b, off + i, none⟩ = some (.int .u8 (xs.getD i 0))) := h1
  have HB : Hid (Byt xs) := hB
  have H8 : Hid (¬(xs.length = 8 ∧ 127 < xs.getD 0 0)) := h8
  clear hg h1 hB h8
  have hx : (((xs.length : Int) == 8) = true ∧ ¬ xs.getD 0 0 ≥ 128) ∨ ((xs.length : Int) == 8) = false := by
    by_cases e : xs.length = 8
    · left; have := h127 e; exact ⟨by rw [e]; rfl, by omega⟩
    · right; simp; omega
  clear h127
  generalize xs.getD 0 0 = x0 at *
  rcases hx with ⟨h8, hx0⟩ | h8
  all_goals
    go_enter Tryz.func115, Tryz.ntmps115
    go_wp2
    go_loop [3, 25] (fun v i => ∃ k : Nat, k ≤ xs.length ∧ i = .int .i64 k ∧ v = .int .u64 (num (xs.take k))) (fun _ i => xs.length - (intOf i).toNat)
    case atStart => exact ⟨0, Nat.zero_le _, rfl, rfl⟩
    case round =>
      obtain ⟨k, hk, rfl, rfl⟩ := hrel
      by_cases hlt' : k < xs.length
      · have c1 := HG.out k hlt'
        have e := num_take_succ xs k hlt'
        have b1 := hlt k hk
        have b2 := hlt (k + 1) hlt'
        have b3 := HB.out.getD k
        have hi : (k : Int) < (xs.length : Int) := by omega
        generalize xs.getD k 0 = x at *
        generalize num (xs.take k) = u at *
        generalize hu : num (xs.take (k + 1)) = u' at *
        have HU : Hid (num (xs.take (k + 1)) = u') := hu
        clear hu
        go_wp2
        go_round
        case rel => exact ⟨k + 1, by omega, by go_num, by rw [HU.out, or_low u x (by omega) (by omega) (by omega) (by omega), e]⟩
        case measure => simp [intOf]; omega
      · obtain rfl : k = xs.length := by omega
        have b1 := hlt xs.length hk
        rw [List.take_length] at *
        go_wp2
        go_ret
        exact ⟨rfl, Same.refl _⟩

set_option maxHeartbeats 400000 in
theorem implGet_none (w : World) (ao : Option Addr) (cap : Nat) :
    Calls Tryz.prog 115 #[.slice ao 0 cap] w fun e w' => e = .returned (.int .i64 (-1)) ∧ Same w w' := by
  go_enter Tryz.func115, Tryz.ntmps115
  go_wp2
  go_ret
  exact ⟨rfl, Same.refl _⟩

theorem implGet_calls (w : World) {lo hi : Nat} {a : Value} {xs : List Int} (hB : Byt xs) (h1 : View w lo hi .u8 a xs) :
    Calls Tryz.prog 115 #[a] w fun e w' => e = .returned (.int .i64 (getN xs)) ∧ Same w w' := by
  obtain ⟨ao, cap, rfl, hl, _, h1⟩ := h1
  rcases h1 with rfl | ⟨x, off, rfl, _, _, h1⟩
  · exact implGet_none w ao cap
  · exact implGet_some w xs x off cap hB hl h1

end Go.Proofs.YtahjaejepkgfdaaGreatDoor
