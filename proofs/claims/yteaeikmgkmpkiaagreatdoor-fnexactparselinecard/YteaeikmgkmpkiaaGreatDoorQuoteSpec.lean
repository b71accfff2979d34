/- Quoted data of the model: l14Plain, l14Hex, Quote. (made ahead of stage 12) -/
import Derived.Test.YteaeikmgkmpkiaaGreatDoorStrChr
import Derived.Test.YteaeikmgkmpkiaaGreatDoorBytSeen
import Derived.Test.YteaeikmgkmpkiaaGreatDoorViewStr
import Derived.Test.YteaeikmgkmpkiaaGreatDoorWeak
import Derived.Lib.AppendStr
import Derived.Great.BuildSlice
import Derived.Deep.DeepCutAuto
namespace Go.Proofs.YteaeikmgkmpkiaaGreatDoor
open Go.RowKit Go.Lib

/-- A byte that is written as it is; a digit; what a byte is written as; a text up to k. -/
def plainC (c : Nat) : Bool := decide (33 ≤ c ∧ c ≤ 126 ∧ c ≠ 37)
def hexC (v : Nat) : Nat := if v < 10 then 48 + v else 87 + v
def quo1 (c : Nat) : List Int := if plainC c = true then [(c : Int)] else [37, (hexC (c / 16) : Int), (hexC (c % 16) : Int)]
def quoL (s : ByteArray) (k : Nat) : List Int := ((List.range k).map fun i => quo1 (chr s i)).flatten
def quoV (s : ByteArray) : ByteArray := if 65536 < s.size then ⟨#[]⟩ else if s.size = 0 then ⟨#[37]⟩ else strOfNums (quoL s s.size)
theorem quoL_succ (s : ByteArray) (k : Nat) : quoL s (k + 1) = quoL s k ++ quo1 (chr s k) := by unfold quoL; rw [List.range_succ, List.map_append, List.flatten_append]; simp
theorem quo1_len (c : Nat) : 1 ≤ (quo1 c).length ∧ (quo1 c).length ≤ 3 := by unfold quo1; split <;> simp
theorem quoL_len (s : ByteArray) (k : Nat) : k ≤ (quoL s k).length ∧ (quoL s k).length ≤ 3 * k := by
  induction k with
  | zero => simp [quoL]
  | succ k ih => rw [quoL_succ, List.length_append]; have := quo1_len (chr s k); omega
theorem hexC_lt (v : Nat) (h : v < 16) : hexC v < 256 := by unfold hexC; split <;> omega

set_option maxHeartbeats 400000 in
theorem l14Plain_calls (w : World) (c : Nat) (h : c < 256) :
    Calls Tryz.prog 41 #[.int .u8 (c : Int)] w fun e w' => e = .returned (.bool (plainC c)) ∧ w' = w := by
  obtain ⟨r, Hr⟩ : ∃ r, Hid (r = plainC c) := ⟨_, rfl⟩
  rw [← Hr.out]
  go_enter Tryz.func41, Tryz.ntmps41
  by_cases h1 : 33 ≤ c
  case neg =>
    have Hn : Hid (r = false) := by show _ = _; rw [Hr.out]; unfold plainC; rw [decide_eq_false (by omega)]
    go_wp2
    go_ret
    exact ⟨by rw [Hn.out]; rfl, rfl⟩
  by_cases h2 : c ≤ 126
  case neg =>
    have Hn : Hid (r = false) := by show _ = _; rw [Hr.out]; unfold plainC; rw [decide_eq_false (by omega)]
    go_wp2
    go_ret
    exact ⟨by rw [Hn.out]; rfl, rfl⟩
  by_cases h3 : c = 37
  · have Hn : Hid (r = false) := by show _ = _; rw [Hr.out]; unfold plainC; rw [decide_eq_false (by omega)]
    subst h3
    go_wp2
    go_ret
    exact ⟨by rw [Hn.out]; rfl, rfl⟩
  · have Hn : Hid (r = true) := by show _ = _; rw [Hr.out]; unfold plainC; rw [decide_eq_true ⟨h1, h2, h3⟩]
    have h4 : ((c : Int) != 37) = true := by simp; omega
    go_wp2
    go_ret
    exact ⟨by rw [Hn.out]; rfl, rfl⟩

set_option maxHeartbeats 2000000 in
theorem l14Hex_calls (w : World) (v : Nat) (h : v < 16) :
    Calls Tryz.prog 50 #[.int .u8 (v : Int)] w fun e w' => e = .returned (.string ⟨#[UInt8.ofNat (hexC v)]⟩) ∧ w' = w := by
  have hv : v = 0 ∨ v = 1 ∨ v = 2 ∨ v = 3 ∨ v = 4 ∨ v = 5 ∨ v = 6 ∨ v = 7 ∨ v = 8 ∨ v = 9 ∨ v = 10 ∨ v = 11 ∨ v = 12 ∨ v = 13 ∨ v = 14 ∨ v = 15 := by omega
  clear h
  rcases hv with rfl | rfl | rfl | rfl | rfl | rfl | rfl | rfl | rfl | rfl | rfl | rfl | rfl | rfl | rfl | rfl
  all_goals
    go_enter Tryz.func50, Tryz.ntmps50
    go_wp2
    go_ret
    exact ⟨rfl, rfl⟩

/-- append of a text to bytes of one's own. -/
theorem wp_app_text {o : Oper} {a : Act} {w : World} {K : Act → World → Prop} {Q : Exit → Act → World → Prop} (sl x : Operand)
    (ho : o.op = .call { callee := .builtin .append, args := #[sl, x], argTypes := #[22, 9] })
    (base : Nat) (sv : Value) (xs : List Int) (hs : a.eval sl = sv) (hO : OwnB w base 5 sv xs) (hbase : base ≤ w.heap.size) (ys : List Int) (s : ByteArray) (hx : a.eval x = .string s) (hc : strCells s = ys.map (Value.int .u8)) (hl : xs.length + ys.length ≤ 1048576)
    (h : ∀ v' w', OwnB w' base 5 v' (xs ++ ys) → Chg base w.heap.size w w' → K (a.put o.dst v') w') : o.wp Tryz.prog a w K Q := by
  obtain ⟨i, hi, hz0, hz1, hz2⟩ := info_parts Tryz.infoU1
  have hsz : s.size = ys.length := by rw [← strCells_length, hc, List.length_map]
  have hrow : w.ownsRow base 5 1 sv xs.length (xs.map (Value.int .u8)) := hO
  obtain ⟨v', w', hr, h2, h3, _⟩ := run_append_own_string (P := Tryz.prog) w base 22 9 o.type 5 i Tryz.underlying22 Tryz.underlying9 hi hz0 hz1 hz2 sv xs.length _ hrow s (by unfold maxLen; omega) (by omega) hbase
  have hfin := h v' w' (by unfold OwnB; rw [List.length_append, List.map_append, ← hc, ← hsz]; exact h2) (Chg.ofGrown h3 (fun g hg hlt => ⟨(World.ownsRow.lt hrow g hg).1, hlt⟩))
  unfold Oper.wp execOp
  simp only [ho, resolve, invoke, builtin, Sem.run_bind, Sem.run_pure, Result.andThen_ok, List.map_toArray, List.map_cons, List.map_nil, hs, hx, hr]
  exact hfin

theorem text3_cells (a b : Nat) (ha : a < 256) (hb : b < 256) : strCells ((⟨#[37]⟩ ++ ⟨#[UInt8.ofNat a]⟩) ++ ⟨#[UInt8.ofNat b]⟩) = [37, (a : Int), (b : Int)].map (Value.int .u8) := by
  have h1 : (UInt8.ofNat a).toNat = a := by rw [UInt8.toNat_ofNat']; omega
  have h2 : (UInt8.ofNat b).toNat = b := by rw [UInt8.toNat_ofNat']; omega
  simp [strCells, h1, h2]

end Go.Proofs.YteaeikmgkmpkiaaGreatDoor
