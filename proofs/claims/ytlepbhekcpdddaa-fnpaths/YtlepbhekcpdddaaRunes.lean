/- Ranging over a text: what is told at a place, where the next one is. -/
import Derived.Test.YtlepbhekcpdddaaStrSpec
import Derived.Laws.RangeString
import Derived.RangeFuncRecord
namespace Go.Proofs.Ytlepbhekcpdddaa
open Go.RowKit

/-- The sign at a place, and how many bytes it takes. -/
def rune (s : ByteArray) (k : Nat) : Nat := (Utf8.decode s k).1
def wide (s : ByteArray) (k : Nat) : Nat := (Utf8.decode s k).2

theorem get_chr {s : ByteArray} {k : Nat} (h : k < s.size) : (s.get! k).toNat = chr s k := by
  rw [chr_lt h]
  congr 1
  simp [ByteArray.get!, getElem!_pos, h]
  rfl
theorem decode_low {s : ByteArray} {k : Nat} (h : k < s.size) (hc : chr s k < 128) : rune s k = chr s k ∧ wide s k = 1 := by
  rw [chr_lt h] at hc ⊢
  unfold rune wide
  rw [decode_ascii s k h hc]
  exact ⟨rfl, rfl⟩

/-- What is no plain byte: a greater number; behind its first byte stand greater bytes alone. -/
theorem decode_high {s : ByteArray} {k : Nat} (h : k < s.size) (hc : 128 ≤ chr s k) :
    128 ≤ rune s k ∧ rune s k ≤ 1114111 ∧ 1 ≤ wide s k ∧ k + wide s k ≤ s.size ∧ ∀ j, 1 ≤ j → j < wide s k → 128 ≤ chr s (k + j) := by
  have h0 : (s.get! (k + 0)).toNat = chr s k := get_chr h
  have cont : ∀ j, (decide (k + j < s.size) && (s.get! (k + j)).toNat / 64 == 2) = true → k + j < s.size ∧ 128 ≤ chr s (k + j) := by
    intro j hj
    rw [Bool.and_eq_true, decide_eq_true_eq, beq_iff_eq] at hj
    refine ⟨hj.1, ?_⟩
    have := get_chr hj.1
    omega
  have hb := chr_256 s k
  unfold rune wide
  unfold Utf8.decode
  simp only [h0]
  rw [if_neg (by omega)]
  have hbase : 128 ≤ Utf8.runeError ∧ Utf8.runeError ≤ 1114111 ∧ 1 ≤ 1 ∧ k + 1 ≤ s.size ∧ ∀ j, 1 ≤ j → j < 1 → 128 ≤ chr s (k + j) := ⟨by decide, by decide, Nat.le_refl _, by omega, fun j h1 h2 => by omega⟩
  split
  · rename_i h2
    rw [Bool.and_eq_true] at h2
    obtain ⟨c1, d1⟩ := cont 1 h2.2
    have e1 := get_chr c1
    split
    · refine ⟨by assumption, ?_, by omega, by omega, fun j h1 h2 => ?_⟩
      · have := Nat.mod_lt (chr s k) (show 32 > 0 by omega)
        have := Nat.mod_lt ((s.get! (k + 1)).toNat) (show 64 > 0 by omega)
        show _ * 64 + _ ≤ _
        omega
      · have h2 : j < 2 := h2
        obtain rfl : j = 1 := by omega
        exact d1
    · exact hbase
  · split
    · rename_i h3
      rw [Bool.and_eq_true, Bool.and_eq_true] at h3
      obtain ⟨c1, d1⟩ := cont 1 h3.1.2
      obtain ⟨c2, d2⟩ := cont 2 h3.2
      split
      · rename_i hv
        rw [Bool.and_eq_true, decide_eq_true_eq] at hv
        refine ⟨by have := hv.1; omega, ?_, by omega, by omega, fun j h1 h2 => ?_⟩
        · have := Nat.mod_lt (chr s k) (show 16 > 0 by omega)
          have := Nat.mod_lt ((s.get! (k + 1)).toNat) (show 64 > 0 by omega)
          have := Nat.mod_lt ((s.get! (k + 2)).toNat) (show 64 > 0 by omega)
          show _ * 4096 + _ * 64 + _ ≤ _
          omega
        · have h2 : j < 3 := h2
          rcases (show j = 1 ∨ j = 2 by omega) with rfl | rfl
          · exact d1
          · exact d2
      · exact hbase
    · split
      · rename_i h4
        rw [Bool.and_eq_true, Bool.and_eq_true, Bool.and_eq_true] at h4
        obtain ⟨c1, d1⟩ := cont 1 h4.1.1.2
        obtain ⟨c2, d2⟩ := cont 2 h4.1.2
        obtain ⟨c3, d3⟩ := cont 3 h4.2
        split
        · rename_i hv
          rw [Bool.and_eq_true, decide_eq_true_eq] at hv
          have hv2 := hv.2
          refine ⟨by have := hv.1; omega, ?_, by omega, by omega, fun j h1 h2 => ?_⟩
          · unfold Utf8.valid at hv2
            simp only [Bool.or_eq_true, Bool.and_eq_true, decide_eq_true_eq] at hv2
            omega
          · have h2 : j < 4 := h2
            rcases (show j = 1 ∨ j = 2 ∨ j = 3 by omega) with rfl | rfl | rfl
            · exact d1
            · exact d2
            · exact d3
        · exact hbase
      · exact hbase

theorem run_next_at {P : Program} (W : World) (b : Nat) (s : ByteArray) (k : Nat) (ty : TypeId) (hb : W.heap[b]? = some (.stringIter s k)) (h : k < s.size) :
    (Instr.next (.pointer (some ⟨b, 0, none⟩)) true ty).run P W = .ok (.tuple #[.bool true, .int .i64 k, .int .i32 (rune s k : Int)]) (W.putObj b (.stringIter s (k + wide s k))) := by
  simp [Instr.next, getObj, setObj, Sem.run, hb, h, Result.andThen, goInt, World.putObj, rune, wide]
theorem run_next_out {P : Program} (W : World) (b : Nat) (s : ByteArray) (k : Nat) (ty : TypeId) (hb : W.heap[b]? = some (.stringIter s k)) (h : ¬ k < s.size) :
    (Instr.next (.pointer (some ⟨b, 0, none⟩)) true ty).run P W = .ok (.tuple #[.bool false]) W := by
  simp [Instr.next, getObj, Sem.run, hb, h]
theorem Chg.putObj (w : World) (b : Nat) (o : Obj) : Chg b (b + 1) w (w.putObj b o) := ⟨rfl, rfl, rfl, by simp [World.putObj], fun k _ hk => World.putObj_heap_other (by omega)⟩

end Go.Proofs.Ytlepbhekcpdddaa
