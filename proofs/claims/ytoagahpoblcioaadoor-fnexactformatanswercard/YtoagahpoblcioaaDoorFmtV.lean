/- What an answer is written as. -/
import Derived.Test.YtoagahpoblcioaaDoorDecL
import Derived.Test.YtoagahpoblcioaaDoorQuoteSpec
import Derived.Test.YtoagahpoblcioaaDoorTextL
namespace Go.Proofs.YtoagahpoblcioaaDoor
open Go.RowKit Go.Lib

def nmL (names : List ByteArray) : List UInt8 := [110, 97, 109, 101, 115] ++ (names.map fun n => 32 :: n.data.toList).flatten
def fmtV (kind code : Int) (data : ByteArray) (names : List ByteArray) (handle k l s b sq hd us rn cm : Int) : ByteArray :=
  if code ≠ 0 then say ⟨#[101, 114, 114, 111, 114]⟩ [code]
  else if kind = 17 ∨ kind = 15 ∨ kind = 21 then ⟨#[100, 97, 116, 97, 32]⟩ ++ quoV data
  else if kind = 14 then say ⟨#[104, 97, 110, 100, 108, 101]⟩ [handle]
  else if kind = 18 ∨ kind = 19 ∨ kind = 16 then say ⟨#[115, 116, 97, 116]⟩ [k, l, s, b]
  else if kind = 20 then ⟨(nmL names).toArray⟩
  else if kind = 24 then say ⟨#[115, 112, 97, 99, 101]⟩ [s, b]
  else if kind = 25 then say ⟨#[108, 111, 103]⟩ [sq, hd, us, rn, cm]
  else ⟨#[111, 107]⟩
abbrev cCall (kind : Int) (path to' : ByteArray) (ch co cs : Int) (cd : ByteArray) : Array Value := #[.int .i64 kind, .string path, .string to', .int .i64 ch, .int .i64 co, .int .i64 cs, .string cd]
abbrev cAns (code : Int) (data : ByteArray) (nv : Value) (handle k l s b sq hd us rn cm : Int) : Array Value := #[.int .i64 code, .string data, nv, .int .i64 handle, .int .i64 k, .int .i64 l, .int .i64 s, .int .i64 b, .int .i64 sq, .int .i64 hd, .int .i64 us, .int .i64 rn, .int .i64 cm]

theorem row_view64 {w : World} {b : Nat} {xs : List Int} {t : TypeId} (h : w.heap[b]? = some (.cells (xs.map (Value.int .i64)).toArray t (0, 0))) (hl : xs.length ≤ 1048576) : View w b (b + 1) .i64 (.slice (some ⟨b, 0, none⟩) xs.length xs.length) xs := by
  refine ⟨_, _, rfl, by omega, ⟨Nat.le_refl _, by simp⟩, Or.inr ⟨b, 0, rfl, Nat.le_refl _, Nat.lt_succ_self _, fun i hi => ?_⟩⟩
  simp only [World.cell?, h, List.getElem?_toArray, List.getElem?_map, List.getD_eq_getElem?_getD, Nat.zero_add]
  rw [List.getElem?_eq_getElem hi]
  rfl

theorem quoV_most (s : ByteArray) : (quoV s).size ≤ 196608 := by
  unfold quoV
  split
  · exact Nat.zero_le _
  · split
    · exact (by decide : (⟨#[37]⟩ : ByteArray).size ≤ 196608)
    · rw [strOfNums_size]
      have := quoL_len s s.size
      omega

theorem nmL_len (names : List ByteArray) : names.length + 5 ≤ (nmL names).length := by
  unfold nmL
  rw [List.length_append, List.length_flatten]
  have : ∀ l : List ByteArray, l.length ≤ (List.map List.length (l.map fun n => (32 : UInt8) :: n.data.toList)).sum := by
    intro l
    induction l with
    | nil => simp
    | cons x l ih => simp only [List.map_cons, List.sum_cons, List.length_cons]; omega
  have h := this names
  simp only [List.length_cons, List.length_nil]
  omega

end Go.Proofs.YtoagahpoblcioaaDoor
