/- Texts: l10Bytes, l10Cut, ValidName of the model. -/
import Derived.Test.YtlbiaennccionaaRows
import Derived.Test.YtlbiaennccionaaMem
import Derived.Test.YtlbiaennccionaaStrChr
import Derived.Deep.DeepCutAuto
namespace Go.Proofs.Ytlbiaennccionaa
open Go.RowKit

def inSet (c : Nat) : Bool := decide (33 ≤ c) && decide (c ≤ 126)
theorem inSet_iff {c : Nat} : inSet c = true ↔ 33 ≤ c ∧ c ≤ 126 := by unfold inSet; simp
def setTo (s : ByteArray) : Nat → Bool
  | 0 => true
  | n + 1 => setTo s n && inSet (chr s n)
theorem setTo_false {s : ByteArray} {k : Nat} (h : inSet (chr s k) = false) : ∀ n, k < n → setTo s n = false := by
  intro n
  induction n with
  | zero => intro h; omega
  | succ n ih =>
    intro hk
    unfold setTo
    by_cases e : k = n
    · subst e; rw [h]; simp
    · rw [ih (by omega)]; simp
def setB (s : ByteArray) : Bool := setTo s s.size

/-- A row of texts, owned. -/
def OwnS (w : World) (base : Nat) (e : TypeId) (v : Value) (ps : List ByteArray) : Prop := w.ownsRow base e 1 v ps.length (ps.map Value.string)
theorem OwnS.lt {w : World} {base : Nat} {e : TypeId} {v : Value} {ps : List ByteArray} (h : OwnS w base e v ps) : ∀ g, v.ownBlock = some g → base ≤ g ∧ g < w.heap.size := World.ownsRow.lt h
theorem OwnS.chg {w w' : World} {base l r : Nat} {e : TypeId} {v : Value} {ps : List ByteArray} (h : OwnS w base e v ps) (c : Chg l r w w') (d : ∀ g, v.ownBlock = some g → g < l ∨ r ≤ g) : OwnS w' base e v ps := by
  obtain ⟨h1, h2⟩ := h
  refine ⟨h1, ?_⟩
  rcases h2 with h2 | ⟨g, cap, cur, hv, hg, hh, r⟩
  · exact Or.inl h2
  · refine Or.inr ⟨g, cap, cur, hv, hg, ?_, r⟩
    rw [c.block g (Array.getElem?_eq_some_iff.1 hh).1 (d g (by rw [hv]; rfl))]; exact hh
theorem OwnS.nil (w : World) (e : TypeId) : OwnS (w.alloc (.cells #[] e)) w.heap.size e (.slice (some ⟨w.heap.size, 0, none⟩) 0 0) [] := by
  have := World.ownsRow_lit (base := w.heap.size) (e := e) (size := 1) w #[] 0 (Nat.le_refl _) (by unfold maxLen; omega) (by simp)
  simpa [OwnS] using this

theorem Try.infoStr : (Try.prog.info? 9).map (fun i => (i.zero, i.size, i.bytes)) = some (some (.string ⟨#[]⟩), 1, 16) := by kernel_rfl

/-- append of one text. -/
theorem wpList_app_text {ops : Array Oper} {rest : List Oper} {o : Oper} {a : Act} {w : World} {Q : Exit → Act → World → Prop} (hgd : o.guard = none) (s x : Operand)
    (ho : o.op = .call { callee := .builtin .append, args := #[s, x], argTypes := #[24, 24] }) (base : Nat) (v : Value) (ps : List ByteArray) (hs : a.eval s = v) (hown : OwnS w base 9 v ps)
    (b c : Nat) (p : ByteArray) (hx : a.eval x = .slice (some ⟨b, 0, none⟩) 1 c) (hc : w.cell? ⟨b, 0, none⟩ = some (.string p)) (hk : ps.length + 1 ≤ 2097152) (hbase : base ≤ w.heap.size)
    (h : ∀ v' w', (∃ g cap, v' = .slice (some ⟨g, 0, none⟩) (ps.length + 1) cap) → OwnS w' base 9 v' (ps ++ [p]) → Chg base w.heap.size w w' → wpList Try.prog ops Q rest (a.put o.dst v') w') : wpList Try.prog ops Q (o :: rest) a w := by
  obtain ⟨i, hi, hz0, hz1, hz2⟩ := info_parts Try.infoStr
  refine wpList_append_own w hgd s x 24 ho base 9 i _ 1 16 Try.underlying24 hi hz0 hz1 hz2 rfl (by omega) v ps.length _ hs hown ⟨b, 0, none⟩ 1 c [.string p] hx rfl ?_ ?_ (by unfold maxLen; omega) (by omega) hbase ?_
  · intro j u hj
    have hj0 : j = 0 := by have := (List.getElem?_eq_some_iff.1 hj).1; simp at this; exact this
    subst hj0
    simp at hj
    subst hj
    rw [Go.WideShapes.add_plain]; exact hc
  · intro u hu
    simp at hu; subst hu; rfl
  · intro v' w' h1 h2 _
    refine h v' w' ?_ (by unfold OwnS; rw [List.length_append, List.map_append]; exact h1) (Chg.ofGrown h2 (fun g hg hlt => ⟨(World.ownsRow.lt hown g hg).1, hlt⟩))
    rcases h1.2 with ⟨_, h0⟩ | ⟨g', cap', cur, e', _⟩
    · omega
    · exact ⟨g', cap', e'⟩

/-- The parts of a text. -/
def cutGo (s : ByteArray) (c : Nat) : Nat → Nat → Nat → List ByteArray → List ByteArray
  | 0, _, f, out => out ++ [s.extract f s.size]
  | n + 1, k, f, out => if chr s k = c then cutGo s c n (k + 1) (k + 1) (out ++ [s.extract f k]) else cutGo s c n (k + 1) f out
def cutD (s : ByteArray) (c : Nat) : List ByteArray := cutGo s c s.size 0 0 []

theorem cutGo_length (s : ByteArray) (c : Nat) : ∀ n k f out, (∀ j, k ≤ j → j < k + n → chr s j ≠ c) → (cutGo s c n k f out).length = out.length + 1 := by
  intro n
  induction n with
  | zero => intro k f out _; simp [cutGo]
  | succ n ih =>
    intro k f out h
    unfold cutGo
    rw [if_neg (h k (Nat.le_refl _) (by omega))]
    exact ih (k + 1) f out (fun j h1 h2 => h j (by omega) (by omega))
theorem cutGo_ge (s : ByteArray) (c : Nat) : ∀ n k f out, out.length + 1 ≤ (cutGo s c n k f out).length := by
  intro n
  induction n with
  | zero => intro k f out; simp [cutGo]
  | succ n ih =>
    intro k f out
    unfold cutGo
    split
    · have := ih (k + 1) (k + 1) (out ++ [s.extract f k]); simp at this; omega
    · exact ih (k + 1) f out
theorem cutGo_more (s : ByteArray) (c : Nat) : ∀ n k f out j, k ≤ j → j < k + n → chr s j = c → out.length + 2 ≤ (cutGo s c n k f out).length := by
  intro n
  induction n with
  | zero => intro k f out j h1 h2; omega
  | succ n ih =>
    intro k f out j h1 h2 h3
    unfold cutGo
    split
    · have := cutGo_ge s c n (k + 1) (k + 1) (out ++ [s.extract f k]); simp at this; omega
    · rename_i hk
      by_cases e : j = k
      · subst e; exact absurd h3 hk
      · exact ih (k + 1) f out j (by omega) (by omega) h3
/-- It has one part exactly if the byte is not in it. -/
theorem cutD_one {s : ByteArray} {c : Nat} : (cutD s c).length = 1 ↔ ∀ j, j < s.size → chr s j ≠ c := by
  constructor
  · intro h j hj he
    have := cutGo_more s c s.size 0 0 [] j (Nat.zero_le _) (by omega) he
    unfold cutD at h
    simp at this; omega
  · intro h
    unfold cutD
    rw [cutGo_length s c s.size 0 0 [] (fun j _ h2 => h j (by omega))]; rfl

end Go.Proofs.Ytlbiaennccionaa
