/- A directory of the program: entries, and where each name stands first. -/
import Derived.Test.YtnodnpphiigcgaaFindSpec
import Derived.Test.YtnodnpphiigcgaaEntApp
import Derived.Test.YtnodnpphiigcgaaHeld
import Derived.Test.YtnodnpphiigcgaaWeak
import Derived.Maps.Own
import Derived.Maps.OwnSet
import Derived.Maps.Views
import Derived.StringKeys
import Derived.Deep.DeepCutAuto
namespace Go.Proofs.Ytnodnpphiigcgaa
open Go.RowKit

theorem findGo_ge (ts : List Ent) (s : ByteArray) : ∀ n i, findGo ts s i n = -1 ∨ (i : Int) ≤ findGo ts s i n ∧ findGo ts s i n < (i : Int) + n
  | 0, i => Or.inl rfl
  | n + 1, i => by
    unfold findGo
    split
    · right; omega
    · rcases findGo_ge ts s n (i + 1) with h | h
      · exact Or.inl h
      · right; omega
theorem findGo_snoc (ts : List Ent) (t : Ent) (s : ByteArray) : ∀ n i, i + n = ts.length → findGo (ts ++ [t]) s i (n + 1) = if findGo ts s i n = -1 then (if t.2.toList = s.toList then (ts.length : Int) else -1) else findGo ts s i n
  | 0, i, h => by
    have e : (ts ++ [t]).getD i Ent.none = t := by
      rw [List.getD_eq_getElem?_getD, List.getElem?_append_right (by omega), show i - ts.length = 0 by omega]; rfl
    show (if ((ts ++ [t]).getD i Ent.none).2.toList = s.toList then (i : Int) else -1) = _
    rw [e, show (i : Int) = (ts.length : Int) by omega]
    show _ = if (-1 : Int) = -1 then _ else _
    rw [if_pos rfl]
  | n + 1, i, h => by
    have e : (ts ++ [t]).getD i Ent.none = ts.getD i Ent.none := by
      rw [List.getD_eq_getElem?_getD, List.getElem?_append_left (by omega), ← List.getD_eq_getElem?_getD]
    show (if ((ts ++ [t]).getD i Ent.none).2.toList = s.toList then (i : Int) else findGo (ts ++ [t]) s (i + 1) (n + 1)) = _
    rw [e, findGo_snoc ts t s n (i + 1) (by omega)]
    show _ = if (if (ts.getD i Ent.none).2.toList = s.toList then (i : Int) else findGo ts s (i + 1) n) = -1 then _ else (if (ts.getD i Ent.none).2.toList = s.toList then (i : Int) else findGo ts s (i + 1) n)
    by_cases hc : (ts.getD i Ent.none).2.toList = s.toList
    · rw [if_pos hc, if_neg (by rw [if_pos hc]; omega), if_pos hc]
    · rw [if_neg hc, if_neg hc]
theorem findD_snoc (ts : List Ent) (t : Ent) (s : ByteArray) : findD (ts ++ [t]) s = if findD ts s = -1 then (if t.2.toList = s.toList then (ts.length : Int) else -1) else findD ts s := by
  unfold findD
  rw [List.length_append]
  exact findGo_snoc ts t s ts.length 0 (by omega)
theorem findD_range (ts : List Ent) (s : ByteArray) : findD ts s = -1 ∨ 0 ≤ findD ts s ∧ findD ts s < ts.length := by
  rcases findGo_ge ts s ts.length 0 with h | h
  · exact Or.inl h
  · right; unfold findD; omega

/-- A name as a key. -/
def keyT (s : ByteArray) : Lit := .string s.data.toList
theorem keyT_inj {a b : ByteArray} (h : keyT a = keyT b) : a = b := by
  unfold keyT at h
  injection h with h
  exact Go.WideShapes.bytes_inj h
theorem key_of (s : ByteArray) (hs : s.size ≤ maxLen) : keyOf Try.prog 9 (.string s) = some (keyT s) := Go.WideMaps.keyOf_string_mk Try.underlying9 hs
theorem toList_inj {a b : ByteArray} : a.toList = b.toList ↔ a = b := by
  constructor
  · intro h
    rw [ByteArray.toList_eq, ByteArray.toList_eq] at h
    exact Go.WideShapes.bytes_inj h
  · intro h; rw [h]

/-- No two have one name: each stands first at its own place. -/
def Apart (ts : List Ent) : Prop := ∀ k : Nat, k < ts.length → findD ts (ts.getD k Ent.none).2 = (k : Int)
theorem findGo_mem (ts : List Ent) (s : ByteArray) : ∀ n i j, i ≤ j → j < i + n → (ts.getD j Ent.none).2.toList = s.toList → findGo ts s i n ≠ -1
  | 0, i, j, h1, h2, _ => by omega
  | n + 1, i, j, h1, h2, h3 => by
    unfold findGo
    split
    · omega
    · rename_i hne
      have : j ≠ i := fun e => hne (by rw [← e]; exact h3)
      exact findGo_mem ts s n (i + 1) j (by omega) (by omega) h3
theorem findD_mem {ts : List Ent} {j : Nat} (h : j < ts.length) : findD ts (ts.getD j Ent.none).2 ≠ -1 := findGo_mem ts _ ts.length 0 j (Nat.zero_le _) (by omega) rfl
theorem getD_left {ts : List Ent} {t : Ent} {k : Nat} (h : k < ts.length) : (ts ++ [t]).getD k Ent.none = ts.getD k Ent.none := by
  rw [List.getD_eq_getElem?_getD, List.getElem?_append_left h, ← List.getD_eq_getElem?_getD]
theorem getD_last {ts : List Ent} {t : Ent} : (ts ++ [t]).getD ts.length Ent.none = t := by
  rw [List.getD_eq_getElem?_getD, List.getElem?_append_right (Nat.le_refl _), Nat.sub_self]; rfl
theorem apart_old {ts : List Ent} {t : Ent} (hf : findD ts t.2 ≠ -1) : ¬ Apart (ts ++ [t]) := fun h => by
  have := h ts.length (by simp)
  rw [getD_last, findD_snoc, if_neg hf] at this
  have := findD_range ts t.2
  omega
theorem apart_new {ts : List Ent} {t : Ent} (hf : findD ts t.2 = -1) : Apart (ts ++ [t]) ↔ Apart ts := by
  constructor
  · intro h k hk
    have := h k (by rw [List.length_append]; omega)
    rw [getD_left hk, findD_snoc, if_neg (findD_mem hk)] at this
    exact this
  · intro h k hk
    rw [List.length_append] at hk
    by_cases hk2 : k < ts.length
    · rw [getD_left hk2, findD_snoc, if_neg (findD_mem hk2)]
      exact h k hk2
    · obtain rfl : k = ts.length := by simp at hk; omega
      rw [getD_last, findD_snoc, if_pos hf, if_pos rfl]

/-- What the map says of the entries. -/
structure Says (D : DataW Unit) (ts : List Ent) : Prop where
  has : ∀ s : ByteArray, Maps.has D (keyT s) = decide (findD ts s ≠ -1)
  at' : ∀ s : ByteArray, findD ts s ≠ -1 → D.atKey (keyT s) (.lit (.int .i64 0)) = .lit (.int .i64 (findD ts s))
  tidy : Maps.Tidy D
  few : Maps.size D ≤ ts.length
  len : Maps.size D = ts.length ↔ Apart ts
theorem Says.nil : Says (.map []) [] := ⟨fun _ => rfl, fun _ h => absurd rfl h, Maps.tidy_empty, Nat.le_refl _, ⟨fun _ _ hk => absurd hk (Nat.not_lt_zero _), fun _ => rfl⟩⟩
theorem Says.old {D : DataW Unit} {ts : List Ent} {t : Ent} (h : Says D ts) (hf : findD ts t.2 ≠ -1) : Says D (ts ++ [t]) := by
  have e : ∀ s, findD (ts ++ [t]) s = findD ts s := fun s => by
    rw [findD_snoc]
    by_cases h1 : findD ts s = -1
    · rw [if_pos h1, h1]
      by_cases h2 : t.2.toList = s.toList
      · exact absurd (by rw [← toList_inj.1 h2] at h1; exact h1) hf
      · rw [if_neg h2]
    · rw [if_neg h1]
  refine ⟨fun s => by rw [e]; exact h.has s, fun s hs => by rw [e] at hs ⊢; exact h.at' s hs, h.tidy, by rw [List.length_append]; have := h.few; omega, ⟨fun h' => ?_, fun h' => absurd h' (apart_old hf)⟩⟩
  rw [List.length_append] at h'
  have := h.few
  simp at h'
  omega

theorem Says.new {D : DataW Unit} {ts : List Ent} {t : Ent} (h : Says D ts) (hf : findD ts t.2 = -1) : Says (D.put (keyT t.2) (.lit (.int .i64 (ts.length : Int)))) (ts ++ [t]) := by
  have hk : WideAt.IsKeyLit (keyT t.2) := trivial
  have e : ∀ s, findD (ts ++ [t]) s = if s = t.2 then (ts.length : Int) else findD ts s := fun s => by
    rw [findD_snoc]
    by_cases h2 : s = t.2
    · subst h2
      rw [if_pos hf, if_pos rfl, if_pos rfl]
    · rw [if_neg h2]
      by_cases h1 : findD ts s = -1
      · rw [if_pos h1, if_neg (fun h' => h2 (toList_inj.1 h').symm), h1]
      · rw [if_neg h1]
  have hh : Maps.has D (keyT t.2) = false := by rw [h.has, hf]; rfl
  have hsz : Maps.size (D.put (keyT t.2) (.lit (.int .i64 (ts.length : Int)))) = Maps.size D + 1 := by rw [Maps.size_put h.tidy, hh]; rfl
  refine ⟨fun s => ?_, fun s hs => ?_, ?_, by rw [hsz, List.length_append]; have := h.few; simp; omega, by
    rw [hsz, List.length_append, apart_new hf, ← h.len]
    simp⟩
  · rw [e]
    by_cases h2 : s = t.2
    · subst h2
      rw [Maps.has_put_same h.tidy.isMap hk, if_pos rfl]
      exact (decide_eq_true (by omega)).symm
    · rw [Maps.has_put_other (fun h' => h2 (keyT_inj h')), if_neg h2]
      exact h.has s
  · rw [e] at hs ⊢
    by_cases h2 : s = t.2
    · subst h2
      rw [if_pos rfl]
      exact Maps.atKey_put_same h.tidy.isMap hk _ _
    · rw [if_neg h2] at hs ⊢
      rw [Maps.atKey_put_other (fun h' => h2 (keyT_inj h'))]
      exact h.at' s hs
  · exact Maps.Tidy.put h.tidy hk _

/-- A directory in memory: its two cells, the entries, the map. -/
structure DirO (base : Nat) (W : World) (bd bm : Nat) (v : Value) (D : DataW Unit) (ts : List Ent) : Prop where
  cells : W.heap[bd]? = some (.cells #[v, .map (some bm)] 40 (0, 0))
  lo : base ≤ bd ∧ base ≤ bm
  own : OwnE W base 32 v ts
  map : W.ownsMap Try.prog 9 (plainElem Try.prog 2) bm ts.length D
  says : Says D ts
theorem DirO.chg {base l r : Nat} {W W' : World} {bd bm : Nat} {v : Value} {D : DataW Unit} {ts : List Ent} (h : DirO base W bd bm v D ts) (c : Chg l r W W') (d : r ≤ base ∨ W.heap.size ≤ l ∨ r ≤ l) : DirO base W' bd bm v D ts := by
  have hb := (Array.getElem?_eq_some_iff.1 h.cells).1
  have hm := h.map.lt
  have hlo := h.lo
  refine ⟨(c.block _ hb (by omega)).trans h.cells, h.lo, h.own.chg c (fun g hg => by have := h.own.lt g hg; omega), ?_, h.says⟩
  obtain ⟨es, clock, hh, rest⟩ := h.map
  exact ⟨es, clock, (c.block _ hm (by omega)).trans hh, rest⟩

end Go.Proofs.Ytnodnpphiigcgaa
