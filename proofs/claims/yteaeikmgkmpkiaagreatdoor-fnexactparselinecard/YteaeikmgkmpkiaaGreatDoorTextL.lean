/- Several short texts in one: StrSpec, MarkText, TextL. -/
import Derived.Test.YteaeikmgkmpkiaaGreatDoorRows
import Derived.Test.YteaeikmgkmpkiaaGreatDoorMem
import Derived.Test.YteaeikmgkmpkiaaGreatDoorByt
import Derived.Deep.DeepCutAuto
import Derived.Test.YteaeikmgkmpkiaaGreatDoorDecL
import Derived.Deep.RegionWith
namespace Go.Proofs.YteaeikmgkmpkiaaGreatDoor
open Go.RowKit

def inSet (c : Nat) : Bool := decide (33 ≤ c) && decide (c ≤ 126)
theorem inSet_iff {c : Nat} : inSet c = true ↔ 33 ≤ c ∧ c ≤ 126 := by unfold inSet; simp
def setTo (s : ByteArray) : Nat → Bool
  | 0 => true
  | n + 1 => setTo s n && inSet (chr s n)
theorem setTo_false {s : ByteArray} {k : Nat} (h : inSet (chr s k) = false) : ∀ n, k < n → setTo s n = false := by
  intro n
  induction n with
  | zero => intro h; omega
  | succ n ih =>
    intro hk
    unfold setTo
    by_cases e : k = n
    · subst e; rw [h]; simp
    · rw [ih (by omega)]; simp
def setB (s : ByteArray) : Bool := setTo s s.size

/-- A row of texts, owned. -/
def OwnS (w : World) (base : Nat) (e : TypeId) (v : Value) (ps : List ByteArray) : Prop := w.ownsRow base e 1 v ps.length (ps.map Value.string)
theorem OwnS.lt {w : World} {base : Nat} {e : TypeId} {v : Value} {ps : List ByteArray} (h : OwnS w base e v ps) : ∀ g, v.ownBlock = some g → base ≤ g ∧ g < w.heap.size := World.ownsRow.lt h
theorem OwnS.chg {w w' : World} {base l r : Nat} {e : TypeId} {v : Value} {ps : List ByteArray} (h : OwnS w base e v ps) (c : Chg l r w w') (d : ∀ g, v.ownBlock = some g → g < l ∨ r ≤ g) : OwnS w' base e v ps := by
  obtain ⟨h1, h2⟩ := h
  refine ⟨h1, ?_⟩
  rcases h2 with h2 | ⟨g, cap, cur, hv, hg, hh, r⟩
  · exact Or.inl h2
  · refine Or.inr ⟨g, cap, cur, hv, hg, ?_, r⟩
    rw [c.block g (Array.getElem?_eq_some_iff.1 hh).1 (d g (by rw [hv]; rfl))]; exact hh
theorem OwnS.nil (w : World) (e : TypeId) : OwnS (w.alloc (.cells #[] e)) w.heap.size e (.slice (some ⟨w.heap.size, 0, none⟩) 0 0) [] := by
  have := World.ownsRow_lit (base := w.heap.size) (e := e) (size := 1) w #[] 0 (Nat.le_refl _) (by unfold maxLen; omega) (by simp)
  simpa [OwnS] using this

theorem Tryz.infoStr : (Tryz.prog.info? 9).map (fun i => (i.zero, i.size, i.bytes)) = some (some (.string ⟨#[]⟩), 1, 16) := by kernel_rfl

/-- append of one text. -/
theorem wpList_app_text {ops : Array Oper} {rest : List Oper} {o : Oper} {a : Act} {w : World} {Q : Exit → Act → World → Prop} (hgd : o.guard = none) (s x : Operand)
    (ho : o.op = .call { callee := .builtin .append, args := #[s, x], argTypes := #[35, 35] }) (base : Nat) (v : Value) (ps : List ByteArray) (hs : a.eval s = v) (hown : OwnS w base 9 v ps)
    (b c : Nat) (p : ByteArray) (hx : a.eval x = .slice (some ⟨b, 0, none⟩) 1 c) (hc : w.cell? ⟨b, 0, none⟩ = some (.string p)) (hk : ps.length + 1 ≤ 2097152) (hbase : base ≤ w.heap.size)
    (h : ∀ v' w', (∃ g cap, v' = .slice (some ⟨g, 0, none⟩) (ps.length + 1) cap) → OwnS w' base 9 v' (ps ++ [p]) → Chg base w.heap.size w w' → wpList Tryz.prog ops Q rest (a.put o.dst v') w') : wpList Tryz.prog ops Q (o :: rest) a w := by
  obtain ⟨i, hi, hz0, hz1, hz2⟩ := info_parts Tryz.infoStr
  refine wpList_append_own w hgd s x 35 ho base 9 i _ 1 16 Tryz.underlying35 hi hz0 hz1 hz2 rfl (by omega) v ps.length _ hs hown ⟨b, 0, none⟩ 1 c [.string p] hx rfl ?_ ?_ (by unfold maxLen; omega) (by omega) hbase ?_
  · intro j u hj
    have hj0 : j = 0 := by have := (List.getElem?_eq_some_iff.1 hj).1; simp at this; exact this
    subst hj0
    simp at hj
    subst hj
    rw [Go.WideShapes.add_plain]; exact hc
  · intro u hu
    simp at hu; subst hu; rfl
  · intro v' w' h1 h2 _
    refine h v' w' ?_ (by unfold OwnS; rw [List.length_append, List.map_append]; exact h1) (Chg.ofGrown h2 (fun g hg hlt => ⟨(World.ownsRow.lt hown g hg).1, hlt⟩))
    rcases h1.2 with ⟨_, h0⟩ | ⟨g', cap', cur, e', _⟩
    · omega
    · exact ⟨g', cap', e'⟩

/-- The parts of a text. -/
def cutGo (s : ByteArray) (c : Nat) : Nat → Nat → Nat → List ByteArray → List ByteArray
  | 0, _, f, out => out ++ [s.extract f s.size]
  | n + 1, k, f, out => if chr s k = c then cutGo s c n (k + 1) (k + 1) (out ++ [s.extract f k]) else cutGo s c n (k + 1) f out
def cutD (s : ByteArray) (c : Nat) : List ByteArray := cutGo s c s.size 0 0 []

set_option maxRecDepth 20000 in
set_option maxHeartbeats 1000000 in
theorem l10Cut_calls (w : World) (s : ByteArray) (c : Nat) (_hc : c < 256) (hl : s.size ≤ 1048576) :
    Calls Tryz.prog 12 #[.string s, .int .u8 c] w fun e w' => ∃ g cap, e = .returned (.slice (some ⟨g, 0, none⟩) (cutD s c).length cap) ∧ OwnS w' w.heap.size 9 (.slice (some ⟨g, 0, none⟩) (cutD s c).length cap) (cutD s c) ∧ Chg 0 0 w w' := by
  have HO0 : Hid (OwnS (w.alloc (.cells #[] 9)) w.heap.size 9 (.slice (some ⟨w.heap.size, 0, none⟩) 0 0) []) := OwnS.nil w _
  have C0 : Chg 0 0 w (w.alloc (.cells #[] 9)) := Chg.alloc (Chg.refl 0 0 w) _
  have HD : Hid (cutD s c = cutGo s c s.size 0 0 []) := rfl
  go_enter Tryz.func12, Tryz.ntmps12
  go_wp2
  go_loopw [5, 6, 7] (fun o f x wr => ∃ (k fr g cp : Nat) (ps : List ByteArray), k ≤ s.size ∧ fr ≤ k ∧ ps.length ≤ k ∧ x = .int .i64 k ∧ f = .int .i64 fr ∧ o = .slice (some ⟨g, 0, none⟩) ps.length cp ∧ OwnS wr w.heap.size 9 (.slice (some ⟨g, 0, none⟩) ps.length cp) ps ∧ Chg 0 0 w wr ∧ cutD s c = cutGo s c (s.size - k) k fr ps) (fun _ _ x _ => s.size - (intOf x).toNat)
  case atStart => exact ⟨0, 0, _, _, [], Nat.zero_le _, Nat.le_refl _, Nat.le_refl _, rfl, rfl, rfl, HO0.out, C0, HD.out⟩
  case round =>
    obtain ⟨k, fr, g, cp, ps, hk, hf, hp, rfl, rfl, rfl, ho, hch, hR⟩ := hrel
    have HC : Hid (Chg 0 0 w wr) := hch
    have HO : Hid (OwnS wr w.heap.size 9 (.slice (some ⟨g, 0, none⟩) ps.length cp) ps) := ho
    have s1 := hch.size
    by_cases hlt : k < s.size
    · have hi : (k : Int) < (s.size : Int) := by omega
      rw [show s.size - k = (s.size - (k + 1)) + 1 by omega] at hR
      have hR' : cutD s c = if chr s k = c then cutGo s c (s.size - (k + 1)) (k + 1) (k + 1) (ps ++ [s.extract fr k]) else cutGo s c (s.size - (k + 1)) (k + 1) fr ps := hR
      have hcs : s[k].toNat = chr s k := (chr_lt hlt).symm
      clear hR ho hch
      by_cases he : chr s k = c
      · rw [if_pos he] at hR'
        have Hn : Hid (cutD s c = cutGo s c (s.size - (k + 1)) (k + 1) (k + 1) (ps ++ [s.extract fr k])) := hR'
        have HOq : Hid (OwnS (wr.alloc (.cells #[.string (s.extract fr k)] 9)) w.heap.size 9 (.slice (some ⟨g, 0, none⟩) ps.length cp) ps) := HO.out.chg ((Chg.refl 0 0 wr).alloc _) (by intro g _; omega)
        have HCq : Hid (Chg 0 0 w (wr.alloc (.cells #[.string (s.extract fr k)] 9))) := HC.out.alloc _
        have HNW : Hid ((wr.alloc (.cells #[.string (s.extract fr k)] 9)).cell? ⟨wr.heap.size, 0, none⟩ = some (.string (s.extract fr k))) := by
          have hh := heap_new wr (.cells #[.string (s.extract fr k)] 9)
          show _ = _
          simp only [World.cell?, hh]; rfl
        rw [he] at hcs
        clear hR' he
        go_wp2_with (at_builtin; refine wpList_app_text rfl (.tmp 20) (.tmp 25) rfl w.heap.size _ ps rfl HOq.out wr.heap.size 1 (s.extract fr k) rfl HNW.out (by omega) (by simp; omega) ?_)
        intro v' w5 g' cap' hv' ho5 hc5; subst hv'
        have HO5 : Hid (OwnS w5 w.heap.size 9 (.slice (some ⟨g', 0, none⟩) (ps ++ [s.extract fr k]).length cap') (ps ++ [s.extract fr k])) := by show OwnS _ _ _ _ _; rw [List.length_append]; exact ho5
        have HC5 : Hid (Chg 0 0 w w5) := HCq.out.step hc5 (Or.inr (Or.inl (Nat.le_refl _)))
        clear ho5 hc5 HNW HOq HCq
        go_wp2
        go_roundw
        case rel => exact ⟨k + 1, k + 1, g', cap', ps ++ [s.extract fr k], by omega, by omega, by simp; omega, by go_num, by go_num, by simp, HO5.out, HC5.out, Hn.out⟩
        case measure => simp [intOf]; omega
      · rw [if_neg he] at hR'
        have Hn : Hid (cutD s c = cutGo s c (s.size - (k + 1)) (k + 1) fr ps) := hR'
        have hne : (((chr s k : Nat) : Int) == (c : Int)) = false := by simpa using fun h : ((chr s k : Nat) : Int) = c => he (by omega)
        have hcb := chr_256 s k
        generalize chr s k = d at *
        clear hR' he
        go_wp2
        go_roundw
        case rel => exact ⟨k + 1, fr, g, cp, ps, by omega, by omega, by omega, by go_num, rfl, rfl, HO.out, HC.out, Hn.out⟩
        case measure => simp [intOf]; omega
    · obtain rfl : k = s.size := by omega
      have hR' : cutD s c = ps ++ [s.extract fr s.size] := by rw [hR, Nat.sub_self]; rfl
      have Hn : Hid (cutD s c = ps ++ [s.extract fr s.size]) := hR'
      have HOq : Hid (OwnS (wr.alloc (.cells #[.string (s.extract fr s.size)] 9)) w.heap.size 9 (.slice (some ⟨g, 0, none⟩) ps.length cp) ps) := HO.out.chg ((Chg.refl 0 0 wr).alloc _) (by intro g _; omega)
      have HCq : Hid (Chg 0 0 w (wr.alloc (.cells #[.string (s.extract fr s.size)] 9))) := HC.out.alloc _
      have HNW : Hid ((wr.alloc (.cells #[.string (s.extract fr s.size)] 9)).cell? ⟨wr.heap.size, 0, none⟩ = some (.string (s.extract fr s.size))) := by
        have hh := heap_new wr (.cells #[.string (s.extract fr s.size)] 9)
        show _ = _
        simp only [World.cell?, hh]; rfl
      clear hR hR' ho hch
      go_wp2_with (at_builtin; refine wpList_app_text rfl (.tmp 29) (.tmp 33) rfl w.heap.size _ ps rfl HOq.out wr.heap.size 1 (s.extract fr s.size) rfl HNW.out (by omega) (by simp; omega) ?_)
      intro v' w5 g' cap' hv' ho5 hc5; subst hv'
      have HO5 : Hid (OwnS w5 w.heap.size 9 (.slice (some ⟨g', 0, none⟩) (ps.length + 1) cap') (ps ++ [s.extract fr s.size])) := ho5
      have HC5 : Hid (Chg 0 0 w w5) := HCq.out.step hc5 (Or.inr (Or.inl (Nat.le_refl _)))
      have Hl : Hid ((ps ++ [s.extract fr s.size]).length = ps.length + 1) := by simp [Hid]
      clear ho5 hc5 HNW HOq HCq
      go_wp2
      go_ret
      exact ⟨g', cap', by rw [Hn.out, Hl.out]; rfl, by rw [Hn.out, Hl.out]; exact HO5.out, HC5.out⟩

theorem cutGo_length (s : ByteArray) (c : Nat) : ∀ n k f out, (∀ j, k ≤ j → j < k + n → chr s j ≠ c) → (cutGo s c n k f out).length = out.length + 1 := by
  intro n
  induction n with
  | zero => intro k f out _; simp [cutGo]
  | succ n ih =>
    intro k f out h
    unfold cutGo
    rw [if_neg (h k (Nat.le_refl _) (by omega))]
    exact ih (k + 1) f out (fun j h1 h2 => h j (by omega) (by omega))
theorem cutGo_ge (s : ByteArray) (c : Nat) : ∀ n k f out, out.length + 1 ≤ (cutGo s c n k f out).length := by
  intro n
  induction n with
  | zero => intro k f out; simp [cutGo]
  | succ n ih =>
    intro k f out
    unfold cutGo
    split
    · have := ih (k + 1) (k + 1) (out ++ [s.extract f k]); simp at this; omega
    · exact ih (k + 1) f out
theorem cutGo_more (s : ByteArray) (c : Nat) : ∀ n k f out j, k ≤ j → j < k + n → chr s j = c → out.length + 2 ≤ (cutGo s c n k f out).length := by
  intro n
  induction n with
  | zero => intro k f out j h1 h2; omega
  | succ n ih =>
    intro k f out j h1 h2 h3
    unfold cutGo
    split
    · have := cutGo_ge s c n (k + 1) (k + 1) (out ++ [s.extract f k]); simp at this; omega
    · rename_i hk
      by_cases e : j = k
      · subst e; exact absurd h3 hk
      · exact ih (k + 1) f out j (by omega) (by omega) h3
/-- It has one part exactly if the byte is not in it. -/
theorem cutD_one {s : ByteArray} {c : Nat} : (cutD s c).length = 1 ↔ ∀ j, j < s.size → chr s j ≠ c := by
  constructor
  · intro h j hj he
    have := cutGo_more s c s.size 0 0 [] j (Nat.zero_le _) (by omega) he
    unfold cutD at h
    simp at this; omega
  · intro h
    unfold cutD
    rw [cutGo_length s c s.size 0 0 [] (fun j _ h2 => h j (by omega))]; rfl

end Go.Proofs.YteaeikmgkmpkiaaGreatDoor

namespace Go.Proofs.YteaeikmgkmpkiaaGreatDoor
open Go.RowKit

def mtGo : Nat → Nat → ByteArray → ByteArray
  | 0, _, s => s
  | n + 1, m, s => if m = 0 then s else mtGo n (m / 10) (strOfNums [48 + (m : Int) % 10] ++ s)
/-- The text that marks with k. -/
def mtext (k : Nat) : ByteArray := (⟨#[109]⟩ : ByteArray) ++ mtGo k k ⟨#[]⟩

theorem strOfNums_one (d : Int) : (strOfNums [d]).size = 1 := by simp [strOfNums, ByteArray.size]

end Go.Proofs.YteaeikmgkmpkiaaGreatDoor

namespace Go.Proofs.YteaeikmgkmpkiaaGreatDoor
open Go.RowKit

def noText : ByteArray := ⟨#[]⟩
def SView (w : World) (lo hi : Nat) (v : Value) (ps : List ByteArray) : Prop :=
  ∃ ao cap, v = .slice ao ps.length cap ∧ ps.length ≤ 9223372036854775807 ∧ ps.length ≤ cap ∧
    (ps = [] ∨ ∃ b off, ao = some ⟨b, off, none⟩ ∧ lo ≤ b ∧ b < hi ∧ ∀ i, i < ps.length → w.cell? ⟨b, off + i, none⟩ = some (.string (ps.getD i noText)))
theorem SView.chg {w w' : World} {lo hi l r : Nat} {v : Value} {ps : List ByteArray} (h : SView w lo hi v ps) (c : Chg l r w w') (d : hi ≤ l ∨ r ≤ lo ∨ r ≤ l) : SView w' lo hi v ps := by
  obtain ⟨ao, cap, hv, h1, h2, h3⟩ := h
  refine ⟨ao, cap, hv, h1, h2, ?_⟩
  rcases h3 with h3 | ⟨b, off, hao, hb, hb', h3⟩
  · exact Or.inl h3
  · exact Or.inr ⟨b, off, hao, hb, hb', fun i hi => c.cell (h3 i hi) (by show b < l ∨ r ≤ b; omega)⟩
theorem SView.slice {w : World} {lo hi : Nat} {v : Value} {ps : List ByteArray} (h : SView w lo hi v ps) : ∃ ao cap, v = .slice ao ps.length cap := by
  obtain ⟨ao, cap, rfl, _⟩ := h; exact ⟨ao, cap, rfl⟩
theorem SView.nil (w : World) (lo hi : Nat) : SView w lo hi (.slice none 0 0) [] := ⟨none, 0, rfl, by simp, by simp, Or.inl rfl⟩
theorem OwnS.view {w : World} {base : Nat} {e : TypeId} {v : Value} {ps : List ByteArray} (h : OwnS w base e v ps) (hl : ps.length ≤ 9223372036854775807) {hi : Nat} (hb : ∀ g, v.ownBlock = some g → g < hi) : SView w base hi v ps := by
  have h' := h
  obtain ⟨_, h2⟩ := h
  rcases h2 with ⟨rfl, h0⟩ | ⟨g, cap, cur, rfl, hg, hh, hc, hm, hs, ht⟩
  · obtain rfl : ps = [] := List.eq_nil_of_length_eq_zero h0
    exact SView.nil _ _ _
  · refine ⟨_, cap, rfl, hl, hc, Or.inr ⟨g, 0, rfl, hg, hb g rfl, fun i hi => ?_⟩⟩
    rw [Nat.zero_add, World.ownsRow.cellAt h' i (by omega), List.getElem?_map, List.getElem?_eq_getElem hi]
    simp [List.getD_eq_getElem?_getD, List.getElem?_eq_getElem hi]

/-- Texts that are marks. -/
def mkT (k0 n : Nat) : List ByteArray := (List.range n).map fun i => mtext (k0 + i)
theorem mkT_len (k0 n : Nat) : (mkT k0 n).length = n := by simp [mkT]
theorem mkT_getD (k0 n i : Nat) (h : i < n) : (mkT k0 n).getD i noText = mtext (k0 + i) := by simp [mkT, List.getD_eq_getElem?_getD, h]
theorem mkT_set (k0 k : Nat) (ps : List ByteArray) (h : k < ps.length) : ((mkT k0 k ++ ps.drop k).map Value.string).set k (.string (mtext (k0 + k))) = (mkT k0 (k + 1) ++ ps.drop (k + 1)).map Value.string := by
  rw [← List.map_set]
  congr 1
  rw [List.set_append, mkT_len, if_neg (by omega), Nat.sub_self, List.drop_eq_getElem_cons h, List.set_cons_zero]
  have : mkT k0 (k + 1) = mkT k0 k ++ [mtext (k0 + k)] := by simp [mkT, List.range_succ]
  rw [this, List.append_assoc]; rfl

end Go.Proofs.YteaeikmgkmpkiaaGreatDoor
