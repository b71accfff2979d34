/- Texts: l10Bytes, l10Cut, ValidName of the model. -/
import Derived.Test.YtlepbhekcpdddaaRows
import Derived.Test.YtlepbhekcpdddaaMem
import Derived.Test.YtlepbhekcpdddaaStrChr
import Derived.Deep.DeepCutAuto
namespace Go.Proofs.Ytlepbhekcpdddaa
open Go.RowKit

def inSet (c : Nat) : Bool := decide (33 ≤ c) && decide (c ≤ 126)
theorem inSet_iff {c : Nat} : inSet c = true ↔ 33 ≤ c ∧ c ≤ 126 := by unfold inSet; simp
def setTo (s : ByteArray) : Nat → Bool
  | 0 => true
  | n + 1 => setTo s n && inSet (chr s n)
theorem setTo_false {s : ByteArray} {k : Nat} (h : inSet (chr s k) = false) : ∀ n, k < n → setTo s n = false := by
  intro n
  induction n with
  | zero => intro h; omega
  | succ n ih =>
    intro hk
    unfold setTo
    by_cases e : k = n
    · subst e; rw [h]; simp
    · rw [ih (by omega)]; simp
def setB (s : ByteArray) : Bool := setTo s s.size

set_option maxRecDepth 20000 in
set_option maxHeartbeats 400000 in
theorem l10Bytes_calls (w : World) (s : ByteArray) (hl : s.size ≤ 1048576) :
    Calls Try.prog 16 #[.string s] w fun e w' => e = .returned (.bool (setB s)) ∧ w' = w := by
  have HB : Hid (setB s = setTo s s.size) := rfl
  go_enter Try.func16, Try.ntmps16
  go_wp2
  go_loopw [3] (fun x wr => wr = w ∧ ∃ k : Nat, k ≤ s.size ∧ x = .int .i64 k ∧ setTo s k = true) (fun x _ => s.size - (intOf x).toNat)
  case atStart => exact ⟨rfl, 0, Nat.zero_le _, rfl, rfl⟩
  case round =>
    obtain ⟨rfl, k, hk, rfl, hR⟩ := hrel
    by_cases hlt : k < s.size
    · have hi : (k : Int) < (s.size : Int) := by omega
      have hc := chr_lt hlt
      have hc2 := chr_256 s k
      have HS : Hid (inSet (chr s k) = true → setTo s (k + 1) = true) := fun h => by unfold setTo; rw [hR, h]; rfl
      have HF : Hid (inSet (chr s k) = false → setB s = false) := fun h => by rw [HB.out]; exact setTo_false h _ hlt
      have hcs : s[k].toNat = chr s k := hc.symm
      generalize hcc : chr s k = c at *
      clear hcc hc hR
      by_cases h1 : c < 33
      · have Hn : Hid (setB s = false) := HF.out (by rw [Bool.eq_false_iff]; intro h; have := inSet_iff.1 h; omega)
        clear HS HF
        go_wp2
        go_ret
        exact ⟨by rw [Hn.out]; rfl, rfl⟩
      · by_cases h2 : 126 < c
        · have Hn : Hid (setB s = false) := HF.out (by rw [Bool.eq_false_iff]; intro h; have := inSet_iff.1 h; omega)
          clear HS HF
          go_wp2
          go_ret
          exact ⟨by rw [Hn.out]; rfl, rfl⟩
        · have Hn : Hid (setTo s (k + 1) = true) := HS.out (inSet_iff.2 ⟨by omega, by omega⟩)
          clear HS HF
          go_wp2
          go_roundw
          case rel => exact ⟨trivial, k + 1, by omega, by go_num, Hn.out⟩
          case measure => simp [intOf]; omega
    · obtain rfl : k = s.size := by omega
      have Hn : Hid (setB s = true) := by show _ = _; rw [HB.out]; exact hR
      clear hR
      go_wp2
      go_ret
      exact ⟨by rw [Hn.out]; rfl, rfl⟩

/-- A row of texts, owned. -/
def OwnS (w : World) (base : Nat) (e : TypeId) (v : Value) (ps : List ByteArray) : Prop := w.ownsRow base e 1 v ps.length (ps.map Value.string)
theorem OwnS.lt {w : World} {base : Nat} {e : TypeId} {v : Value} {ps : List ByteArray} (h : OwnS w base e v ps) : ∀ g, v.ownBlock = some g → base ≤ g ∧ g < w.heap.size := World.ownsRow.lt h
theorem OwnS.chg {w w' : World} {base l r : Nat} {e : TypeId} {v : Value} {ps : List ByteArray} (h : OwnS w base e v ps) (c : Chg l r w w') (d : ∀ g, v.ownBlock = some g → g < l ∨ r ≤ g) : OwnS w' base e v ps := by
  obtain ⟨h1, h2⟩ := h
  refine ⟨h1, ?_⟩
  rcases h2 with h2 | ⟨g, cap, cur, hv, hg, hh, r⟩
  · exact Or.inl h2
  · refine Or.inr ⟨g, cap, cur, hv, hg, ?_, r⟩
    rw [c.block g (Array.getElem?_eq_some_iff.1 hh).1 (d g (by rw [hv]; rfl))]; exact hh
theorem OwnS.nil (w : World) (e : TypeId) : OwnS (w.alloc (.cells #[] e)) w.heap.size e (.slice (some ⟨w.heap.size, 0, none⟩) 0 0) [] := by
  have := World.ownsRow_lit (base := w.heap.size) (e := e) (size := 1) w #[] 0 (Nat.le_refl _) (by unfold maxLen; omega) (by simp)
  simpa [OwnS] using this

theorem Try.infoStr : (Try.prog.info? 9).map (fun i => (i.zero, i.size, i.bytes)) = some (some (.string ⟨#[]⟩), 1, 16) := by kernel_rfl

/-- append of one text. -/
theorem wpList_app_text {ops : Array Oper} {rest : List Oper} {o : Oper} {a : Act} {w : World} {Q : Exit → Act → World → Prop} (hgd : o.guard = none) (s x : Operand)
    (ho : o.op = .call { callee := .builtin .append, args := #[s, x], argTypes := #[24, 24] }) (base : Nat) (v : Value) (ps : List ByteArray) (hs : a.eval s = v) (hown : OwnS w base 9 v ps)
    (b c : Nat) (p : ByteArray) (hx : a.eval x = .slice (some ⟨b, 0, none⟩) 1 c) (hc : w.cell? ⟨b, 0, none⟩ = some (.string p)) (hk : ps.length + 1 ≤ 2097152) (hbase : base ≤ w.heap.size)
    (h : ∀ v' w', (∃ g cap, v' = .slice (some ⟨g, 0, none⟩) (ps.length + 1) cap) → OwnS w' base 9 v' (ps ++ [p]) → Chg base w.heap.size w w' → wpList Try.prog ops Q rest (a.put o.dst v') w') : wpList Try.prog ops Q (o :: rest) a w := by
  obtain ⟨i, hi, hz0, hz1, hz2⟩ := info_parts Try.infoStr
  refine wpList_append_own w hgd s x 24 ho base 9 i _ 1 16 Try.underlying24 hi hz0 hz1 hz2 rfl (by omega) v ps.length _ hs hown ⟨b, 0, none⟩ 1 c [.string p] hx rfl ?_ ?_ (by unfold maxLen; omega) (by omega) hbase ?_
  · intro j u hj
    have hj0 : j = 0 := by have := (List.getElem?_eq_some_iff.1 hj).1; simp at this; exact this
    subst hj0
    simp at hj
    subst hj
    rw [Go.WideShapes.add_plain]; exact hc
  · intro u hu
    simp at hu; subst hu; rfl
  · intro v' w' h1 h2 _
    refine h v' w' ?_ (by unfold OwnS; rw [List.length_append, List.map_append]; exact h1) (Chg.ofGrown h2 (fun g hg hlt => ⟨(World.ownsRow.lt hown g hg).1, hlt⟩))
    rcases h1.2 with ⟨_, h0⟩ | ⟨g', cap', cur, e', _⟩
    · omega
    · exact ⟨g', cap', e'⟩

/-- The parts of a text. -/
def cutGo (s : ByteArray) (c : Nat) : Nat → Nat → Nat → List ByteArray → List ByteArray
  | 0, _, f, out => out ++ [s.extract f s.size]
  | n + 1, k, f, out => if chr s k = c then cutGo s c n (k + 1) (k + 1) (out ++ [s.extract f k]) else cutGo s c n (k + 1) f out
def cutD (s : ByteArray) (c : Nat) : List ByteArray := cutGo s c s.size 0 0 []

set_option maxRecDepth 20000 in
set_option maxHeartbeats 1000000 in
theorem l10Cut_calls (w : World) (s : ByteArray) (c : Nat) (_hc : c < 256) (hl : s.size ≤ 1048576) :
    Calls Try.prog 14 #[.string s, .int .u8 c] w fun e w' => ∃ g cap, e = .returned (.slice (some ⟨g, 0, none⟩) (cutD s c).length cap) ∧ OwnS w' w.heap.size 9 (.slice (some ⟨g, 0, none⟩) (cutD s c).length cap) (cutD s c) ∧ Chg 0 0 w w' := by
  have HO0 : Hid (OwnS (w.alloc (.cells #[] 9)) w.heap.size 9 (.slice (some ⟨w.heap.size, 0, none⟩) 0 0) []) := OwnS.nil w _
  have C0 : Chg 0 0 w (w.alloc (.cells #[] 9)) := Chg.alloc (Chg.refl 0 0 w) _
  have HD : Hid (cutD s c = cutGo s c s.size 0 0 []) := rfl
  go_enter Try.func14, Try.ntmps14
  go_wp2
  go_loopw [5, 6, 7] (fun o f x wr => ∃ (k fr g cp : Nat) (ps : List ByteArray), k ≤ s.size ∧ fr ≤ k ∧ ps.length ≤ k ∧ x = .int .i64 k ∧ f = .int .i64 fr ∧ o = .slice (some ⟨g, 0, none⟩) ps.length cp ∧ OwnS wr w.heap.size 9 (.slice (some ⟨g, 0, none⟩) ps.length cp) ps ∧ Chg 0 0 w wr ∧ cutD s c = cutGo s c (s.size - k) k fr ps) (fun _ _ x _ => s.size - (intOf x).toNat)
  case atStart => exact ⟨0, 0, _, _, [], Nat.zero_le _, Nat.le_refl _, Nat.le_refl _, rfl, rfl, rfl, HO0.out, C0, HD.out⟩
  case round =>
    obtain ⟨k, fr, g, cp, ps, hk, hf, hp, rfl, rfl, rfl, ho, hch, hR⟩ := hrel
    have HC : Hid (Chg 0 0 w wr) := hch
    have HO : Hid (OwnS wr w.heap.size 9 (.slice (some ⟨g, 0, none⟩) ps.length cp) ps) := ho
    have s1 := hch.size
    by_cases hlt : k < s.size
    · have hi : (k : Int) < (s.size : Int) := by omega
      rw [show s.size - k = (s.size - (k + 1)) + 1 by omega] at hR
      have hR' : cutD s c = if chr s k = c then cutGo s c (s.size - (k + 1)) (k + 1) (k + 1) (ps ++ [s.extract fr k]) else cutGo s c (s.size - (k + 1)) (k + 1) fr ps := hR
      have hcs : s[k].toNat = chr s k := (chr_lt hlt).symm
      clear hR ho hch
      by_cases he : chr s k = c
      · rw [if_pos he] at hR'
        have Hn : Hid (cutD s c = cutGo s c (s.size - (k + 1)) (k + 1) (k + 1) (ps ++ [s.extract fr k])) := hR'
        have HOq : Hid (OwnS (wr.alloc (.cells #[.string (s.extract fr k)] 9)) w.heap.size 9 (.slice (some ⟨g, 0, none⟩) ps.length cp) ps) := HO.out.chg ((Chg.refl 0 0 wr).alloc _) (by intro g _; omega)
        have HCq : Hid (Chg 0 0 w (wr.alloc (.cells #[.string (s.extract fr k)] 9))) := HC.out.alloc _
        have HNW : Hid ((wr.alloc (.cells #[.string (s.extract fr k)] 9)).cell? ⟨wr.heap.size, 0, none⟩ = some (.string (s.extract fr k))) := by
          have hh := heap_new wr (.cells #[.string (s.extract fr k)] 9)
          show _ = _
          simp only [World.cell?, hh]; rfl
        rw [he] at hcs
        clear hR' he
        go_wp2_with (at_builtin; refine wpList_app_text rfl (.tmp 20) (.tmp 25) rfl w.heap.size _ ps rfl HOq.out wr.heap.size 1 (s.extract fr k) rfl HNW.out (by omega) (by simp; omega) ?_)
        intro v' w5 g' cap' hv' ho5 hc5; subst hv'
        have HO5 : Hid (OwnS w5 w.heap.size 9 (.slice (some ⟨g', 0, none⟩) (ps ++ [s.extract fr k]).length cap') (ps ++ [s.extract fr k])) := by show OwnS _ _ _ _ _; rw [List.length_append]; exact ho5
        have HC5 : Hid (Chg 0 0 w w5) := HCq.out.step hc5 (Or.inr (Or.inl (Nat.le_refl _)))
        clear ho5 hc5 HNW HOq HCq
        go_wp2
        go_roundw
        case rel => exact ⟨k + 1, k + 1, g', cap', ps ++ [s.extract fr k], by omega, by omega, by simp; omega, by go_num, by go_num, by simp, HO5.out, HC5.out, Hn.out⟩
        case measure => simp [intOf]; omega
      · rw [if_neg he] at hR'
        have Hn : Hid (cutD s c = cutGo s c (s.size - (k + 1)) (k + 1) fr ps) := hR'
        have hne : (((chr s k : Nat) : Int) == (c : Int)) = false := by simpa using fun h : ((chr s k : Nat) : Int) = c => he (by omega)
        have hcb := chr_256 s k
        generalize chr s k = d at *
        clear hR' he
        go_wp2
        go_roundw
        case rel => exact ⟨k + 1, fr, g, cp, ps, by omega, by omega, by omega, by go_num, rfl, rfl, HO.out, HC.out, Hn.out⟩
        case measure => simp [intOf]; omega
    · obtain rfl : k = s.size := by omega
      have hR' : cutD s c = ps ++ [s.extract fr s.size] := by rw [hR, Nat.sub_self]; rfl
      have Hn : Hid (cutD s c = ps ++ [s.extract fr s.size]) := hR'
      have HOq : Hid (OwnS (wr.alloc (.cells #[.string (s.extract fr s.size)] 9)) w.heap.size 9 (.slice (some ⟨g, 0, none⟩) ps.length cp) ps) := HO.out.chg ((Chg.refl 0 0 wr).alloc _) (by intro g _; omega)
      have HCq : Hid (Chg 0 0 w (wr.alloc (.cells #[.string (s.extract fr s.size)] 9))) := HC.out.alloc _
      have HNW : Hid ((wr.alloc (.cells #[.string (s.extract fr s.size)] 9)).cell? ⟨wr.heap.size, 0, none⟩ = some (.string (s.extract fr s.size))) := by
        have hh := heap_new wr (.cells #[.string (s.extract fr s.size)] 9)
        show _ = _
        simp only [World.cell?, hh]; rfl
      clear hR hR' ho hch
      go_wp2_with (at_builtin; refine wpList_app_text rfl (.tmp 29) (.tmp 33) rfl w.heap.size _ ps rfl HOq.out wr.heap.size 1 (s.extract fr s.size) rfl HNW.out (by omega) (by simp; omega) ?_)
      intro v' w5 g' cap' hv' ho5 hc5; subst hv'
      have HO5 : Hid (OwnS w5 w.heap.size 9 (.slice (some ⟨g', 0, none⟩) (ps.length + 1) cap') (ps ++ [s.extract fr s.size])) := ho5
      have HC5 : Hid (Chg 0 0 w w5) := HCq.out.step hc5 (Or.inr (Or.inl (Nat.le_refl _)))
      have Hl : Hid ((ps ++ [s.extract fr s.size]).length = ps.length + 1) := by simp [Hid]
      clear ho5 hc5 HNW HOq HCq
      go_wp2
      go_ret
      exact ⟨g', cap', by rw [Hn.out, Hl.out]; rfl, by rw [Hn.out, Hl.out]; exact HO5.out, HC5.out⟩

theorem cutGo_length (s : ByteArray) (c : Nat) : ∀ n k f out, (∀ j, k ≤ j → j < k + n → chr s j ≠ c) → (cutGo s c n k f out).length = out.length + 1 := by
  intro n
  induction n with
  | zero => intro k f out _; simp [cutGo]
  | succ n ih =>
    intro k f out h
    unfold cutGo
    rw [if_neg (h k (Nat.le_refl _) (by omega))]
    exact ih (k + 1) f out (fun j h1 h2 => h j (by omega) (by omega))
theorem cutGo_ge (s : ByteArray) (c : Nat) : ∀ n k f out, out.length + 1 ≤ (cutGo s c n k f out).length := by
  intro n
  induction n with
  | zero => intro k f out; simp [cutGo]
  | succ n ih =>
    intro k f out
    unfold cutGo
    split
    · have := ih (k + 1) (k + 1) (out ++ [s.extract f k]); simp at this; omega
    · exact ih (k + 1) f out
theorem cutGo_more (s : ByteArray) (c : Nat) : ∀ n k f out j, k ≤ j → j < k + n → chr s j = c → out.length + 2 ≤ (cutGo s c n k f out).length := by
  intro n
  induction n with
  | zero => intro k f out j h1 h2; omega
  | succ n ih =>
    intro k f out j h1 h2 h3
    unfold cutGo
    split
    · have := cutGo_ge s c n (k + 1) (k + 1) (out ++ [s.extract f k]); simp at this; omega
    · rename_i hk
      by_cases e : j = k
      · subst e; exact absurd h3 hk
      · exact ih (k + 1) f out j (by omega) (by omega) h3
/-- It has one part exactly if the byte is not in it. -/
theorem cutD_one {s : ByteArray} {c : Nat} : (cutD s c).length = 1 ↔ ∀ j, j < s.size → chr s j ≠ c := by
  constructor
  · intro h j hj he
    have := cutGo_more s c s.size 0 0 [] j (Nat.zero_le _) (by omega) he
    unfold cutD at h
    simp at this; omega
  · intro h
    unfold cutD
    rw [cutGo_length s c s.size 0 0 [] (fun j _ h2 => h j (by omega))]; rfl

end Go.Proofs.Ytlepbhekcpdddaa
