/- SplitPath of the model. -/
import Derived.Test.YtlepbhekcpdddaaNameSpec
import Derived.Test.YtlepbhekcpdddaaTextL
namespace Go.Proofs.Ytlepbhekcpdddaa
open Go.RowKit

theorem ext_size (s : ByteArray) (a b : Nat) : (s.extract a b).size ≤ s.size := by rw [ByteArray.size_extract]; omega
theorem cutGo_sz (s : ByteArray) (c : Nat) : ∀ n k f out, (∀ p ∈ out, p.size ≤ s.size) → ∀ p ∈ cutGo s c n k f out, p.size ≤ s.size := by
  intro n
  induction n with
  | zero =>
    intro k f out h p hp
    unfold cutGo at hp
    rw [List.mem_append] at hp
    rcases hp with hp | hp
    · exact h p hp
    · simp at hp; subst hp; exact ext_size _ _ _
  | succ n ih =>
    intro k f out h
    unfold cutGo
    split
    · refine ih _ _ _ ?_
      intro p hp
      rw [List.mem_append] at hp
      rcases hp with hp | hp
      · exact h p hp
      · simp at hp; subst hp; exact ext_size _ _ _
    · exact ih _ _ _ h
theorem cutD_sz {s : ByteArray} {c : Nat} : ∀ p ∈ cutD s c, p.size ≤ s.size := cutGo_sz s c _ _ _ [] (by simp)
theorem cutGo_cnt (s : ByteArray) (c : Nat) : ∀ n k f out, (cutGo s c n k f out).length ≤ out.length + n + 1 := by
  intro n
  induction n with
  | zero => intro k f out; simp [cutGo]
  | succ n ih =>
    intro k f out
    unfold cutGo
    split
    · have := ih (k + 1) (k + 1) (out ++ [s.extract f k]); simp at this; omega
    · have := ih (k + 1) f out; omega
theorem cutD_cnt (s : ByteArray) (c : Nat) : (cutD s c).length ≤ s.size + 1 := by
  have := cutGo_cnt s c s.size 0 0 []; unfold cutD; simp at this; omega

/-- The code of the first part that is no name. -/
def badCode : List ByteArray → Int
  | [] => 0
  | p :: r => if nameB p = true then badCode r else if setB p = true ∧ 13 < p.size then 31 else 30
def pathD (s : ByteArray) : Int × List ByteArray :=
  if s.size < 1 ∨ 240 < s.size ∨ chr s 0 ≠ 47 then (30, []) else if s.toList = [47] then (0, []) else
    if badCode (cutD (s.extract 1 s.size) 47) ≠ 0 then (badCode (cutD (s.extract 1 s.size) 47), []) else if 16 < (cutD (s.extract 1 s.size) 47).length then (30, []) else (0, cutD (s.extract 1 s.size) 47)

theorem badCode_at (ps : List ByteArray) : ∀ k, k < ps.length → (∀ j, j < k → nameB (ps.getD j noText) = true) → nameB (ps.getD k noText) = false → badCode ps = if setB (ps.getD k noText) = true ∧ 13 < (ps.getD k noText).size then 31 else 30 := by
  induction ps with
  | nil => intro k h; simp at h
  | cons p r ih =>
    intro k hk hg hb
    unfold badCode
    cases k with
    | zero => simp at hb; rw [if_neg (by rw [hb]; simp)]; simp
    | succ k =>
      have h0 := hg 0 (by omega)
      simp at h0
      rw [if_pos h0]
      have := ih k (by simpa using hk) (fun j hj => by have := hg (j + 1) (by omega); simpa using this) (by simpa using hb)
      simpa using this
theorem badCode_none (ps : List ByteArray) (h : ∀ j, j < ps.length → nameB (ps.getD j noText) = true) : badCode ps = 0 := by
  induction ps with
  | nil => rfl
  | cons p r ih =>
    unfold badCode
    have h0 := h 0 (by simp)
    simp at h0
    rw [if_pos h0]
    exact ih (fun j hj => by have := h (j + 1) (by simpa using hj); simpa using this)

theorem OwnS.low {w : World} {base base' : Nat} {e : TypeId} {v : Value} {ps : List ByteArray} (h : OwnS w base e v ps) (hb : base' ≤ base) : OwnS w base' e v ps := by
  obtain ⟨a1, a2⟩ := h
  refine ⟨a1, ?_⟩
  rcases a2 with a2 | ⟨g', cap', cur, hv, hg', r⟩
  · exact Or.inl a2
  · exact Or.inr ⟨g', cap', cur, hv, by omega, r⟩
theorem OwnS.none (w : World) (N : Nat) (e : TypeId) : OwnS w N e (.slice Option.none 0 0) [] := ⟨rfl, Or.inl ⟨rfl, rfl⟩⟩

theorem duo_all {w : World} {s : Nat} {a b : Value} {t : TypeId} (h : w.heap[s]? = some (.cells #[a, b] t (0, 0))) :
    (w.cell? ⟨s, 0, none⟩ = some a ∧ w.cell? ⟨s, 1, none⟩ = some b) ∧ w.frozen? ⟨s, 0, none⟩ = false ∧ w.frozen? ⟨s, 1, none⟩ = false := by
  simp [World.cell?, World.frozen?, h]

set_option maxRecDepth 20000 in
set_option maxHeartbeats 2000000 in
theorem specSplitPath_calls (w : World) (s : ByteArray) (hl : s.size ≤ 1048576) :
    Calls Try.prog 6 #[.string s] w fun e w' => ∃ nv, e = .returned (.agg #[.int .i64 (pathD s).1, nv]) ∧ OwnS w' w.heap.size 9 nv (pathD s).2 ∧ Chg 0 0 w w' := by
  have HD : Hid (pathD s = if s.size < 1 ∨ 240 < s.size ∨ chr s 0 ≠ 47 then (30, []) else if s.toList = [47] then (0, []) else
    if badCode (cutD (s.extract 1 s.size) 47) ≠ 0 then (badCode (cutD (s.extract 1 s.size) 47), []) else if 16 < (cutD (s.extract 1 s.size) 47).length then (30, []) else (0, cutD (s.extract 1 s.size) 47)) := rfl
  have HA : Hid (Chg 0 0 w (w.alloc (.cells #[.int .i64 0, .slice none 0 0] 26))) := Chg.alloc (Chg.refl 0 0 w) _
  have HB := heap_new w (.cells #[.int .i64 0, .slice none 0 0] 26)
  have HW : Hid (∀ (w2 : World) (u v : Value), Chg 0 0 w w2 → Chg 0 0 w ((w2.setCell ⟨w.heap.size, 0, none⟩ u).setCell ⟨w.heap.size, 1, none⟩ v)) := fun w2 u v h => (h.setCell (Or.inr (Nat.le_refl _)) _).setCell (Or.inr (Nat.le_refl _)) _
  by_cases h1 : s.size < 1
  · have Hn : Hid (pathD s = (30, [])) := by show _ = _; rw [HD.out, if_pos (Or.inl h1)]
    have hi : (s.size : Int) < 1 := by omega
    go_enter Try.func6, Try.ntmps6
    go_wp2
    exact bodyPost_ret (v := .agg #[.int .i64 30, .slice none 0 0]) (by simp [results, Try.results6, go_sem]) rfl ⟨_, by rw [Hn.out], by rw [Hn.out]; exact OwnS.none _ _ _, Chg.alloc (Chg.refl 0 0 w) _⟩
  have hi1 : ¬ (s.size : Int) < 1 := by omega
  by_cases h2 : 240 < s.size
  · have Hn : Hid (pathD s = (30, [])) := by show _ = _; rw [HD.out, if_pos (Or.inr (Or.inl h2))]
    have hi : (240 : Int) < (s.size : Int) := by omega
    go_enter Try.func6, Try.ntmps6
    go_wp2
    exact bodyPost_ret (v := .agg #[.int .i64 30, .slice none 0 0]) (by simp [results, Try.results6, go_sem]) rfl ⟨_, by rw [Hn.out], by rw [Hn.out]; exact OwnS.none _ _ _, Chg.alloc (Chg.refl 0 0 w) _⟩
  have hi2 : ¬ (240 : Int) < (s.size : Int) := by omega
  have hc : s[0].toNat = chr s 0 := (chr_lt (by omega)).symm
  have hc2 := chr_256 s 0
  by_cases h3 : chr s 0 ≠ 47
  · have hne : ((chr s 0 : Nat) : Int) ≠ 47 := by omega
    have hnb : (((chr s 0 : Nat) : Int) != 47) = true := by simpa using hne
    have Hn : Hid (pathD s = (30, [])) := by show _ = _; rw [HD.out, if_pos (Or.inr (Or.inr h3))]
    generalize chr s 0 = c0 at *
    go_enter Try.func6, Try.ntmps6
    go_wp2
    exact bodyPost_ret (v := .agg #[.int .i64 30, .slice none 0 0]) (by simp [results, Try.results6, go_sem]) rfl ⟨_, by rw [Hn.out], by rw [Hn.out]; exact OwnS.none _ _ _, Chg.alloc (Chg.refl 0 0 w) _⟩
  have h3' : chr s 0 = 47 := by omega
  rw [h3'] at hc
  rw [if_neg (by omega)] at HD
  clear h3 hc2
  by_cases h4 : s.toList = [47]
  · have hb : (s.toList == [47]) = true := by rw [h4]; rfl
    have Hn : Hid (pathD s = (0, [])) := by show _ = _; rw [HD.out, if_pos h4]
    clear h4
    go_enter Try.func6, Try.ntmps6
    go_wp2
    exact bodyPost_ret (v := .agg #[.int .i64 0, .slice none 0 0]) (by simp [results, Try.results6, go_sem]) rfl ⟨_, by rw [Hn.out], by rw [Hn.out]; exact OwnS.none _ _ _, Chg.alloc (Chg.refl 0 0 w) _⟩
  have hb : (s.toList == [47]) = false := by rw [beq_eq_false_iff_ne]; exact h4
  rw [if_neg h4] at HD
  have hN := l10Cut_calls (w.alloc (.cells #[.int .i64 0, .slice none 0 0] 26)) (s.extract 1 s.size) 47 (by omega) (Nat.le_trans (ext_size _ _ _) hl)
  have hcnt := cutD_cnt (s.extract 1 s.size) 47
  have hez := ext_size s 1 s.size
  have HSz : Hid (∀ p ∈ cutD (s.extract 1 s.size) 47, p.size ≤ 1048576) := fun p hp => Nat.le_trans (cutD_sz p hp) (Nat.le_trans hez hl)
  clear h4 h3'
  go_enter Try.func6, Try.ntmps6
  go_wp2_with fail
  refine hN.mono ?_
  rintro e w1 ⟨g, cp, rfl, ho, h1'⟩
  have HB1 : Hid (w1.heap[w.heap.size]? = some (.cells #[.int .i64 0, .slice none 0 0] 26 (0, 0))) := (h1'.block _ (by simp) (by omega)).trans HB
  have HC1 : Hid (Chg 0 0 w w1) := HA.out.trans h1'
  obtain ⟨L, HL⟩ : ∃ L, Hid ((cutD (s.extract 1 s.size) 47).length = L) := ⟨_, rfl⟩
  have hLb : L ≤ 300 := by have := HL.out; omega
  have HO1 : Hid (OwnS w1 (w.heap.size + 1) 9 (.slice (some ⟨g, 0, none⟩) L cp) (cutD (s.extract 1 s.size) 47)) := by
    show OwnS _ _ _ _ _
    have := ho; rw [HL.out] at this; simpa using this
  rw [HL.out]
  generalize cutD (s.extract 1 s.size) 47 = parts at *
  clear hN ho h1' HB hcnt
  go_wp2
  go_loopw [4] (fun x wr => ∃ k : Nat, k ≤ L ∧ x = .int .i64 k ∧ Chg 0 0 w1 wr ∧ ∀ j, j < k → nameB (parts.getD j noText) = true) (fun x _ => L - (intOf x).toNat)
  case atStart => exact ⟨0, Nat.zero_le _, rfl, Chg.refl _ _ _, by omega⟩
  case round =>
    obtain ⟨k, hk, rfl, hch, hR⟩ := hrel
    have HB2 : Hid (wr.heap[w.heap.size]? = some (.cells #[.int .i64 0, .slice none 0 0] 26 (0, 0))) := (hch.block _ (Array.getElem?_eq_some_iff.1 HB1.out).1 (by omega)).trans HB1.out
    have HC2 : Hid (Chg 0 0 w wr) := HC1.out.trans hch
    have HO2 : Hid (OwnS wr (w.heap.size + 1) 9 (.slice (some ⟨g, 0, none⟩) L cp) parts) := HO1.out.chg hch (by intro g _; omega)
    by_cases hlt : k < L
    · have hkp : k < parts.length := by rw [HL.out]; exact hlt
      have hrow : wr.ownsRow (w.heap.size + 1) 9 1 (.slice (some ⟨g, 0, none⟩) L cp) L (parts.map Value.string) := by have := HO2.out; unfold OwnS at this; rw [HL.out] at this; exact this
      have c1 : wr.cell? ⟨g, k, none⟩ = some (.string (parts.getD k noText)) := by
        rw [World.ownsRow.cellAt hrow k (by omega), List.getElem?_map, List.getElem?_eq_getElem hkp]
        simp [List.getD_eq_getElem?_getD, List.getElem?_eq_getElem hkp]
      have hsz : (parts.getD k noText).size ≤ 1048576 := by
        rw [List.getD_eq_getElem?_getD, List.getElem?_eq_getElem hkp]; exact HSz.out _ (List.getElem_mem hkp)
      have hi : (k : Int) < (L : Int) := by omega
      have HAt : Hid (nameB (parts.getD k noText) = false → badCode parts = if setB (parts.getD k noText) = true ∧ 13 < (parts.getD k noText).size then 31 else 30) := fun h => badCode_at parts k hkp hR h
      have HNx : Hid (nameB (parts.getD k noText) = true → ∀ j, j < k + 1 → nameB (parts.getD j noText) = true) := by
        intro h j hj
        by_cases e : j = k
        · subst e; exact h
        · exact hR j (by omega)
      obtain ⟨pk, HPk⟩ : ∃ p, Hid (parts.getD k noText = p) := ⟨_, rfl⟩
      rw [HPk.out] at c1 hsz HAt HNx
      have hN := specValidName_calls wr pk hsz
      clear hrow hR
      go_wp2_with fail
      refine hN.mono ?_
      rintro e w2 ⟨rfl, h2'⟩
      have HC3 : Hid (Chg 0 0 w w2) := HC2.out.trans h2'
      have HC31 : Hid (Chg 0 0 w1 w2) := hch.trans h2'
      have HB3 := (h2'.block _ (Array.getElem?_eq_some_iff.1 HB2.out).1 (by omega)).trans HB2.out
      have c2 := h2'.cell c1 (by omega)
      obtain ⟨⟨y0, y1⟩, yf0, yf1⟩ := duo_all HB3
      clear hN h2' hch c1 HB3
      cases hnb : nameB pk with
      | true =>
        have Hx := HNx.out hnb
        have HX : Hid (∀ j, j < k + 1 → nameB (parts.getD j noText) = true) := Hx
        clear Hx c2 y0 y1 yf0 yf1 HNx HAt
        go_wp2
        go_roundw
        case rel => exact ⟨k + 1, by omega, by go_num, HC31.out, HX.out⟩
        case measure => simp [intOf]; omega
      | false =>
        have hbc := HAt.out hnb
        have hN := l10Bytes_calls w2 pk hsz
        go_wp2_with fail
        refine hN.mono ?_
        rintro e w3 ⟨rfl, rfl⟩
        clear hN HNx HAt
        cases hsb : setB pk with
        | true =>
          by_cases h13 : 13 < pk.size
          · rw [if_pos ⟨hsb, h13⟩] at hbc
            have Hn : Hid (pathD s = (31, [])) := by show _ = _; rw [HD.out, hbc, if_pos (by decide)]
            have hj : (13 : Int) < (pk.size : Int) := by omega
            clear hbc
            go_wp2
            exact bodyPost_ret (v := .agg #[.int .i64 31, .slice none 0 0]) (by simp [results, Try.results6, go_sem, *]) rfl ⟨_, by rw [Hn.out], by rw [Hn.out]; exact OwnS.none _ _ _, HW.out _ _ _ HC3.out⟩
          · rw [if_neg (fun h => h13 h.2)] at hbc
            have Hn : Hid (pathD s = (30, [])) := by show _ = _; rw [HD.out, hbc, if_pos (by decide)]
            have hj : ¬ (13 : Int) < (pk.size : Int) := by omega
            clear hbc
            go_wp2
            exact bodyPost_ret (v := .agg #[.int .i64 30, .slice none 0 0]) (by simp [results, Try.results6, go_sem, *]) rfl ⟨_, by rw [Hn.out], by rw [Hn.out]; exact OwnS.none _ _ _, HW.out _ _ _ HC3.out⟩
        | false =>
          rw [if_neg (fun h => by rw [hsb] at h; cases h.1)] at hbc
          have Hn : Hid (pathD s = (30, [])) := by show _ = _; rw [HD.out, hbc, if_pos (by decide)]
          clear hbc
          go_wp2
          exact bodyPost_ret (v := .agg #[.int .i64 30, .slice none 0 0]) (by simp [results, Try.results6, go_sem, *]) rfl ⟨_, by rw [Hn.out], by rw [Hn.out]; exact OwnS.none _ _ _, HW.out _ _ _ HC3.out⟩
    · obtain rfl : k = L := by omega
      have hbc := badCode_none parts (fun j hj => hR j (by rw [HL.out] at hj; exact hj))
      rw [hbc, if_neg (by simp), HL.out] at HD
      obtain ⟨⟨y0, y1⟩, yf0, yf1⟩ := duo_all HB2.out
      clear hR hbc hch
      by_cases h16 : 16 < k
      · have Hn : Hid (pathD s = (30, [])) := by show _ = _; rw [HD.out, if_pos h16]
        have hj : (16 : Int) < (k : Int) := by omega
        go_wp2
        exact bodyPost_ret (v := .agg #[.int .i64 30, .slice none 0 0]) (by simp [results, Try.results6, go_sem, *]) rfl ⟨_, by rw [Hn.out], by rw [Hn.out]; exact OwnS.none _ _ _, HW.out _ _ _ HC2.out⟩
      · have Hn : Hid (pathD s = (0, parts)) := by show _ = _; rw [HD.out, if_neg h16]
        have hj : ¬ (16 : Int) < (k : Int) := by omega
        go_wp2
        refine bodyPost_ret (v := .agg #[.int .i64 0, .slice (some ⟨g, 0, none⟩) k cp]) (by simp [results, Try.results6, go_sem, *]) rfl ⟨_, by rw [Hn.out], ?_, HW.out _ _ _ HC2.out⟩
        rw [Hn.out]
        have hg := (HO2.out.lt g rfl).1
        have C : ∀ u v, Chg w.heap.size (w.heap.size + 1) wr ((wr.setCell ⟨w.heap.size, 0, none⟩ u).setCell ⟨w.heap.size, 1, none⟩ v) := fun u v => by refine Chg.setCell (Chg.setCell (Chg.refl _ _ _) ?_ _) ?_ _ <;> exact Or.inl ⟨Nat.le_refl _, Nat.lt_succ_self _⟩
        exact (HO2.out.chg (C _ _) (fun g' hg' => Or.inr (HO2.out.lt g' hg').1)).low (by omega)

theorem pathD_len (s : ByteArray) : (pathD s).2.length ≤ 16 := by
  unfold pathD
  repeat' split
  all_goals first | exact Nat.zero_le _ | (show (cutD _ _).length ≤ 16; omega)

end Go.Proofs.Ytlepbhekcpdddaa
