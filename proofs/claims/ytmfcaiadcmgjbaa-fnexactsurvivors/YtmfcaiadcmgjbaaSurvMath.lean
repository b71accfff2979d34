/- What survives of transactions: the fold of the model against the last copies and the last revokes. -/
import Derived.Test.YtmfcaiadcmgjbaaTxnBase
namespace Go.Proofs.Ytmfcaiadcmgjbaa
open Go.RowKit

/-- Homes without that of a block. -/
def woL {α : Type} (l : List (Int × α)) (b : Int) : List (Int × α) := l.filter fun p => p.1 != b
/-- Homes that rise, with one more (or another in its place). -/
def wiL {α : Type} : List (Int × α) → Int × α → List (Int × α)
  | [], h => [h]
  | p :: l, h => if p.1 < h.1 then p :: wiL l h else if p.1 = h.1 then h :: l else h :: p :: l
/-- What survives. -/
def survT {α : Type} (o : List (Int × α)) (hs : List (Int × α)) (rs : List Int) : List (Int × α) := hs.foldl wiL (rs.foldl woL o)

def RisW {α : Type} (l : List (Int × α)) : Prop := l.Pairwise fun p q => p.1 < q.1
/-- What a list says of a block. -/
def lookW : List Wr → Int → Option (List Int)
  | [], _ => none
  | p :: l, b => if p.1 = b then some p.2 else lookW l b
/-- What the last of the homes of a block says. -/
def lastL : List Wr → Int → Option (List Int)
  | [], _ => none
  | p :: l, b => (lastL l b).or (if p.1 = b then some p.2 else none)

theorem woL_rises {α : Type} {l : List (Int × α)} (b : Int) (h : RisW l) : RisW (woL l b) := List.Pairwise.sublist List.filter_sublist h

/-- Both go through a change of what is held. -/
theorem woL_map {α β : Type} (f : α → β) (l : List (Int × α)) (b : Int) : (woL l b).map (fun p => (p.1, f p.2)) = woL (l.map fun p => (p.1, f p.2)) b := by
  unfold woL
  rw [List.filter_map]
  rfl
theorem wiL_map {α β : Type} (f : α → β) (l : List (Int × α)) (h : Int × α) : (wiL l h).map (fun p => (p.1, f p.2)) = wiL (l.map fun p => (p.1, f p.2)) (h.1, f h.2) := by
  induction l with
  | nil => rfl
  | cons p l ih =>
    simp only [wiL, List.map_cons]
    split
    · rw [List.map_cons, ih]
    · split <;> simp
theorem wiL_len {α : Type} (l : List (Int × α)) (h : Int × α) : (wiL l h).length ≤ l.length + 1 := by
  induction l with
  | nil => simp [wiL]
  | cons p l ih => unfold wiL; split <;> (try split) <;> simp <;> omega
theorem woL_len {α : Type} (l : List (Int × α)) (b : Int) : (woL l b).length ≤ l.length := List.length_filter_le _ _
theorem woL_mem {α : Type} {l : List (Int × α)} {b : Int} {q : Int × α} (hq : q ∈ woL l b) : q ∈ l := (List.mem_filter.1 hq).1

theorem wiL_all {α : Type} {l : List (Int × α)} {h : Int × α} (a : ∀ p ∈ l, p.1 < h.1) : wiL l h = l ++ [h] := by
  induction l with
  | nil => rfl
  | cons p l ih =>
    unfold wiL
    rw [if_pos (a p List.mem_cons_self), ih fun q hq => a q (List.mem_cons_of_mem _ hq)]
    rfl
theorem wiL_at {α : Type} {l : List (Int × α)} {h p : Int × α} (a : ∀ p ∈ l, p.1 < h.1) (e : p.1 = h.1) : wiL (l ++ [p]) h = l ++ [h] := by
  induction l with
  | nil => simp [wiL, e]
  | cons q l ih =>
    show wiL (q :: (l ++ [p])) h = _
    unfold wiL
    rw [if_pos (a q List.mem_cons_self), ih fun q hq => a q (List.mem_cons_of_mem _ hq)]
    rfl
theorem wiL_gt {α : Type} {l : List (Int × α)} {h p : Int × α} (a : ∀ p ∈ l, p.1 < h.1) (e : h.1 < p.1) : wiL (l ++ [p]) h = l ++ [h] ++ [p] := by
  induction l with
  | nil => simp only [List.nil_append, wiL]; rw [if_neg (by omega), if_neg (by omega)]; rfl
  | cons q l ih =>
    show wiL (q :: (l ++ [p])) h = _
    unfold wiL
    rw [if_pos (a q List.mem_cons_self), ih fun q hq => a q (List.mem_cons_of_mem _ hq)]
    rfl
theorem wiL_past {α : Type} {l : List (Int × α)} {h p : Int × α} (a : ∃ q ∈ l, h.1 ≤ q.1) : wiL (l ++ [p]) h = wiL l h ++ [p] := by
  induction l with
  | nil => obtain ⟨q, hq, _⟩ := a; simp at hq
  | cons q l ih =>
    show wiL (q :: (l ++ [p])) h = _
    unfold wiL
    by_cases c : q.1 < h.1
    · rw [if_pos c, if_pos c, ih ?_]; · rfl
      obtain ⟨r, hr, h1⟩ := a
      rcases List.mem_cons.1 hr with e | e
      · rw [e] at h1; omega
      · exact ⟨r, e, h1⟩
    · rw [if_neg c, if_neg c]
      by_cases c2 : q.1 = h.1
      · rw [if_pos c2, if_pos c2]; rfl
      · rw [if_neg c2, if_neg c2]; rfl
theorem woL_snoc {α : Type} (l : List (Int × α)) (p : Int × α) (b : Int) : woL (l ++ [p]) b = woL l b ++ (if p.1 = b then [] else [p]) := by
  unfold woL
  rw [List.filter_append]
  by_cases h : p.1 = b <;> simp [h]

theorem look_wo (l : List Wr) (b c : Int) : lookW (woL l b) c = if c = b then none else lookW l c := by
  induction l with
  | nil => simp [woL, lookW]
  | cons p l ih =>
    simp only [woL, List.filter_cons] at ih ⊢
    by_cases h : p.1 = b
    · simp only [h, bne_self_eq_false, Bool.false_eq_true, if_false]
      rw [ih]
      by_cases hc : c = b
      · simp [hc]
      · simp only [if_neg hc, lookW]; rw [if_neg (by omega)]
    · have hb : (p.1 != b) = true := by simpa using h
      simp only [hb, if_true, lookW]
      rw [ih]
      by_cases hp : p.1 = c
      · rw [if_pos hp, if_pos hp, if_neg (by omega)]
      · rw [if_neg hp, if_neg hp]

theorem wiL_mem {α : Type} {l : List (Int × α)} {h q : Int × α} (hq : q ∈ wiL l h) : q = h ∨ q ∈ l := by
  induction l with
  | nil => simpa [wiL] using hq
  | cons p l ih =>
    unfold wiL at hq
    split at hq
    · rcases List.mem_cons.1 hq with r | r
      · exact .inr (r ▸ List.mem_cons_self)
      · rcases ih r with r | r
        · exact .inl r
        · exact .inr (List.mem_cons_of_mem _ r)
    · split at hq
      · rcases List.mem_cons.1 hq with r | r
        · exact .inl r
        · exact .inr (List.mem_cons_of_mem _ r)
      · rcases List.mem_cons.1 hq with r | r
        · exact .inl r
        · exact .inr r

theorem wiL_rises {α : Type} {l : List (Int × α)} (h : Int × α) (hl : RisW l) : RisW (wiL l h) := by
  induction l with
  | nil => exact List.pairwise_singleton _ _
  | cons p l ih =>
    obtain ⟨h1, h2⟩ := List.pairwise_cons.1 hl
    unfold wiL
    split
    · rename_i hp
      refine List.pairwise_cons.2 ⟨fun q hq => ?_, ih h2⟩
      rcases wiL_mem hq with r | r
      · rw [r]; exact hp
      · exact h1 q r
    · split
      · rename_i hp hp2
        refine List.pairwise_cons.2 ⟨fun q hq => ?_, h2⟩
        have := h1 q hq; omega
      · rename_i hp hp2
        refine List.pairwise_cons.2 ⟨fun q hq => ?_, hl⟩
        rcases List.mem_cons.1 hq with r | r
        · rw [r]; omega
        · have := h1 q r; omega

theorem lookW_none {l : List Wr} {b : Int} (h : ∀ q ∈ l, q.1 ≠ b) : lookW l b = none := by
  induction l with
  | nil => rfl
  | cons p l ih =>
    unfold lookW
    rw [if_neg (h p List.mem_cons_self)]
    exact ih fun q hq => h q (List.mem_cons_of_mem _ hq)

theorem look_wi {l : List Wr} (h : Wr) (c : Int) (hl : RisW l) : lookW (wiL l h) c = if h.1 = c then some h.2 else lookW l c := by
  induction l with
  | nil => simp [wiL, lookW]
  | cons p l ih =>
    obtain ⟨h1, h2⟩ := List.pairwise_cons.1 hl
    unfold wiL
    split
    · rename_i hp
      simp only [lookW]
      rw [ih h2]
      by_cases hc : p.1 = c
      · rw [if_pos hc, if_pos hc, if_neg (by omega)]
      · rw [if_neg hc, if_neg hc]
    · split
      · rename_i hp hp2
        simp only [lookW]
        by_cases hc : h.1 = c
        · rw [if_pos hc, if_pos hc]
        · rw [if_neg hc, if_neg hc, if_neg (by omega)]
      · simp only [lookW]

theorem wos_rises {α : Type} (rs : List Int) : ∀ {l : List (Int × α)}, RisW l → RisW (rs.foldl woL l) := by
  induction rs with
  | nil => exact fun h => h
  | cons b rs ih => exact fun h => ih (woL_rises b h)
theorem look_wos (rs : List Int) (c : Int) : ∀ (l : List Wr), lookW (rs.foldl woL l) c = if c ∈ rs then none else lookW l c := by
  induction rs with
  | nil => simp
  | cons b rs ih =>
    intro l
    rw [List.foldl_cons, ih, look_wo]
    by_cases h1 : c ∈ rs
    · rw [if_pos h1, if_pos (List.mem_cons_of_mem _ h1)]
    · rw [if_neg h1]
      by_cases h2 : c = b
      · rw [if_pos h2, if_pos (by rw [h2]; exact List.mem_cons_self)]
      · rw [if_neg h2, if_neg (by simp [h1, h2])]
theorem wis_rises {α : Type} (hs : List (Int × α)) : ∀ {l : List (Int × α)}, RisW l → RisW (hs.foldl wiL l) := by
  induction hs with
  | nil => exact fun h => h
  | cons b rs ih => exact fun h => ih (wiL_rises b h)
theorem look_wis (hs : List Wr) (c : Int) : ∀ {l : List Wr}, RisW l → lookW (hs.foldl wiL l) c = (lastL hs c).or (lookW l c) := by
  induction hs with
  | nil => intro l _; simp [lastL]
  | cons b hs ih =>
    intro l hl
    rw [List.foldl_cons, ih (wiL_rises b hl), look_wi b c hl, lastL]
    cases lastL hs c <;> simp
    by_cases h : b.1 = c <;> simp [h]

def survL (ts : List Tx) : List Wr := ts.foldl (fun o t => survT o t.homes t.revs) []

/-- What the maps hold, a transaction behind the others. -/
def copsL : List Tx → Int → Option (Nat × List Int)
  | [], _ => none
  | t :: ts, b => ((copsL ts b).map fun x => (x.1 + 1, x.2)).or ((lastL t.homes b).map fun d => (0, d))
def revsL : List Tx → Int → Option Nat
  | [], _ => none
  | t :: ts, b => ((revsL ts b).map (· + 1)).or (if b ∈ t.revs then some 0 else none)
def keptL (ts : List Tx) (b : Int) : Option (List Int) :=
  match copsL ts b with
  | none => none
  | some (p, d) => match revsL ts b with
    | none => some d
    | some q => if p < q then none else some d

theorem surv_rises_aux (ts : List Tx) : ∀ {o : List Wr}, RisW o → RisW (ts.foldl (fun o t => survT o t.homes t.revs) o) := by
  induction ts with
  | nil => exact fun h => h
  | cons t ts ih => exact fun h => ih (wis_rises _ (wos_rises _ h))
theorem surv_rises (ts : List Tx) : RisW (survL ts) := surv_rises_aux ts List.Pairwise.nil

theorem look_surv_aux (ts : List Tx) (b : Int) : ∀ {o : List Wr}, RisW o → lookW (ts.foldl (fun o t => survT o t.homes t.revs) o) b = (match copsL ts b with
    | none => (match revsL ts b with | none => lookW o b | some _ => none)
    | some (p, d) => (match revsL ts b with | none => some d | some q => if p < q then none else some d)) := by
  induction ts with
  | nil => intro o _; rfl
  | cons t ts ih =>
    intro o ho
    have h1 : RisW (survT o t.homes t.revs) := wis_rises _ (wos_rises _ ho)
    rw [List.foldl_cons, ih h1]
    have h2 : lookW (survT o t.homes t.revs) b = (lastL t.homes b).or (if b ∈ t.revs then none else lookW o b) := by
      unfold survT; rw [look_wis _ _ (wos_rises _ ho), look_wos]
    rw [h2]
    simp only [copsL, revsL]
    cases copsL ts b with
    | some x =>
      obtain ⟨p, d⟩ := x
      cases revsL ts b with
      | none =>
        simp only [Option.map_some, Option.some_or, Option.map_none, Option.none_or]
        by_cases hb : b ∈ t.revs <;> simp [hb]
      | some q => simp
    | none =>
      cases revsL ts b with
      | some q =>
        simp only [Option.map_none, Option.none_or, Option.map_some, Option.some_or]
        cases lastL t.homes b <;> simp
      | none =>
        simp only [Option.map_none, Option.none_or]
        cases lastL t.homes b with
        | some d => by_cases hb : b ∈ t.revs <;> simp [hb]
        | none => by_cases hb : b ∈ t.revs <;> simp [hb]
theorem look_surv (ts : List Tx) (b : Int) : lookW (survL ts) b = keptL ts b := by
  unfold survL keptL
  rw [look_surv_aux ts b List.Pairwise.nil]
  cases copsL ts b with
  | some x => rfl
  | none => cases revsL ts b <;> rfl

/-- A list that rises is told by its keys in their order and what it says of each. -/
theorem rises_look {l : List Wr} (hl : RisW l) : l = (l.map (·.1)).map fun b => (b, (lookW l b).getD []) := by
  induction l with
  | nil => rfl
  | cons p l ih =>
    obtain ⟨h1, h2⟩ := List.pairwise_cons.1 hl
    have e : ∀ q ∈ l, (lookW (p :: l) q.1).getD [] = (lookW l q.1).getD [] := by
      intro q hq
      have := h1 q hq
      simp only [lookW]; rw [if_neg (by omega)]
    simp only [List.map_cons, List.map_map]
    congr 1
    · simp [lookW]
    · conv => lhs; rw [ih h2]
      simp only [List.map_map]
      apply List.map_congr_left
      intro q hq
      simp only [Function.comp]
      rw [e q hq]
theorem mem_lookW {l : List Wr} {b : Int} : b ∈ l.map (·.1) ↔ lookW l b ≠ none := by
  induction l with
  | nil => simp [lookW]
  | cons p l ih =>
    simp only [List.map_cons, List.mem_cons, lookW]
    by_cases h : p.1 = b
    · simp [h]
    · rw [if_neg h, ← ih]
      exact ⟨fun x => x.resolve_left (fun e => h e.symm), .inr⟩
/-- Two lists of numbers that rise and hold the same are the same. -/
theorem rise_uniq : ∀ {xs ys : List Int}, xs.Pairwise (· < ·) → ys.Pairwise (· < ·) → (∀ b, b ∈ xs ↔ b ∈ ys) → xs = ys
  | [], [], _, _, _ => rfl
  | [], y :: ys, _, _, h => absurd ((h y).2 List.mem_cons_self) (by simp)
  | x :: xs, [], _, _, h => absurd ((h x).1 List.mem_cons_self) (by simp)
  | x :: xs, y :: ys, hx, hy, h => by
    obtain ⟨x1, x2⟩ := List.pairwise_cons.1 hx
    obtain ⟨y1, y2⟩ := List.pairwise_cons.1 hy
    have e : x = y := by
      rcases List.mem_cons.1 ((h x).1 List.mem_cons_self) with r | r
      · exact r
      · rcases List.mem_cons.1 ((h y).2 List.mem_cons_self) with s | s
        · exact s.symm
        · have := y1 x r; have := x1 y s; omega
    subst e
    congr 1
    refine rise_uniq x2 y2 fun b => ⟨fun hb => ?_, fun hb => ?_⟩
    · rcases List.mem_cons.1 ((h b).1 (List.mem_cons_of_mem _ hb)) with r | r
      · have := x1 b hb; omega
      · exact r
    · rcases List.mem_cons.1 ((h b).2 (List.mem_cons_of_mem _ hb)) with r | r
      · have := y1 b hb; omega
      · exact r
/-- What survives: the keys that the program keeps, in their order, each with what its last copy says. -/
theorem surv_keys (ts : List Tx) {ks : List Int} (hk : ks.Pairwise (· < ·)) (hm : ∀ b, b ∈ ks ↔ keptL ts b ≠ none) : survL ts = ks.map fun b => (b, (keptL ts b).getD []) := by
  have h1 := rises_look (surv_rises ts)
  have e : (survL ts).map (·.1) = ks := by
    refine rise_uniq ?_ hk fun b => ?_
    · exact List.pairwise_map.2 (surv_rises ts)
    · rw [mem_lookW, hm, look_surv]
  rw [h1, e]
  apply List.map_congr_left
  intro b _
  rw [look_surv]

/-- The maps, one transaction more behind. -/
theorem copsL_snoc (ts : List Tx) (t : Tx) (b : Int) : copsL (ts ++ [t]) b = ((lastL t.homes b).map fun d => (ts.length, d)).or (copsL ts b) := by
  induction ts with
  | nil => simp [copsL]
  | cons s ts ih =>
    simp only [List.cons_append, copsL, ih, List.length_cons]
    cases lastL t.homes b <;> simp
theorem revsL_snoc (ts : List Tx) (t : Tx) (b : Int) : revsL (ts ++ [t]) b = (if b ∈ t.revs then some ts.length else none).or (revsL ts b) := by
  induction ts with
  | nil => simp [revsL]
  | cons s ts ih =>
    simp only [List.cons_append, revsL, ih, List.length_cons]
    by_cases h : b ∈ t.revs <;> simp [h]
theorem lastL_snoc (l : List Wr) (p : Wr) (b : Int) : lastL (l ++ [p]) b = if p.1 = b then some p.2 else lastL l b := by
  induction l with
  | nil => simp [lastL]
  | cons q l ih =>
    simp only [List.cons_append, lastL, ih]
    by_cases h : p.1 = b <;> simp [h]
end Go.Proofs.Ytmfcaiadcmgjbaa
