/- The model's draws: l1DrawDisk. -/
import Derived.Test.YtplfehjaakkldaaDrawFill
import Derived.Test.YtplfehjaakkldaaSpecNew
import Derived.Test.YtplfehjaakkldaaCopyDisk
namespace Go.Proofs.Ytplfehjaakkldaa
open Go.RowKit

theorem ToldV.chg {w w' : World} {lo B l r : Nat} {dv : Value} {dur : List Int} {ps : List Wr} (h : ToldV w lo B dv dur ps) (c : Chg l r w w') (hlo : r ≤ lo ∨ r ≤ l) (hB : lo ≤ B) : ToldV w' lo B dv dur ps := by
  obtain ⟨pv, cells, dvs, h1, h2, h3, h4⟩ := h
  refine ⟨pv, cells, dvs, (c.block B (Array.getElem?_eq_some_iff.1 h1).1 (by omega)).trans h1, h2.chg c (fun g hg => by have := (h2.lt g hg).1; omega), h3.chg c (fun g hg => by have := (World.ownsRow.lt h3.row g hg).1; omega) (fun i g hi hg => by have := ((h3.data i hi).lt g hg).1; omega), h4⟩

/-- A disk that is being drawn. -/
structure DrS (w wx : World) (p : Nat) (cv : Value) (sz A B : Nat) (dv : Value) (dur : List Int) (ps : List Wr) : Prop where
  src : ∃ a, a ≤ A ∧ SrcAt wx p cv a sz
  chg : Chg p (p + 1) w wx
  res : wx.heap[w.heap.size]? = some (.cells #[.slice none 0 0, .slice none 0 0] 29 (0, 0))
  low : w.heap.size < B
  told : ToldV wx (w.heap.size + 1) B dv dur ps
  psz : p < w.heap.size

theorem DrS.step {w wx w' : World} {p : Nat} {cv : Value} {sz A A' B : Nat} {dv : Value} {dur : List Int} {ps : List Wr} (h : DrS w wx p cv sz A B dv dur ps) (c : Chg p (p + 1) wx w') (hs : ∃ a, a ≤ A' ∧ SrcAt w' p cv a sz) : DrS w w' p cv sz A' B dv dur ps := by
  have := h.psz
  have := h.low
  exact ⟨hs, h.chg.trans c, (c.block w.heap.size (Array.getElem?_eq_some_iff.1 h.res).1 (by omega)).trans h.res, h.low, h.told.chg c (by omega) (by omega), h.psz⟩

theorem DrS.drew {w wx : World} {p : Nat} {cv : Value} {sz A B : Nat} {dv : Value} {dur : List Int} {ps : List Wr} (h : DrS w wx p cv sz A B dv dur ps) : DrS w wx.drew p cv sz A B dv dur ps :=
  h.step (Chg.drew (Chg.refl _ _ _)) h.src

/-- What a source draws from. -/
structure SrcOk (w : World) (p lo hi : Nat) (cv : Value) (code : List Int) : Prop where
  byt : Byt code
  len : code.length ≤ 1048576
  vw : View w lo hi .u8 cv code
  off : p < lo ∨ hi ≤ p

theorem DrS.next {w wx : World} {p lo hi : Nat} {cv : Value} {code : List Int} {sz A B : Nat} {dv : Value} {dur : List Int} {ps : List Wr} (h : DrS w wx p cv sz A B dv dur ps) (k : SrcOk w p lo hi cv code) (hA : A ≤ 1099511627776) (n : Int) (hn : n ≤ 9223372036854775807) :
    Calls Try.prog 62 #[.pointer (some ⟨p, 0, none⟩), .int .i64 n] wx fun e w' => ∃ x : Int, e = .returned (.int .i64 x) ∧ 0 ≤ x ∧ (1 ≤ n → x < n) ∧ DrS w w' p cv sz (A + 1) B dv dur ps ∧ Chg p (p + 1) wx w' := by
  obtain ⟨a, ha, hs⟩ := h.src
  refine (l1Next_calls wx p a sz n hn k.byt k.len (by omega) hs (k.vw.chg h.chg (by have := k.off; omega)) k.off).mono ?_
  rintro e w' ⟨rfl, hs', hc⟩
  have hr := nxt_range code a n
  exact ⟨_, rfl, hr.1, hr.2, h.step hc ⟨a + 1, by omega, hs'⟩, hc⟩

theorem DrS.chance {w wx : World} {p lo hi : Nat} {cv : Value} {code : List Int} {sz A B : Nat} {dv : Value} {dur : List Int} {ps : List Wr} (h : DrS w wx p cv sz A B dv dur ps) (k : SrcOk w p lo hi cv code) (hA : A ≤ 1099511627776) (n : Int) (hn : n ≤ 9223372036854775807) :
    Calls Try.prog 64 #[.pointer (some ⟨p, 0, none⟩), .int .i64 n] wx fun e w' => ∃ x : Bool, e = .returned (.bool x) ∧ DrS w w' p cv sz (A + 1) B dv dur ps ∧ Chg p (p + 1) wx w' := by
  obtain ⟨a, ha, hs⟩ := h.src
  refine (l1Chance_calls wx p a sz n hn k.byt k.len (by omega) hs (k.vw.chg h.chg (by have := k.off; omega)) k.off).mono ?_
  rintro e w' ⟨rfl, hs', hc⟩
  exact ⟨_, rfl, h.step hc ⟨a + 1, by omega, hs'⟩, hc⟩

theorem DrS.fill {w wx : World} {p lo hi : Nat} {cv : Value} {code : List Int} {sz A B : Nat} {dv : Value} {dur : List Int} {ps : List Wr} (h : DrS w wx p cv sz A B dv dur ps) (k : SrcOk w p lo hi cv code) (hA : A + 5 ≤ 1099511627776) :
    Calls Try.prog 63 #[.pointer (some ⟨p, 0, none⟩)] wx fun e w' => ∃ g cap ys, e = .returned (.slice (some ⟨g, 0, none⟩) 64 cap) ∧ ys.length = 64 ∧ OwnB w' wx.heap.size 5 (.slice (some ⟨g, 0, none⟩) 64 cap) ys ∧ DrS w w' p cv sz (A + 5) B dv dur ps ∧ Chg p (p + 1) wx w' := by
  obtain ⟨a, ha, hs⟩ := h.src
  refine (l1Fill_calls wx p a sz k.byt k.len (by omega) hs (k.vw.chg h.chg (by have := k.off; omega)) k.off).mono ?_
  rintro e w' ⟨g, cap, ys, j, rfl, _, hl, ho, hj, hs', hc⟩
  exact ⟨g, cap, ys, rfl, hl, ho, h.step hc ⟨a + j, by omega, hs'⟩, hc⟩

/-- The bytes of a disk that is being drawn are written in place. -/
theorem DrS.put {w wx w' : World} {p : Nat} {cv : Value} {sz A B g cap n : Nat} {dur dur' : List Int} {ps : List Wr} (h : DrS w wx p cv sz A B (.slice (some ⟨g, 0, none⟩) n cap) dur ps) (hps : ps = []) (c : Chg g (g + 1) wx w')
    (ho : OwnB w' (w.heap.size + 1) 5 (.slice (some ⟨g, 0, none⟩) n cap) dur') : DrS w w' p cv sz A B (.slice (some ⟨g, 0, none⟩) n cap) dur' ps := by
  obtain ⟨⟨a, ha, hs⟩, hc, hr, hl, ⟨pv, cells, dvs, h1, h2, h3, h4⟩, hp⟩ := h
  have hg := h2.lt g rfl
  obtain ⟨cur, hcur⟩ := h2.elem (g := g) rfl
  have hgB : B ≠ g := fun e => by subst e; exact cells_ne hcur h1 (by decide) rfl
  subst hps
  refine ⟨⟨a, ha, hs.chg c (by omega)⟩, hc.step c (by omega), (c.block w.heap.size (Array.getElem?_eq_some_iff.1 hr).1 (by omega)).trans hr, hl, ⟨pv, cells, dvs, (c.block B (Array.getElem?_eq_some_iff.1 h1).1 (by omega)).trans h1, ho, ?_, h4⟩, hp⟩
  refine h3.chg c (fun g' hg' => ?_) (fun i _ hi _ => by simp at hi)
  obtain ⟨cur', hcur'⟩ := row_elem' h3.row hg'
  have : g' ≠ g := fun e => by subst e; exact cells_ne hcur' hcur (by decide) rfl
  omega

/-- A write more is drawn. -/
theorem DrS.snoc {w w5 w8 : World} {p : Nat} {cv : Value} {sz A B : Nat} {dv pv nv v' : Value} {dur ys : List Int} {ps : List Wr} {cells : List Value} {dvs : Nat → Value} {q : Int} (h5 : DrS w w5 p cv sz A B dv dur ps)
    (hB5 : w5.heap[B]? = some (.cells #[dv, pv] 29 (0, 0))) (hD5 : OwnB w5 (w.heap.size + 1) 5 dv dur) (hP5 : OwnPx w5 (w.heap.size + 1) 55 5 pv ps cells dvs)
    (hA5 : ∀ i j, i < ps.length → dv.ownBlock = some j → (dvs i).ownBlock ≠ some j) (hO5 : OwnB w5 (w.heap.size + 1) 5 nv ys)
    (hf1 : ∀ i g, i < ps.length → (dvs i).ownBlock = some g → nv.ownBlock ≠ some g) (hf2 : ∀ j, dv.ownBlock = some j → nv.ownBlock ≠ some j) (o : Obj)
    (hown8 : w8.ownsRow (w.heap.size + 1) 55 2 v' (ps.length + 1) (cells ++ [.int .i64 q, nv])) (hgrow : (w5.alloc o).grownBy w8 pv.ownBlock) :
    DrS w (w8.setCell ⟨B, 1, none⟩ v') p cv sz A B dv dur (ps ++ [(q, ys)]) ∧ w8.cell? ⟨B, 1, none⟩ = some pv ∧ w8.frozen? ⟨B, 1, none⟩ = false := by
  have C6 : Chg 0 0 w5 (w5.alloc o) := Chg.alloc (Chg.refl 0 0 w5) _
  have h6 : DrS w (w5.alloc o) p cv sz A B dv dur ps := h5.step (Chg.alloc (Chg.refl _ _ w5) _) (by obtain ⟨a, ha, hs⟩ := h5.src; exact ⟨a, ha, hs.chg C6 (by omega)⟩)
  have D6 := hD5.chg C6 (by intro g' _; omega)
  have O6 := hO5.chg C6 (by intro g' _; omega)
  have P6 := hP5.chg C6 (by intro g' _; omega) (by intro i g' _ _; omega)
  have B6 := (C6.block B (Array.getElem?_eq_some_iff.1 hB5).1 (by omega)).trans hB5
  clear hB5 hD5 hP5 hO5
  generalize w5.alloc o = w6 at *
  have K8 : ∀ j, j < w6.heap.size → pv.ownBlock ≠ some j → w8.heap[j]? = w6.heap[j]? := fun j hj hne' => hgrow.block j hj (fun e => hne' e.symm)
  have hpE : ∀ j, pv.ownBlock = some j → ∃ cur, w6.heap[j]? = some (.cells cur 55 (0, 0)) := fun j hj => row_elem' P6.row hj
  have hpB : ∀ j, pv.ownBlock = some j → w.heap.size + 1 ≤ j ∧ j < w6.heap.size := fun j hj => World.ownsRow.lt P6.row j hj
  have B8 : w8.heap[B]? = _ := (K8 B (Array.getElem?_eq_some_iff.1 B6).1 (fun e => by obtain ⟨cur, hcur⟩ := hpE _ e; exact cells_ne hcur B6 (by decide) rfl)).trans B6
  have D8 : OwnB w8 (w.heap.size + 1) 5 dv dur := D6.same (fun j hj => K8 j (D6.lt j hj).2 (fun e => by obtain ⟨cur, hcur⟩ := hpE _ e; obtain ⟨cur', hcur'⟩ := D6.elem hj; exact cells_ne hcur hcur' (by decide) rfl))
  have O8 : OwnB w8 (w.heap.size + 1) 5 nv ys := O6.same (fun j hj => K8 j (O6.lt j hj).2 (fun e => by obtain ⟨cur, hcur⟩ := hpE _ e; obtain ⟨cur', hcur'⟩ := O6.elem hj; exact cells_ne hcur hcur' (by decide) rfl))
  have X8 : ∀ i, i < ps.length → OwnB w8 (w.heap.size + 1) 5 (dvs i) (ps.getD i (0, [])).2 := fun i hi => (P6.data i hi).same (fun j hj => K8 j ((P6.data i hi).lt j hj).2 (fun e => by obtain ⟨cur, hcur⟩ := hpE _ e; obtain ⟨cur', hcur'⟩ := (P6.data i hi).elem hj; exact cells_ne hcur hcur' (by decide) rfl))
  have C8 : Chg (w.heap.size + 1) w6.heap.size w6 w8 := Chg.ofGrown hgrow (fun k hk _ => hpB k hk)
  have nB : ∀ {v xs}, OwnB w8 (w.heap.size + 1) 5 v xs → v.ownBlock ≠ some B := fun ho e => by obtain ⟨cur, hcur⟩ := ho.elem e; exact cells_ne hcur B8 (by decide) rfl
  have hps := h6.psz
  have hlow := h6.low
  have hch := h6.chg.step C8 (by omega)
  have C9 : Chg B (B + 1) w8 (w8.setCell ⟨B, 1, none⟩ v') := Chg.setCell (p := ⟨B, 1, none⟩) (Chg.refl _ _ _) (Or.inl ⟨Nat.le_refl _, Nat.lt_succ_self _⟩) _
  refine ⟨⟨?_, hch.step C9 (by omega), ?_, hlow, ?_, hps⟩, (two_cells B8).2.1, (two_cells B8).2.2.2⟩
  · obtain ⟨a, ha, hs⟩ := h6.src
    exact ⟨a, ha, (hs.chg C8 (by omega)).chg C9 (by omega)⟩
  · have r8 := (C8.block w.heap.size (Array.getElem?_eq_some_iff.1 h6.res).1 (by omega)).trans h6.res
    exact (C9.block w.heap.size (Array.getElem?_eq_some_iff.1 r8).1 (by omega)).trans r8
  · refine ⟨v', cells ++ [.int .i64 q, nv], fun i => if i = ps.length then nv else dvs i, ?_, D8.set (nB D8) _, ?_, ?_⟩
    · have := heap_setCell_same w8 B 1 _ _ v' B8
      simpa using this
    · refine P6.snoc q _ ys (ownsRow_setCell_other hown8 (fun e => ?_) _) (fun i hi => (X8 i hi).set (nB (X8 i hi)) _) (O8.set (nB O8) _) (fun i g' hi hg' e => hf1 i g' hi hg' e)
      obtain ⟨cur, hcur⟩ := row_elem' hown8 e
      exact cells_ne hcur B8 (by decide) rfl
    · intro i j hi hj
      rw [List.length_append, List.length_cons, List.length_nil] at hi
      by_cases e : i = ps.length
      · simp only [if_pos e]
        exact hf2 j hj
      · simp only [if_neg e]
        exact hA5 i j (by omega) hj

/-- What is drawn is small. -/
def Small (d : Dsk) : Prop := d.dur.length ≤ 131136 ∧ d.pend.length ≤ 601 ∧ ∀ i, i < d.pend.length → (d.pend.getD i (0, [])).2.length ≤ 64

/-- All writes have 64 bytes. -/
def P64 (ps : List Wr) : Prop := ∀ i, i < ps.length → (ps.getD i (0, [])).2.length = 64

theorem P64.snoc {ps : List Wr} (h : P64 ps) (q : Int) {ys : List Int} (hy : ys.length = 64) : P64 (ps ++ [(q, ys)]) := by
  intro i hi
  rw [List.length_append, List.length_cons, List.length_nil] at hi
  by_cases e : i = ps.length
  · subst e; simp [List.getD_eq_getElem?_getD, hy]
  · have := h i (by omega)
    simp only [List.getD_eq_getElem?_getD, List.getElem?_append_left (show i < ps.length by omega)] at *
    exact this

end Go.Proofs.Ytplfehjaakkldaa
