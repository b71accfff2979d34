/- The model's draws: the operations of DrawDiskDo, as they are drawn. -/
import Derived.Test.YtplfehjaakkldaaDrawDisk2
import Derived.Test.YtplfehjaakkldaaOps
namespace Go.Proofs.Ytplfehjaakkldaa
open Go.RowKit

theorem OwnOx.snoc {w w' : World} {base : Nat} {eO eB : TypeId} {v v' : Value} {os : List Opx} {cells : List Value} {dvs : Nat → Value} (h : OwnOx w base eO eB v os cells dvs) (q a : Int) (dv : Value) (ys : List Int)
    (hrow : w'.ownsRow base eO 3 v' (os.length + 1) (cells ++ [.int .i64 q, .int .i64 a, dv])) (hdat : ∀ i, i < os.length → OwnB w' base eB (dvs i) (os.getD i Opx.zero).2.2) (ho : OwnB w' base eB dv ys)
    (hfr : ∀ i g, i < os.length → (dvs i).ownBlock = some g → dv.ownBlock ≠ some g) :
    OwnOx w' base eO eB v' (os ++ [(q, a, ys)]) (cells ++ [.int .i64 q, .int .i64 a, dv]) (fun i => if i = os.length then dv else dvs i) := by
  have hl : cells.length = os.length * 3 := h.row.1
  refine ⟨by simpa using hrow, ?_, ?_, ?_, ?_, ?_⟩
  · intro i hi
    simp only [List.length_append, List.length_cons, List.length_nil] at hi
    by_cases e : i < os.length
    · rw [List.getElem?_append_left (by omega), h.at0 i e, List.getD_eq_getElem?_getD, List.getD_eq_getElem?_getD, List.getElem?_append_left e]
    · obtain rfl : i = os.length := by omega
      rw [List.getElem?_append_right (by omega), hl]
      simp [List.getD_eq_getElem?_getD]
  · intro i hi
    simp only [List.length_append, List.length_cons, List.length_nil] at hi
    by_cases e : i < os.length
    · rw [List.getElem?_append_left (by omega), h.at1 i e, List.getD_eq_getElem?_getD, List.getD_eq_getElem?_getD, List.getElem?_append_left e]
    · obtain rfl : i = os.length := by omega
      rw [List.getElem?_append_right (by omega), hl, show os.length * 3 + 1 - os.length * 3 = 1 by omega]
      simp [List.getD_eq_getElem?_getD]
  · intro i hi
    simp only [List.length_append, List.length_cons, List.length_nil] at hi
    by_cases e : i < os.length
    · rw [List.getElem?_append_left (by omega), h.at2 i e, if_neg (by omega)]
    · obtain rfl : i = os.length := by omega
      rw [List.getElem?_append_right (by omega), hl, if_pos rfl, show os.length * 3 + 2 - os.length * 3 = 2 by omega]
      rfl
  · intro i hi
    simp only [List.length_append, List.length_cons, List.length_nil] at hi
    by_cases e : i < os.length
    · show OwnB w' base eB (if i = os.length then dv else dvs i) _
      rw [if_neg (by omega), List.getD_eq_getElem?_getD, List.getElem?_append_left e, ← List.getD_eq_getElem?_getD]
      exact hdat i e
    · obtain rfl : i = os.length := by omega
      show OwnB w' base eB (if os.length = os.length then dv else dvs os.length) _
      rw [if_pos rfl]
      simpa [List.getD_eq_getElem?_getD] using ho
  · intro i j g hij hj
    simp only [List.length_append, List.length_cons, List.length_nil] at hj
    rw [if_neg (by omega)]
    by_cases e : j < os.length
    · rw [if_neg (by omega)]; exact h.apart i j g hij e
    · rw [if_pos (by omega)]; exact hfr i g (by omega)

/-- Operations that are being drawn, of a disk that was drawn. -/
structure DoS (w wx : World) (p : Nat) (cv : Value) (sz A : Nat) (lo : Nat) (v : Value) (d : Dsk) (ov : Value) (os : List Opx) : Prop where
  src : ∃ a, a ≤ A ∧ SrcAt wx p cv a sz
  chg : Chg p (p + 1) w wx
  dsk : DView w lo w.heap.size v d
  told : ∃ cells dvs, OwnOx wx w.heap.size 89 5 ov os cells dvs
  psz : p < lo
  lsz : lo ≤ w.heap.size
  len : ∀ i, i < os.length → (os.getD i Opx.zero).2.2.length ≤ 64
  nn : ∃ g c, ov = .slice (some ⟨g, 0, none⟩) os.length c

theorem DoS.step {w wx w' : World} {p : Nat} {cv : Value} {sz A A' lo : Nat} {v : Value} {d : Dsk} {ov : Value} {os : List Opx} (h : DoS w wx p cv sz A lo v d ov os) (c : Chg p (p + 1) wx w') (hs : ∃ a, a ≤ A' ∧ SrcAt w' p cv a sz) : DoS w w' p cv sz A' lo v d ov os := by
  have := h.psz
  have := h.lsz
  obtain ⟨cells, dvs, ho⟩ := h.told
  exact ⟨hs, h.chg.trans c, h.dsk, ⟨cells, dvs, ho.chg c (fun g hg => by have := (World.ownsRow.lt ho.row g hg).1; omega) (fun i g hi hg => by have := ((ho.data i hi).lt g hg).1; omega)⟩, h.psz, h.lsz, h.len, h.nn⟩

theorem DoS.drew {w wx : World} {p : Nat} {cv : Value} {sz A lo : Nat} {v : Value} {d : Dsk} {ov : Value} {os : List Opx} (h : DoS w wx p cv sz A lo v d ov os) : DoS w wx.drew p cv sz A lo v d ov os :=
  h.step (Chg.drew (Chg.refl _ _ _)) h.src

theorem DoS.view {w wx : World} {p : Nat} {cv : Value} {sz A lo : Nat} {v : Value} {d : Dsk} {ov : Value} {os : List Opx} (h : DoS w wx p cv sz A lo v d ov os) : DView wx lo w.heap.size v d :=
  h.dsk.chg h.chg (by have := h.psz; omega)

theorem DoS.new {w wx w' : World} {p : Nat} {cv : Value} {sz A lo : Nat} {v : Value} {d : Dsk} {ov : Value} {os : List Opx} (h : DoS w wx p cv sz A lo v d ov os) (c : Chg 0 0 wx w') : DoS w w' p cv sz A lo v d ov os := by
  refine h.step ⟨c.os, c.tape, c.output, c.size, fun k hk _ => c.block k hk (by omega)⟩ ?_
  obtain ⟨a, ha, hs⟩ := h.src
  exact ⟨a, ha, hs.chg c (by omega)⟩

theorem DoS.next {w wx : World} {p clo chi : Nat} {cv : Value} {code : List Int} {sz A lo : Nat} {v : Value} {d : Dsk} {ov : Value} {os : List Opx} (h : DoS w wx p cv sz A lo v d ov os) (k : SrcOk w p clo chi cv code) (hA : A ≤ 1099511627776) (n : Int) (hn : n ≤ 9223372036854775807) :
    Calls Try.prog 62 #[.pointer (some ⟨p, 0, none⟩), .int .i64 n] wx fun e w' => ∃ x : Int, e = .returned (.int .i64 x) ∧ 0 ≤ x ∧ (1 ≤ n → x < n) ∧ DoS w w' p cv sz (A + 1) lo v d ov os ∧ Chg p (p + 1) wx w' := by
  obtain ⟨a, ha, hs⟩ := h.src
  refine (l1Next_calls wx p a sz n hn k.byt k.len (by omega) hs (k.vw.chg h.chg (by have := k.off; omega)) k.off).mono ?_
  rintro e w' ⟨rfl, hs', hc⟩
  have hr := nxt_range code a n
  exact ⟨_, rfl, hr.1, hr.2, h.step hc ⟨a + 1, by omega, hs'⟩, hc⟩

theorem DoS.chance {w wx : World} {p clo chi : Nat} {cv : Value} {code : List Int} {sz A lo : Nat} {v : Value} {d : Dsk} {ov : Value} {os : List Opx} (h : DoS w wx p cv sz A lo v d ov os) (k : SrcOk w p clo chi cv code) (hA : A ≤ 1099511627776) (n : Int) (hn : n ≤ 9223372036854775807) :
    Calls Try.prog 64 #[.pointer (some ⟨p, 0, none⟩), .int .i64 n] wx fun e w' => ∃ x : Bool, e = .returned (.bool x) ∧ DoS w w' p cv sz (A + 1) lo v d ov os ∧ Chg p (p + 1) wx w' := by
  obtain ⟨a, ha, hs⟩ := h.src
  refine (l1Chance_calls wx p a sz n hn k.byt k.len (by omega) hs (k.vw.chg h.chg (by have := k.off; omega)) k.off).mono ?_
  rintro e w' ⟨rfl, hs', hc⟩
  exact ⟨_, rfl, h.step hc ⟨a + 1, by omega, hs'⟩, hc⟩

theorem DoS.fill {w wx : World} {p clo chi : Nat} {cv : Value} {code : List Int} {sz A lo : Nat} {v : Value} {d : Dsk} {ov : Value} {os : List Opx} (h : DoS w wx p cv sz A lo v d ov os) (k : SrcOk w p clo chi cv code) (hA : A + 5 ≤ 1099511627776) :
    Calls Try.prog 63 #[.pointer (some ⟨p, 0, none⟩)] wx fun e w' => ∃ g cap ys, e = .returned (.slice (some ⟨g, 0, none⟩) 64 cap) ∧ ys.length = 64 ∧ OwnB w' wx.heap.size 5 (.slice (some ⟨g, 0, none⟩) 64 cap) ys ∧ DoS w w' p cv sz (A + 5) lo v d ov os ∧ Chg p (p + 1) wx w' := by
  obtain ⟨a, ha, hs⟩ := h.src
  refine (l1Fill_calls wx p a sz k.byt k.len (by omega) hs (k.vw.chg h.chg (by have := k.off; omega)) k.off).mono ?_
  rintro e w' ⟨g, cap, ys, j, rfl, _, hl, ho, hj, hs', hc⟩
  exact ⟨g, cap, ys, rfl, hl, ho, h.step hc ⟨a + j, by omega, hs'⟩, hc⟩

/-- An operation more is drawn: its bytes are a row of their own, made behind the others. -/
theorem DoS.snoc {w w5 w8 : World} {p : Nat} {cv : Value} {sz A lo N : Nat} {v : Value} {d : Dsk} {ov ov' nv : Value} {os : List Opx} {cells : List Value} {dvs : Nat → Value} {q a : Int} {ys : List Int} (h5 : DoS w w5 p cv sz A lo v d ov os)
    (hO : OwnOx w5 w.heap.size 89 5 ov os cells dvs) (hY : OwnB w5 N 5 nv ys) (hN : ∀ i g, i < os.length → (dvs i).ownBlock = some g → g < N) (hNw : w.heap.size ≤ N) (hys : ys.length ≤ 64) (o : Obj)
    (hown8 : w8.ownsRow w.heap.size 89 3 ov' (os.length + 1) (cells ++ [.int .i64 q, .int .i64 a, nv])) (hgrow : (w5.alloc o).grownBy w8 ov.ownBlock) :
    DoS w w8 p cv sz A lo v d ov' (os ++ [(q, a, ys)]) := by
  have C6 : Chg 0 0 w5 (w5.alloc o) := Chg.alloc (Chg.refl 0 0 w5) _
  have h6 := h5.new C6
  have O6 := hO.chg C6 (by intro g' _; omega) (by intro i g' _ _; omega)
  have Y6 := hY.chg C6 (by intro g' _; omega)
  clear hO hY
  generalize w5.alloc o = w6 at *
  have K8 : ∀ j, j < w6.heap.size → ov.ownBlock ≠ some j → w8.heap[j]? = w6.heap[j]? := fun j hj hne' => hgrow.block j hj (fun e => hne' e.symm)
  have hpE : ∀ j, ov.ownBlock = some j → ∃ cur, w6.heap[j]? = some (.cells cur 89 (0, 0)) := fun j hj => row_elem' O6.row hj
  have hpB : ∀ j, ov.ownBlock = some j → w.heap.size ≤ j ∧ j < w6.heap.size := fun j hj => World.ownsRow.lt O6.row j hj
  have Y8 : OwnB w8 w.heap.size 5 nv ys := (Y6.same (fun j hj => K8 j (Y6.lt j hj).2 (fun e => by obtain ⟨cur, hcur⟩ := hpE _ e; obtain ⟨cur', hcur'⟩ := Y6.elem hj; exact cells_ne hcur hcur' (by decide) rfl))).base (fun g hg => by have := (Y6.lt g hg).1; omega)
  have X8 : ∀ i, i < os.length → OwnB w8 w.heap.size 5 (dvs i) (os.getD i Opx.zero).2.2 := fun i hi => (O6.data i hi).same (fun j hj => K8 j ((O6.data i hi).lt j hj).2 (fun e => by obtain ⟨cur, hcur⟩ := hpE _ e; obtain ⟨cur', hcur'⟩ := (O6.data i hi).elem hj; exact cells_ne hcur hcur' (by decide) rfl))
  have C8 : Chg w.heap.size w6.heap.size w6 w8 := Chg.ofGrown hgrow (fun k hk _ => hpB k hk)
  have hps := h6.psz
  have hlsz := h6.lsz
  refine ⟨?_, h6.chg.step C8 (by omega), h6.dsk, ⟨_, _, O6.snoc q a nv ys hown8 X8 Y8 (fun i g hi hg e => ?_)⟩, hps, hlsz, fun i hi => ?_, ?_⟩
  · obtain ⟨a, ha, hs⟩ := h6.src
    exact ⟨a, ha, hs.chg C8 (by omega)⟩
  · have := hN i g hi hg
    have := (Y6.lt g e).1
    omega
  · simp only [List.length_append, List.length_cons, List.length_nil] at hi
    by_cases e : i < os.length
    · have := h6.len i e
      simpa only [List.getD_eq_getElem?_getD, List.getElem?_append_left e] using this
    · obtain rfl : i = os.length := by omega
      simpa [List.getD_eq_getElem?_getD] using hys
  · rcases hown8.2 with ⟨_, h0⟩ | ⟨g, c, _, hv, _⟩
    · omega
    · exact ⟨g, c, by rw [hv, List.length_append]; rfl⟩

/-- A disk and operations were drawn. -/
def DrawnO (w w' : World) (e : Ending) : Prop :=
  ∃ v d ov os l lo, e = .returned (.tuple #[v, ov, .int .i64 l]) ∧ DView w' w.heap.size lo v d ∧ Small d ∧ OView w' lo w'.heap.size ov os ∧ lo ≤ w'.heap.size ∧ os.length ≤ 5000 ∧ (∃ g c, ov = .slice (some ⟨g, 0, none⟩) os.length c) ∧ Chg 0 0 w w'

end Go.Proofs.Ytplfehjaakkldaa
