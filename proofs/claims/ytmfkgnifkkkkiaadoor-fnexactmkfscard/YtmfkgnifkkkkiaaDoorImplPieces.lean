/- Several short texts in one: RangeOwn, ImplPieces. -/
import Derived.Test.YtmfkgnifkkkkiaaDoorMem
import Derived.RangeFuncNested
import Derived.RangeFuncBound
import Derived.RangeFuncCalls
import Derived.RangeFuncLeaves
import Derived.RangeFuncFrom
import Derived.RangeFuncWrites
import Derived.RangeFuncBox
import Derived.Shelf.Abstract
import Derived.Shelf.RegionOpen
import Derived.OwnWalkIn
import Derived.TacticsInMore
import Derived.LoopNIn
import Derived.LoopIn
import Derived.Test.YtmfkgnifkkkkiaaDoorRows
namespace Go.Proofs.YtmfkgnifkkkkiaaDoor
open Go.RowKit Go.Shelf

theorem own_up {β : Type} {B B' : Nat} {I : β → World → Prop} (h : OwnFrom B I) (hB : B ≤ B') : OwnFrom B' I :=
  fun s A C row hs hg hr => h s A C row hs hg (fun r e => ⟨Nat.le_trans hB (hr r e).1, (hr r e).2⟩)

/-- What is cells stays where what is none is turned. -/
theorem cells_stay {A B : World} {row : Option Nat} {k : Nat} {cs : Array Value} {t : TypeId} {fr : Nat × Nat} (h : A.heap[k]? = some (.cells cs t fr)) (hg : A.grownBy B row) (hr : ∀ r, row = some r → ∃ o : Obj, A.heap[r]? = some o ∧ o.isCells = false) : B.heap[k]? = some (.cells cs t fr) := by
  refine (hg.block k (Array.getElem?_eq_some_iff.1 h).1 (fun e => ?_)).trans h
  obtain ⟨o, ho, hc⟩ := hr _ e.symm
  rw [h] at ho
  cases ho
  cases hc

/-- Of the blocks lo .. M - 1 none has turned. -/
structure KeepM (lo M : Nat) (V W : World) : Prop where
  size : V.heap.size ≤ W.heap.size
  same : ∀ k, lo ≤ k → k < M → W.heap[k]? = V.heap[k]?
theorem KeepM.refl (lo M : Nat) (V : World) : KeepM lo M V V := ⟨Nat.le_refl _, fun _ _ _ => rfl⟩
theorem KeepM.trans {lo M : Nat} {A B C : World} (h : KeepM lo M A B) (k : KeepM lo M B C) : KeepM lo M A C := ⟨Nat.le_trans h.size k.size, fun i h1 h2 => (k.same i h1 h2).trans (h.same i h1 h2)⟩
theorem KeepM.sub {lo lo' M M' : Nat} {A B : World} (h : KeepM lo M A B) (hl : lo ≤ lo') (hM : M' ≤ M) : KeepM lo' M' A B := ⟨h.size, fun i h1 h2 => h.same i (Nat.le_trans hl h1) (Nat.lt_of_lt_of_le h2 hM)⟩
theorem KeepM.put {lo M l : Nat} (A : World) (o : Obj) (hl : l < lo ∨ M ≤ l) : KeepM lo M A (A.putObj l o) := ⟨by simp, fun i h1 h2 => World.putObj_heap_other (by omega)⟩
theorem KeepM.chg {lo M l r : Nat} {A B : World} (c : Chg l r A B) (hM : M ≤ A.heap.size) (hd : r ≤ lo ∨ M ≤ l ∨ r ≤ l) : KeepM lo M A B := ⟨c.size, fun i h1 h2 => c.block i (Nat.lt_of_lt_of_le h2 hM) (by omega)⟩

/-- A round is the same at every room where no depth is asked. -/
theorem round_any {n m : Nat} {P : Program} {l : Nat} {f : FuncId} {tmps : Array Value} {assign body : Code} {w : World} {R : Ending → World → Prop} (h : RoundIn Fence.wide n P l f tmps assign body w R) (l' : Nat) : RoundIn (Fence.wide.inRound l') m P l f tmps assign body w R :=
  ⟨h.1, fun c cs _ => h.2 c cs (fun d hd => by cases hd)⟩
theorem round_wide {n m : Nat} {P : Program} {l : Nat} {f : FuncId} {tmps : Array Value} {assign body : Code} {w : World} {R : Ending → World → Prop} (h : RoundIn Fence.wide n P l f tmps assign body w R) : RoundIn Fence.wide m P l f tmps assign body w R :=
  ⟨h.1, fun c cs _ => h.2 c cs (fun d hd => by cases hd)⟩

/-- What a call of yield with these arguments does, whatever room there is. -/
def Yields (P : Program) (l : Nat) (args : Array Value) (W : World) (R : Ending → World → Prop) : Prop :=
  ∃ fn tmps assign body, (Instr.yield l args).run P W = .ok (.round l fn tmps assign body) W ∧ RoundIn Fence.wide 0 P l fn tmps assign body W R

/-- What does not hang on the blocks lo .. M - 1. -/
def FreeM {β : Type} (lo M : Nat) (I : β → World → Prop) : Prop := ∀ s A C, I s A → Chg lo M A C → M ≤ A.heap.size → I s C

/-- A function to range over: what it hands out, whatever its caller keeps (J) between the rounds; M: up to where the function's own blocks lie, which no round turns; Kp: what else a round keeps. -/
def Seq {α : Type} (P : Program) (g : Nat) (lb : Array Value) (encs : α → Array Value) (Kp : World → World → Prop) (S Sp : List α → Prop) (N : Nat) (w : World) : Prop :=
  ∀ (l : Nat) (J Jx : Nat → List α → World → Prop) (W : World), Below w.heap.size w W → (∀ M, OwnFrom W.heap.size (J M)) → (∀ M, OwnFrom W.heap.size (Jx M)) → (∀ M, FreeM W.heap.size M (J M)) → (∀ M, FreeM W.heap.size M (Jx M)) →
    (∀ M pre x V, W.heap.size ≤ M → M ≤ V.heap.size → J M pre V → pre.length < N → Yields P l (encs x) V fun e V' => (KeepM W.heap.size M V V' ∧ Kp V V') ∧ ((e = .returned (.bool true) ∧ J M (pre ++ [x]) V') ∨ (e = .returned (.bool false) ∧ Jx M (pre ++ [x]) V'))) →
    (∀ V, Below W.heap.size W V → J V.heap.size [] V) →
    CallsIn Fence.wide 0 P g (#[.func (.yield l) #[] #[]] ++ lb) W fun e W' => (∃ v, e = .returned v) ∧ ((∃ M xs, S xs ∧ J M xs W') ∨ (∃ M pre, Sp pre ∧ Jx M pre W'))

/-- How a round's body may be left. -/
def Left {α : Type} (lo M : Nat) (Kp : World → World → Prop) (I : List α → World → Prop) (Ix : Code → List α → World → Prop) (xs : List α) (W : World) : Exit → Act → World → Prop
  | .normal, _, W' => (KeepM lo M W W' ∧ Kp W W') ∧ I xs W'
  | .ret, _, W' => (KeepM lo M W W' ∧ Kp W W') ∧ Ix .ret xs W'
  | .exit id, _, W' => (KeepM lo M W W' ∧ Kp W W') ∧ Ix (.exit id) xs W'
  | .goto t, _, W' => (KeepM lo M W W' ∧ Kp W W') ∧ Ix (.goto t) xs W'
  | .panic _, _, _ => False
  | .outgrown, _, _ => False

/-- The record of a loop that stands at l; D: its block of deferred calls. -/
structure Rcd (l D : Nat) (r : Loop) (W : World) : Prop where
  lp : W.heap[l]? = some (.loop r)
  df : W.heap[D]? = some (.deferred (some []))
theorem Rcd.own {l D B : Nat} {r : Loop} (hl : l < B) (hD : D < B) : OwnFrom (β := Unit) B (fun _ W => Rcd l D r W) := fun _ A C row hs hg hr =>
  ⟨(hg.block l (Array.getElem?_eq_some_iff.1 hs.lp).1 (fun e => by have := (hr _ e.symm).1; omega)).trans hs.lp, (hg.block D (Array.getElem?_eq_some_iff.1 hs.df).1 (fun e => by have := (hr _ e.symm).1; omega)).trans hs.df⟩
theorem Rcd.put {l D : Nat} {r r' : Loop} {W : World} (h : Rcd l D r W) (hne : D ≠ l) : Rcd l D r' (W.putObj l (.loop r')) :=
  ⟨World.putObj_heap_same (Array.getElem?_eq_some_iff.1 h.lp).1, (World.putObj_heap_other hne).trans h.df⟩
theorem Rcd.kept {lo M l D : Nat} {r : Loop} {V W : World} (h : Rcd l D r V) (k : KeepM lo M V W) (hl : lo ≤ l ∧ l < M) (hD : lo ≤ D ∧ D < M) : Rcd l D r W := ⟨(k.same _ hl.1 hl.2).trans h.lp, (k.same _ hD.1 hD.2).trans h.df⟩

section
variable {α : Type} {P : Program} {n : Nat} {encs : α → Array Value} {Kp : World → World → Prop} {I : List α → World → Prop} {Ix : Code → List α → World → Prop}

/-- One round. -/
theorem round_own {assign body : Code} {ps : Array Tmp} {tmps : Array Value} {fn : FuncId} {B M : Nat} (r : Loop) (hr : r.state = .ready) (hpend : r.pending = none) (hrf : r.fn = fn) (hrt : r.tmps = tmps) (hrp : r.params = ps) (hra : r.assign = assign) (hrb : r.body = body) (hM : B + 2 ≤ M)
    (hps : ∀ x, (encs x).size = ps.size) (hKt : ∀ {A B C : World}, Kp A B → Kp B C → Kp A C) (hKb : ∀ (W : World) (o : Obj) (r : Loop), W.heap[B + 1]? = some (.loop r) → Kp W (W.putObj (B + 1) o))
    (hI : OwnFrom B I) (hIx : ∀ c, OwnFrom B (Ix c)) (Ax : α → Act → World → Prop) (hAx : ∀ x a', OwnFrom B (fun (_ : Unit) W => Ax x a' W)) {pre : List α} {x : α} {W : World} (hrec : Rcd (B + 1) B r W) (hMW : M ≤ W.heap.size)
    (hassign : ∀ (K : Act → World → Prop), (∀ a' W', KeepM B M W W' → Kp W W' → I pre W' → Ax x a' W' → K a' W') →
      assign.wpIn (Fence.wide.inRound (B + 1)) n P (Exit.then K (fun _ _ _ => False)) { tmps := (ps.zip (encs x)).foldl (fun t (p, v) => t.setIfInBounds p v) tmps, defers := [] } W)
    (hbody : ∀ (a' : Act) (W : World), M ≤ W.heap.size → I pre W → Ax x a' W → body.wpIn (Fence.wide.inRound (B + 1)) n P (Left B M Kp I Ix (pre ++ [x]) W) a' W) :
    Yields P (B + 1) (encs x) W fun e W' => (KeepM (B + 2) M W W' ∧ Kp W W') ∧ ((e = .returned (.bool true) ∧ I (pre ++ [x]) W' ∧ Rcd (B + 1) B r W') ∨ (e = .returned (.bool false) ∧ ∃ c, Ix c (pre ++ [x]) W' ∧ Rcd (B + 1) B { r with state := .done, pending := some c } W')) := by
  have hy := run_yield (P := P) (args := encs x) hrec.lp (by rw [hrp]; exact hps x)
  rw [hrf, hrt, hrp, hra, hrb] at hy
  refine ⟨fn, _, assign, body, hy, round_wide (roundIn_of_wpIn (n := n) trivial (hassign _ ?_))⟩
  intro a' W1 hk1 hp1 hi1 hax
  have r1 := hrec.kept hk1 (by omega) (by omega)
  refine ⟨_, run_beginRound r1.lp hr, ?_⟩
  have r2 : Rcd (B + 1) B { r with state := .busy } (W1.putObj (B + 1) (.loop { r with state := .busy })) := r1.put (by omega)
  refine wpIn_mono (hbody a' _ (by have := hk1.size; simp; omega) (hI.putObj _ hi1 (Nat.le_succ _) r1.lp rfl) ((hAx x a').putObj (s := ()) _ hax (Nat.le_succ _) r1.lp rfl)) ?_
  have big : ∀ (W3 : World) (o : Obj), (KeepM B M (W1.putObj (B + 1) (.loop { r with state := .busy })) W3 ∧ Kp (W1.putObj (B + 1) (.loop { r with state := .busy })) W3) →
      Rcd (B + 1) B { r with state := .busy } W3 ∧ (KeepM (B + 2) M W (W3.putObj (B + 1) o) ∧ Kp W (W3.putObj (B + 1) o)) := by
    intro W3 o ⟨k3, p3⟩
    refine ⟨r2.kept k3 (by omega) (by omega), ?_, hKt hp1 (hKt (hKb _ _ _ r1.lp) (hKt p3 (hKb _ _ _ (r2.kept k3 (by omega) (by omega)).lp)))⟩
    exact (((hk1.sub (by omega) (Nat.le_refl _)).trans (KeepM.put _ _ (by omega))).trans (k3.sub (by omega) (Nat.le_refl _))).trans (KeepM.put _ _ (by omega))
  rintro e a3 W3 hp
  cases e with
  | normal =>
    obtain ⟨hk3, hi3⟩ := hp
    obtain ⟨r3, hb⟩ := big W3 _ hk3
    refine ⟨_, _, run_endRound none r3.lp, hb, Or.inl ⟨rfl, hI.putObj _ hi3 (Nat.le_succ _) r3.lp rfl, ?_⟩⟩
    have := r3.put (r' := { { r with state := .busy } with state := if (none : Option Code).isNone then .ready else .done, pending := none }) (by omega)
    have e : ({ { r with state := .busy } with state := if (none : Option Code).isNone then .ready else .done, pending := none } : Loop) = r := by cases r; simp_all
    rw [e] at this ⊢
    exact this
  | ret =>
    obtain ⟨hk3, hi3⟩ := hp
    obtain ⟨r3, hb⟩ := big W3 _ hk3
    exact ⟨_, _, run_endRound (some .ret) r3.lp, hb, Or.inr ⟨rfl, .ret, (hIx _).putObj _ hi3 (Nat.le_succ _) r3.lp rfl, r3.put (by omega)⟩⟩
  | exit id =>
    obtain ⟨hk3, hi3⟩ := hp
    obtain ⟨r3, hb⟩ := big W3 _ hk3
    exact ⟨_, _, run_endRound (some (.exit id)) r3.lp, hb, Or.inr ⟨rfl, .exit id, (hIx _).putObj _ hi3 (Nat.le_succ _) r3.lp rfl, r3.put (by omega)⟩⟩
  | goto t =>
    obtain ⟨hk3, hi3⟩ := hp
    obtain ⟨r3, hb⟩ := big W3 _ hk3
    exact ⟨_, _, run_endRound (some (.goto t)) r3.lp, hb, Or.inr ⟨rfl, .goto t, (hIx _).putObj _ hi3 (Nat.le_succ _) r3.lp rfl, r3.put (by omega)⟩⟩
  | panic ch => exact hp.elim
  | outgrown => exact hp.elim

/-- The loop. -/
theorem range_own {g : Operand} {ps : Array Tmp} {assign body : Code} {Q : Exit → Act → World → Prop} {a : Act} {w : World} {gf : Nat} {lb : Array Value} (hg : a.eval g = .func (.func gf) #[] lb) (eg : ∀ args w, (callFunc gf args).run P w = .ok (.enter gf args) w)
    {S Sp : List α → Prop} {N : Nat} {w0 : World} (hseq : Seq P gf lb encs Kp S Sp N w0) (hb0 : Below w0.heap.size w0 w) (hps : ∀ x, (encs x).size = ps.size) (hKt : ∀ {A B C : World}, Kp A B → Kp B C → Kp A C) (hKb : ∀ (W : World) (o : Obj) (r : Loop), W.heap[w.heap.size + 1]? = some (.loop r) → Kp W (W.putObj (w.heap.size + 1) o))
    (I : Nat → List α → World → Prop) (Ix : Nat → Code → List α → World → Prop) (hI : ∀ M, OwnFrom w.heap.size (I M)) (hIx : ∀ M c, OwnFrom w.heap.size (Ix M c)) (hIF : ∀ M, FreeM (w.heap.size + 2) M (I M)) (hIxF : ∀ M c, FreeM (w.heap.size + 2) M (Ix M c)) (h0 : ∀ V, Below w.heap.size w V → w.heap.size + 2 ≤ V.heap.size → I V.heap.size [] V) (Ax : α → Act → World → Prop) (hAx : ∀ x a', OwnFrom w.heap.size (fun (_ : Unit) W => Ax x a' W))
    (hassign : ∀ (M l : Nat) (pre : List α) (x : α) (W : World) (K : Act → World → Prop), w.heap.size + 2 ≤ M → M ≤ W.heap.size → I M pre W → (∀ a' W', KeepM w.heap.size M W W' → Kp W W' → I M pre W' → Ax x a' W' → K a' W') →
      assign.wpIn (Fence.wide.inRound l) 0 P (Exit.then K (fun _ _ _ => False)) { tmps := (ps.zip (encs x)).foldl (fun t (p, v) => t.setIfInBounds p v) a.tmps, defers := [] } W)
    (hbody : ∀ (M l : Nat) (pre : List α) (x : α) (a' : Act) (W : World), w.heap.size + 2 ≤ M → M ≤ W.heap.size → I M pre W → Ax x a' W → pre.length < N → body.wpIn (Fence.wide.inRound l) 0 P (Left w.heap.size M Kp (I M) (Ix M) (pre ++ [x]) W) a' W)
    (hdone : ∀ (M D : Nat) (xs : List α) (W : World), w.heap.size ≤ D → S xs → I M xs W → W.heap[D]? = some (.deferred (some [])) → Q .normal { a with defers := { target := .collected D, args := #[] } :: a.defers } W)
    (hstop : ∀ (M D : Nat) (c : Code) (pre : List α) (W : World), w.heap.size ≤ D → Sp pre → Ix M c pre W → W.heap[D]? = some (.deferred (some [])) → c.wpIn Fence.wide n P Q { a with defers := { target := .collected D, args := #[] } :: a.defers } W) :
    (Code.rangeFunc g ps assign body).wpIn Fence.wide n P Q a w := by
  refine wpIn_rangeFunc ?_
  intro fn _
  obtain ⟨r, hr⟩ : ∃ r : Loop, r = { state := .ready, pending := none, fn, tmps := a.tmps, params := ps, assign, body, defers := w.heap.size } := ⟨_, rfl⟩
  obtain ⟨z, z1, z2⟩ := alloc2 w (.deferred (some [])) (.loop r)
  have hR0 : Rcd (w.heap.size + 1) w.heap.size r ((w.alloc (.deferred (some []))).alloc (.loop r)) := ⟨z2, z1⟩
  have hBw : Below w.heap.size w ((w.alloc (.deferred (some []))).alloc (.loop r)) := ((Below.refl _ w).alloc (Nat.le_refl _) _).alloc (by simp) _
  have hB0 : Below w0.heap.size w0 ((w.alloc (.deferred (some []))).alloc (.loop r)) := hb0.trans (hBw.mono hb0.size)
  refine ⟨w.heap.size + 1, [{ target := .collected w.heap.size, args := #[] }], (w.alloc (.deferred (some []))).alloc (.loop r), { target := .fn (.func gf) lb, args := #[.func (.yield (w.heap.size + 1)) #[] #[]] }, (w.alloc (.deferred (some []))).alloc (.loop r), gf,
    #[.func (.yield (w.heap.size + 1)) #[] #[]] ++ lb, (w.alloc (.deferred (some []))).alloc (.loop r), by rw [hr]; exact run_enterLoop_outer _ _ _ _ _, ?_, (fun _ _ => trivial), ?_, (fun h => by cases h), ?_⟩
  · simp only [resolve, hg]
    simp [go_sem]
  · simp [invoke, go_sem, eg]
  generalize (w.alloc (.deferred (some []))).alloc (.loop r) = W1 at *
  have hcall := hseq (w.heap.size + 1) (fun M pre W => I M pre W ∧ Rcd (w.heap.size + 1) w.heap.size r W)
    (fun M pre W => ∃ c, Ix M c pre W ∧ Rcd (w.heap.size + 1) w.heap.size { r with state := .done, pending := some c } W) W1 hB0
    (fun M s A C row hs hg' hr' => ⟨hI M s A C row hs.1 hg' (fun q e => ⟨by have := (hr' q e).1; omega, (hr' q e).2⟩), Rcd.own (B := W1.heap.size) (by omega) (by omega) () A C row hs.2 hg' hr'⟩)
    (fun M s A C row hs hg' hr' => by
      obtain ⟨c, hc, hrc⟩ := hs
      exact ⟨c, hIx M c s A C row hc hg' (fun q e => ⟨by have := (hr' q e).1; omega, (hr' q e).2⟩), Rcd.own (B := W1.heap.size) (by omega) (by omega) () A C row hrc hg' hr'⟩)
    (fun M s A C hs hc hm => ⟨hIF M s A C hs.1 (by rw [z] at hc; exact hc) hm, ⟨(hc.block _ (Array.getElem?_eq_some_iff.1 hs.2.lp).1 (by omega)).trans hs.2.lp, (hc.block _ (Array.getElem?_eq_some_iff.1 hs.2.df).1 (by omega)).trans hs.2.df⟩⟩)
    (fun M s A C hs hc hm => by
      obtain ⟨c, h1, h2⟩ := hs
      exact ⟨c, hIxF M c s A C h1 (by rw [z] at hc; exact hc) hm, ⟨(hc.block _ (Array.getElem?_eq_some_iff.1 h2.lp).1 (by omega)).trans h2.lp, (hc.block _ (Array.getElem?_eq_some_iff.1 h2.df).1 (by omega)).trans h2.df⟩⟩)
    (by
      intro M pre x V hM hMV hJ hlen
      obtain ⟨hi, hrec⟩ := hJ
      have hround := round_own (n := 0) (P := P) (encs := encs) (Kp := Kp) (I := I M) (Ix := Ix M) (ps := ps) (assign := assign) (body := body) (tmps := a.tmps) (fn := fn) (B := w.heap.size) (M := M) r (by rw [hr]) (by rw [hr]) (by rw [hr]) (by rw [hr]) (by rw [hr]) (by rw [hr]) (by rw [hr]) (by omega) hps hKt hKb (hI M) (hIx M) Ax hAx (pre := pre) (x := x) hrec hMV
        (fun K hK => hassign M _ pre x V K (by omega) hMV hi hK) (fun a' W hMW hi' hax => hbody M _ pre x a' W (by omega) hMW hi' hax hlen)
      obtain ⟨f', t', as', bo', hy, hR⟩ := hround
      refine ⟨f', t', as', bo', hy, hR.mono ?_⟩
      rintro e V' ⟨⟨hk, hp⟩, hres⟩
      refine ⟨⟨hk.sub (by omega) (Nat.le_refl _), hp⟩, ?_⟩
      rcases hres with ⟨he, hi', hr'⟩ | ⟨he, hx⟩
      · exact Or.inl ⟨he, hi', hr'⟩
      · exact Or.inr ⟨he, hx⟩)
    (fun V hV => ⟨h0 V (hBw.trans (hV.mono (by omega))) (by have := hV.size; omega), ⟨(hV.block _ (by omega)).trans hR0.lp, (hV.block _ (by omega)).trans hR0.df⟩⟩)
  refine (callsIn_wide.2 (callsIn_wide.1 hcall)).mono ?_
  rintro e W2 ⟨⟨v, rfl⟩, (⟨M, xs, hS, hi, hrc⟩ | ⟨M, pre, hSp, c, hi, hrc⟩)⟩
  · refine ⟨_, _, run_endLoop hrc.lp (by rw [hr]; simp), ?_⟩
    rw [show r.pending = none by rw [hr]]
    exact hdone M _ xs _ (Nat.le_refl _) hS ((hI M).putObj _ hi (Nat.le_succ _) hrc.lp rfl) ((World.putObj_heap_other (by omega)).trans hrc.df)
  · exact ⟨_, _, run_endLoop hrc.lp (by simp), hstop M _ c pre _ (Nat.le_refl _) hSp ((hIx M c).putObj _ hi (Nat.le_succ _) hrc.lp rfl) ((World.putObj_heap_other (by omega)).trans hrc.df)⟩
end

end Go.Proofs.YtmfkgnifkkkkiaaDoor

namespace Go.Proofs.YtmfkgnifkkkkiaaDoor
open Go.RowKit Go.Shelf
attribute [local go_sem] Oper.semAt_some

/-- Blocks that a round keeps. -/
def KeepS (K : Nat → Prop) (W W' : World) : Prop := ∀ k, K k → W'.heap[k]? = W.heap[k]?
theorem KeepS.trans {K : Nat → Prop} {A B C : World} (h : KeepS K A B) (k : KeepS K B C) : KeepS K A C := fun i hi => (k i hi).trans (h i hi)
theorem KeepS.cell {K : Nat → Prop} {W W' : World} (h : KeepS K W W') {p : Addr} (hp : K p.block) : W'.cell? p = W.cell? p := World.cell?_of_block (h _ hp)

/-- Piece i of 64 bytes. -/
def encPc (b off cap : Nat) {K : Nat} (x : Fin K) : Array Value := #[.slice (some ⟨b, off + 64 * x.val, none⟩) 64 (cap - 64 * x.val)]

set_option maxRecDepth 100000 in
set_option maxHeartbeats 2000000 in
theorem pieces_seq (Bd Bn b off cap K : Nat) (w : World) (hK : K ≤ 4096) (hcap : 64 * K ≤ cap) (hc2 : cap ≤ 9223372036854775807)
    (hd : w.cell? ⟨Bd, 0, none⟩ = some (.slice (some ⟨b, off, none⟩) (64 * K) cap)) (hn : w.cell? ⟨Bn, 0, none⟩ = some (.int .i64 64)) :
    Seq Tryd.prog 70 #[.pointer (some ⟨Bd, 0, none⟩), .pointer (some ⟨Bn, 0, none⟩)] (encPc b off cap (K := K)) (KeepS fun k => k = Bd ∨ k = Bn)
      (fun xs => xs.map Fin.val = List.range K) (fun pre => pre.map Fin.val = List.range pre.length) K w := fun l J Jx W hW hJ hJx _ _ hY h0 => by
  have hd2 : W.cell? ⟨Bd, 0, none⟩ = some (.slice (some ⟨b, off, none⟩) (64 * K) cap) := (hW.cell (p := ⟨Bd, 0, none⟩) (lt_of_cell hd)).trans hd
  have hn2 : W.cell? ⟨Bn, 0, none⟩ = some (.int .i64 64) := (hW.cell (p := ⟨Bn, 0, none⟩) (lt_of_cell hn)).trans hn
  have hJ0 := h0 W (Below.refl _ _)
  clear h0 hd hn hW hJ hJx
  refine callsIn_of_wp Tryd.func70 rfl trivial ?_ rfl
  simp only [Tryd.ntmps70, List.size_toArray, List.length_cons, List.length_nil, Nat.reduceAdd, Nat.reduceSub, Array.replicate_succ, Array.replicate_zero, List.push_toArray, List.append_toArray, List.nil_append, List.cons_append]
  gi_wp2
  gi_loopw [4] (fun x wr => ∃ (i : Nat) (pre : List (Fin K)), x = .int .i64 ((64 * i : Nat) : Int) ∧ i ≤ K ∧ pre.map Fin.val = List.range i ∧ W.heap.size ≤ wr.heap.size ∧ wr.cell? ⟨Bd, 0, none⟩ = some (.slice (some ⟨b, off, none⟩) (64 * K) cap) ∧ wr.cell? ⟨Bn, 0, none⟩ = some (.int .i64 64) ∧ J W.heap.size pre wr)
    (fun x _ => 64 * K - (intOf x).toNat)
  case atStart => exact ⟨0, [], rfl, Nat.zero_le _, rfl, Nat.le_refl _, hd2, hn2, hJ0⟩
  case round =>
    clear hd2 hn2 hJ0
    obtain ⟨i, pre, rfl, hi, hpre, hsz, hd, hn, hJp⟩ := hrel
    have hplen : pre.length = i := by have := congrArg List.length hpre; simpa using this
    by_cases hlt : i < K
    · obtain ⟨fn, tmps, assign, body, hy, hR⟩ := hY W.heap.size pre ⟨i, hlt⟩ wr (Nat.le_refl _) hsz hJp (by omega)
      unfold encPc at hy
      simp only at hy
      have Hpre : Hid (pre.map Fin.val = List.range i) := hpre
      obtain ⟨q, hq⟩ : ∃ q, q = 64 * i := ⟨_, rfl⟩
      obtain ⟨L, hL⟩ : ∃ L, L = 64 * K := ⟨_, rfl⟩
      have Hq : Hid (q = 64 * i) := hq
      have HLq : Hid (L = 64 * K) := hL
      have hqL : q + 64 ≤ L := by omega
      have hLb : L ≤ 262144 := by omega
      rw [← hq] at hy ⊢
      rw [← hL] at hd hcap
      have e1 : (q : Int) < (L : Int) := by omega
      have e2 : (q : Int) + 64 ≤ (L : Int) := by omega
      have e3 : (q : Int) + 64 ≤ (cap : Int) := by omega
      clear hY hpre hq hL hi hplen
      gi_wp2
      refine ⟨rfl, hR.mono ?_⟩
      rintro e V ⟨⟨hkm, hkp⟩, (⟨rfl, hJ3⟩ | ⟨rfl, hJx3⟩)⟩
      · have hd3 : V.cell? ⟨Bd, 0, none⟩ = some (.slice (some ⟨b, off, none⟩) L cap) := (hkp.cell (p := ⟨Bd, 0, none⟩) (Or.inl rfl)).trans hd
        have hn3 : V.cell? ⟨Bn, 0, none⟩ = some (.int .i64 64) := (hkp.cell (p := ⟨Bn, 0, none⟩) (Or.inr rfl)).trans hn
        have hs3 := Nat.le_trans hsz hkm.size
        clear hR hy hd hn hkm hkp hJp hsz
        gi_wp2
        go_roundw
        case rel => exact ⟨i + 1, pre ++ [⟨i, hlt⟩], by have := Hq.out; congr 1; omega, hlt, by rw [List.map_append, Hpre.out, List.range_succ]; rfl, hs3, by rw [← HLq.out]; exact hd3, hn3, hJ3⟩
        case measure => have := HLq.out; simp [intOf]; omega
      · gi_wp2
        refine bodyPost_ret (results_none rfl _ _ _) rfl ?_
        refine ⟨⟨_, rfl⟩, .inr ⟨_, pre ++ [⟨i, hlt⟩], ?_, hJx3⟩⟩
        have hl : pre.length = i := by have := congrArg List.length Hpre.out; simpa using this
        rw [List.map_append, Hpre.out, List.length_append, hl]
        exact List.range_succ.symm
    · obtain rfl : i = K := by omega
      have Hpre : Hid (pre.map Fin.val = List.range i) := hpre
      have e1 : ¬ (((64 * i : Nat) : Int) < ((64 * i : Nat) : Int)) := by omega
      generalize 64 * i = L at *
      clear hY hpre hplen
      gi_wp2
      go_end0
      exact ⟨⟨_, rfl⟩, .inl ⟨_, pre, Hpre.out, hJp⟩⟩

end Go.Proofs.YtmfkgnifkkkkiaaDoor
