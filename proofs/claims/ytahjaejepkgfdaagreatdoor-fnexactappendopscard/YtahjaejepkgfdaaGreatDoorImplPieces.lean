/- Several short texts in one: RangeOwn2, ImplPieces. -/
import Derived.Test.YtahjaejepkgfdaaGreatDoorRangeOwn
import Derived.Test.YtahjaejepkgfdaaGreatDoorRows
namespace Go.Proofs.YtahjaejepkgfdaaGreatDoor
open Go.RowKit Go.Shelf

/-- A function to range over; Kp: what a round keeps (told with how many blocks there were when it was called). -/
def SeqT {α : Type} (P : Program) (g : Nat) (lb : Array Value) (encs : α → Array Value) (Kp : Nat → World → World → Prop) (S Sp : List α → Prop) (N : Nat) (w : World) : Prop :=
  ∀ (l : Nat) (J Jx : List α → World → Prop) (W : World), Below w.heap.size w W → OwnFrom W.heap.size J → OwnFrom W.heap.size Jx →
    (∀ pre x V, W.heap.size ≤ V.heap.size → J pre V → pre.length < N → Go.Proofs.YtahjaejepkgfdaaGreatDoor.Yields P l (encs x) V fun e V' => (V.heap.size ≤ V'.heap.size ∧ Kp W.heap.size V V') ∧ ((e = .returned (.bool true) ∧ J (pre ++ [x]) V') ∨ (e = .returned (.bool false) ∧ Jx (pre ++ [x]) V'))) →
    (∀ V, Below W.heap.size W V → J [] V) →
    CallsIn Fence.wide 0 P g (#[.func (.yield l) #[] #[]] ++ lb) W fun e W' => (∃ v, e = .returned v) ∧ ((∃ xs, S xs ∧ J xs W') ∨ (∃ pre, Sp pre ∧ Jx pre W'))

/-- The same, with the function's own blocks up to M, which no round turns. -/
def SeqM {α : Type} (P : Program) (g : Nat) (lb : Array Value) (encs : α → Array Value) (Kp : Nat → World → World → Prop) (S Sp : List α → Prop) (N : Nat) (w : World) : Prop :=
  ∀ (l : Nat) (J Jx : Nat → List α → World → Prop) (W : World), Below w.heap.size w W → (∀ M, OwnFrom W.heap.size (J M)) → (∀ M, OwnFrom W.heap.size (Jx M)) → (∀ M, FreeM W.heap.size M (J M)) → (∀ M, FreeM W.heap.size M (Jx M)) →
    (∀ M pre x V, W.heap.size ≤ M → M ≤ V.heap.size → J M pre V → pre.length < N → Go.Proofs.YtahjaejepkgfdaaGreatDoor.Yields P l (encs x) V fun e V' => (KeepM W.heap.size M V V' ∧ Kp W.heap.size V V') ∧ ((e = .returned (.bool true) ∧ J M (pre ++ [x]) V') ∨ (e = .returned (.bool false) ∧ Jx M (pre ++ [x]) V'))) →
    (∀ V, Below W.heap.size W V → J V.heap.size [] V) →
    CallsIn Fence.wide 0 P g (#[.func (.yield l) #[] #[]] ++ lb) W fun e W' => (∃ v, e = .returned v) ∧ ((∃ M xs, S xs ∧ J M xs W') ∨ (∃ M pre, Sp pre ∧ Jx M pre W'))

/-- Two blocks stand; what there is grows. -/
structure Keep2 (B : Nat) (V W : World) : Prop where
  size : V.heap.size ≤ W.heap.size
  b0 : W.heap[B]? = V.heap[B]?
  b1 : W.heap[B + 1]? = V.heap[B + 1]?
theorem Keep2.refl (B : Nat) (V : World) : Keep2 B V V := ⟨Nat.le_refl _, rfl, rfl⟩
theorem Rcd.kept2 {B : Nat} {r : Loop} {V W : World} (h : Rcd (B + 1) B r V) (k : Keep2 B V W) : Rcd (B + 1) B r W := ⟨k.b1.trans h.lp, k.b0.trans h.df⟩

/-- How a round's body may be left. -/
def LeftT {α : Type} (B : Nat) (Kp : World → World → Prop) (I : List α → World → Prop) (Ix : Code → List α → World → Prop) (xs : List α) (W : World) : Exit → Act → World → Prop
  | .normal, _, W' => (Keep2 B W W' ∧ Kp W W') ∧ I xs W'
  | .ret, _, W' => (Keep2 B W W' ∧ Kp W W') ∧ Ix .ret xs W'
  | .exit id, _, W' => (Keep2 B W W' ∧ Kp W W') ∧ Ix (.exit id) xs W'
  | .goto t, _, W' => (Keep2 B W W' ∧ Kp W W') ∧ Ix (.goto t) xs W'
  | .panic _, _, _ => False
  | .outgrown, _, _ => False

section
variable {α : Type} {P : Program} {n : Nat} {encs : α → Array Value} {Kp : World → World → Prop} {I : List α → World → Prop} {Ix : Code → List α → World → Prop}

/-- One round. -/
theorem round_ownT {assign body : Code} {ps : Array Tmp} {tmps : Array Value} {fn : FuncId} {B : Nat} (r : Loop) (hr : r.state = .ready) (hpend : r.pending = none) (hrf : r.fn = fn) (hrt : r.tmps = tmps) (hrp : r.params = ps) (hra : r.assign = assign) (hrb : r.body = body)
    (hps : ∀ x, (encs x).size = ps.size) (hKt : ∀ {A B C : World}, Kp A B → Kp B C → Kp A C) (hKb : ∀ (W : World) (o : Obj) (r : Loop), W.heap[B + 1]? = some (.loop r) → Kp W (W.putObj (B + 1) o))
    (hI : OwnFrom B I) (hIx : ∀ c, OwnFrom B (Ix c)) (Ax : α → Act → World → Prop) (hAx : ∀ x a', OwnFrom B (fun (_ : Unit) W => Ax x a' W)) {pre : List α} {x : α} {W : World} (hrec : Rcd (B + 1) B r W) (hMW : B + 2 ≤ W.heap.size)
    (hassign : ∀ (K : Act → World → Prop), (∀ a' W', Keep2 B W W' → Kp W W' → I pre W' → Ax x a' W' → K a' W') →
      assign.wpIn (Fence.wide.inRound (B + 1)) n P (Exit.then K (fun _ _ _ => False)) { tmps := (ps.zip (encs x)).foldl (fun t (p, v) => t.setIfInBounds p v) tmps, defers := [] } W)
    (hbody : ∀ (a' : Act) (W : World), B + 2 ≤ W.heap.size → (∃ r : Loop, Rcd (B + 1) B r W) → I pre W → Ax x a' W → body.wpIn (Fence.wide.inRound (B + 1)) n P (LeftT B Kp I Ix (pre ++ [x]) W) a' W) :
    Go.Proofs.YtahjaejepkgfdaaGreatDoor.Yields P (B + 1) (encs x) W fun e W' => (W.heap.size ≤ W'.heap.size ∧ Kp W W') ∧ ((e = .returned (.bool true) ∧ I (pre ++ [x]) W' ∧ Rcd (B + 1) B r W') ∨ (e = .returned (.bool false) ∧ ∃ c, Ix c (pre ++ [x]) W' ∧ Rcd (B + 1) B { r with state := .done, pending := some c } W')) := by
  have hy := run_yield (P := P) (args := encs x) hrec.lp (by rw [hrp]; exact hps x)
  rw [hrf, hrt, hrp, hra, hrb] at hy
  refine ⟨fn, _, assign, body, hy, round_wide (roundIn_of_wpIn (n := n) trivial (hassign _ ?_))⟩
  intro a' W1 hk1 hp1 hi1 hax
  have r1 := hrec.kept2 hk1
  refine ⟨_, run_beginRound r1.lp hr, ?_⟩
  have r2 : Rcd (B + 1) B { r with state := .busy } (W1.putObj (B + 1) (.loop { r with state := .busy })) := r1.put (by omega)
  refine wpIn_mono (hbody a' _ (by have := hk1.size; simp; omega) ⟨_, r2⟩ (hI.putObj _ hi1 (Nat.le_succ _) r1.lp rfl) ((hAx x a').putObj (s := ()) _ hax (Nat.le_succ _) r1.lp rfl)) ?_
  have big : ∀ (W3 : World) (o : Obj), (Keep2 B (W1.putObj (B + 1) (.loop { r with state := .busy })) W3 ∧ Kp (W1.putObj (B + 1) (.loop { r with state := .busy })) W3) →
      Rcd (B + 1) B { r with state := .busy } W3 ∧ (W.heap.size ≤ (W3.putObj (B + 1) o).heap.size ∧ Kp W (W3.putObj (B + 1) o)) := by
    intro W3 o ⟨k3, p3⟩
    refine ⟨r2.kept2 k3, ?_, hKt hp1 (hKt (hKb _ _ _ r1.lp) (hKt p3 (hKb _ _ _ (r2.kept2 k3).lp)))⟩
    have h1 := hk1.size
    have h3 := k3.size
    simp at h3 ⊢
    omega
  rintro e a3 W3 hp
  cases e with
  | normal =>
    obtain ⟨hk3, hi3⟩ := hp
    obtain ⟨r3, hb⟩ := big W3 _ hk3
    refine ⟨_, _, run_endRound none r3.lp, hb, Or.inl ⟨rfl, hI.putObj _ hi3 (Nat.le_succ _) r3.lp rfl, ?_⟩⟩
    have := r3.put (r' := { { r with state := .busy } with state := if (none : Option Code).isNone then .ready else .done, pending := none }) (by omega)
    have e : ({ { r with state := .busy } with state := if (none : Option Code).isNone then .ready else .done, pending := none } : Loop) = r := by cases r; simp_all
    rw [e] at this ⊢
    exact this
  | ret =>
    obtain ⟨hk3, hi3⟩ := hp
    obtain ⟨r3, hb⟩ := big W3 _ hk3
    exact ⟨_, _, run_endRound (some .ret) r3.lp, hb, Or.inr ⟨rfl, .ret, (hIx _).putObj _ hi3 (Nat.le_succ _) r3.lp rfl, r3.put (by omega)⟩⟩
  | exit id =>
    obtain ⟨hk3, hi3⟩ := hp
    obtain ⟨r3, hb⟩ := big W3 _ hk3
    exact ⟨_, _, run_endRound (some (.exit id)) r3.lp, hb, Or.inr ⟨rfl, .exit id, (hIx _).putObj _ hi3 (Nat.le_succ _) r3.lp rfl, r3.put (by omega)⟩⟩
  | goto t =>
    obtain ⟨hk3, hi3⟩ := hp
    obtain ⟨r3, hb⟩ := big W3 _ hk3
    exact ⟨_, _, run_endRound (some (.goto t)) r3.lp, hb, Or.inr ⟨rfl, .goto t, (hIx _).putObj _ hi3 (Nat.le_succ _) r3.lp rfl, r3.put (by omega)⟩⟩
  | panic ch => exact hp.elim
  | outgrown => exact hp.elim

/-- The loop. -/
theorem range_ownT {g : Operand} {ps : Array Tmp} {assign body : Code} {Q : Exit → Act → World → Prop} {a : Act} {w : World} {gf : Nat} {lb : Array Value} (hg : a.eval g = .func (.func gf) #[] lb) (eg : ∀ args w, (callFunc gf args).run P w = .ok (.enter gf args) w)
    {Kq : Nat → World → World → Prop} {S Sp : List α → Prop} {N : Nat} {w0 : World} (hseq : SeqT P gf lb encs Kq S Sp N w0) (hKq : ∀ {A B : World}, Kp A B → Kq (w.heap.size + 2) A B) (hb0 : Below w0.heap.size w0 w) (hps : ∀ x, (encs x).size = ps.size) (hKt : ∀ {A B C : World}, Kp A B → Kp B C → Kp A C) (hKb : ∀ (W : World) (o : Obj) (r : Loop), W.heap[w.heap.size + 1]? = some (.loop r) → Kp W (W.putObj (w.heap.size + 1) o))
    (I : List α → World → Prop) (Ix : Code → List α → World → Prop) (hI : OwnFrom w.heap.size I) (hIx : ∀ c, OwnFrom w.heap.size (Ix c)) (h0 : ∀ V, Below w.heap.size w V → w.heap.size + 2 ≤ V.heap.size → I [] V) (Ax : α → Act → World → Prop) (hAx : ∀ x a', OwnFrom w.heap.size (fun (_ : Unit) W => Ax x a' W))
    (hassign : ∀ (l : Nat) (pre : List α) (x : α) (W : World) (K : Act → World → Prop), w.heap.size + 2 ≤ W.heap.size → (∃ r : Loop, Rcd (w.heap.size + 1) w.heap.size r W) → I pre W → (∀ a' W', Keep2 w.heap.size W W' → Kp W W' → I pre W' → Ax x a' W' → K a' W') →
      assign.wpIn (Fence.wide.inRound l) 0 P (Exit.then K (fun _ _ _ => False)) { tmps := (ps.zip (encs x)).foldl (fun t (p, v) => t.setIfInBounds p v) a.tmps, defers := [] } W)
    (hbody : ∀ (l : Nat) (pre : List α) (x : α) (a' : Act) (W : World), w.heap.size + 2 ≤ W.heap.size → (∃ r : Loop, Rcd (w.heap.size + 1) w.heap.size r W) → I pre W → Ax x a' W → pre.length < N → body.wpIn (Fence.wide.inRound l) 0 P (LeftT w.heap.size Kp I Ix (pre ++ [x]) W) a' W)
    (hdone : ∀ (D : Nat) (xs : List α) (W : World), w.heap.size ≤ D → S xs → I xs W → W.heap[D]? = some (.deferred (some [])) → Q .normal { a with defers := { target := .collected D, args := #[] } :: a.defers } W)
    (hstop : ∀ (D : Nat) (c : Code) (pre : List α) (W : World), w.heap.size ≤ D → Sp pre → Ix c pre W → W.heap[D]? = some (.deferred (some [])) → c.wpIn Fence.wide n P Q { a with defers := { target := .collected D, args := #[] } :: a.defers } W) :
    (Code.rangeFunc g ps assign body).wpIn Fence.wide n P Q a w := by
  refine wpIn_rangeFunc ?_
  intro fn _
  obtain ⟨r, hr⟩ : ∃ r : Loop, r = { state := .ready, pending := none, fn, tmps := a.tmps, params := ps, assign, body, defers := w.heap.size } := ⟨_, rfl⟩
  obtain ⟨z, z1, z2⟩ := alloc2 w (.deferred (some [])) (.loop r)
  have hR0 : Rcd (w.heap.size + 1) w.heap.size r ((w.alloc (.deferred (some []))).alloc (.loop r)) := ⟨z2, z1⟩
  have hBw : Below w.heap.size w ((w.alloc (.deferred (some []))).alloc (.loop r)) := ((Below.refl _ w).alloc (Nat.le_refl _) _).alloc (by simp) _
  have hB0 : Below w0.heap.size w0 ((w.alloc (.deferred (some []))).alloc (.loop r)) := hb0.trans (hBw.mono hb0.size)
  refine ⟨w.heap.size + 1, [{ target := .collected w.heap.size, args := #[] }], (w.alloc (.deferred (some []))).alloc (.loop r), { target := .fn (.func gf) lb, args := #[.func (.yield (w.heap.size + 1)) #[] #[]] }, (w.alloc (.deferred (some []))).alloc (.loop r), gf,
    #[.func (.yield (w.heap.size + 1)) #[] #[]] ++ lb, (w.alloc (.deferred (some []))).alloc (.loop r), by rw [hr]; exact run_enterLoop_outer _ _ _ _ _, ?_, (fun _ _ => trivial), ?_, (fun h => by cases h), ?_⟩
  · simp only [resolve, hg]
    simp [go_sem]
  · simp [invoke, go_sem, eg]
  generalize (w.alloc (.deferred (some []))).alloc (.loop r) = W1 at *
  have hcall := hseq (w.heap.size + 1) (fun pre W => I pre W ∧ Rcd (w.heap.size + 1) w.heap.size r W)
    (fun pre W => ∃ c, Ix c pre W ∧ Rcd (w.heap.size + 1) w.heap.size { r with state := .done, pending := some c } W) W1 hB0
    (fun s A C row hs hg' hr' => ⟨hI s A C row hs.1 hg' (fun q e => ⟨by have := (hr' q e).1; omega, (hr' q e).2⟩), Rcd.own (B := W1.heap.size) (by omega) (by omega) () A C row hs.2 hg' hr'⟩)
    (fun s A C row hs hg' hr' => by
      obtain ⟨c, hc, hrc⟩ := hs
      exact ⟨c, hIx c s A C row hc hg' (fun q e => ⟨by have := (hr' q e).1; omega, (hr' q e).2⟩), Rcd.own (B := W1.heap.size) (by omega) (by omega) () A C row hrc hg' hr'⟩)
    (by
      intro pre x V hMV hJ hlen
      obtain ⟨hi, hrec⟩ := hJ
      have hround := round_ownT (n := 0) (P := P) (encs := encs) (Kp := Kp) (I := I) (Ix := Ix) (ps := ps) (assign := assign) (body := body) (tmps := a.tmps) (fn := fn) (B := w.heap.size) r (by rw [hr]) (by rw [hr]) (by rw [hr]) (by rw [hr]) (by rw [hr]) (by rw [hr]) (by rw [hr]) hps hKt hKb hI hIx Ax hAx (pre := pre) (x := x) hrec (by omega)
        (fun K hK => hassign _ pre x V K (by omega) ⟨_, hrec⟩ hi hK) (fun a' W hMW hrc' hi' hax => hbody _ pre x a' W hMW hrc' hi' hax hlen)
      obtain ⟨f', t', as', bo', hy, hR⟩ := hround
      refine ⟨f', t', as', bo', hy, hR.mono ?_⟩
      rintro e V' ⟨⟨hk, hp⟩, hres⟩
      refine ⟨⟨hk, by rw [z]; exact hKq hp⟩, ?_⟩
      rcases hres with ⟨he, hi', hr'⟩ | ⟨he, hx⟩
      · exact Or.inl ⟨he, hi', hr'⟩
      · exact Or.inr ⟨he, hx⟩)
    (fun V hV => ⟨h0 V (hBw.trans (hV.mono (by omega))) (by have := hV.size; omega), ⟨(hV.block _ (by omega)).trans hR0.lp, (hV.block _ (by omega)).trans hR0.df⟩⟩)
  refine (callsIn_wide.2 (callsIn_wide.1 hcall)).mono ?_
  rintro e W2 ⟨⟨v, rfl⟩, (⟨xs, hS, hi, hrc⟩ | ⟨pre, hSp, c, hi, hrc⟩)⟩
  · refine ⟨_, _, run_endLoop hrc.lp (by rw [hr]; simp), ?_⟩
    rw [show r.pending = none by rw [hr]]
    exact hdone _ xs _ (Nat.le_refl _) hS (hI.putObj _ hi (Nat.le_succ _) hrc.lp rfl) ((World.putObj_heap_other (by omega)).trans hrc.df)
  · exact ⟨_, _, run_endLoop hrc.lp (by simp), hstop _ c pre _ (Nat.le_refl _) hSp ((hIx c).putObj _ hi (Nat.le_succ _) hrc.lp rfl) ((World.putObj_heap_other (by omega)).trans hrc.df)⟩
end

section
variable {α : Type} {P : Program} {n : Nat} {encs : α → Array Value} {Kp : World → World → Prop}
/-- The loop. -/
theorem range_ownM {g : Operand} {ps : Array Tmp} {assign body : Code} {Q : Exit → Act → World → Prop} {a : Act} {w : World} {gf : Nat} {lb : Array Value} (hg : a.eval g = .func (.func gf) #[] lb) (eg : ∀ args w, (callFunc gf args).run P w = .ok (.enter gf args) w)
    {Kq : Nat → World → World → Prop} {S Sp : List α → Prop} {N : Nat} {w0 : World} (hseq : SeqM P gf lb encs Kq S Sp N w0) (hKq : ∀ {A B : World}, Kp A B → Kq (w.heap.size + 2) A B) (hb0 : Below w0.heap.size w0 w) (hps : ∀ x, (encs x).size = ps.size) (hKt : ∀ {A B C : World}, Kp A B → Kp B C → Kp A C) (hKb : ∀ (W : World) (o : Obj) (r : Loop), W.heap[w.heap.size + 1]? = some (.loop r) → Kp W (W.putObj (w.heap.size + 1) o))
    (I : Nat → List α → World → Prop) (Ix : Nat → Code → List α → World → Prop) (hI : ∀ M, OwnFrom w.heap.size (I M)) (hIx : ∀ M c, OwnFrom w.heap.size (Ix M c)) (hIF : ∀ M, FreeM (w.heap.size + 2) M (I M)) (hIxF : ∀ M c, FreeM (w.heap.size + 2) M (Ix M c)) (h0 : ∀ V, Below w.heap.size w V → w.heap.size + 2 ≤ V.heap.size → I V.heap.size [] V) (Ax : α → Act → World → Prop) (hAx : ∀ x a', OwnFrom w.heap.size (fun (_ : Unit) W => Ax x a' W))
    (hassign : ∀ (M l : Nat) (pre : List α) (x : α) (W : World) (K : Act → World → Prop), w.heap.size + 2 ≤ M → M ≤ W.heap.size → I M pre W → (∀ a' W', KeepM w.heap.size M W W' → Kp W W' → I M pre W' → Ax x a' W' → K a' W') →
      assign.wpIn (Fence.wide.inRound l) 0 P (Exit.then K (fun _ _ _ => False)) { tmps := (ps.zip (encs x)).foldl (fun t (p, v) => t.setIfInBounds p v) a.tmps, defers := [] } W)
    (hbody : ∀ (M l : Nat) (pre : List α) (x : α) (a' : Act) (W : World), w.heap.size + 2 ≤ M → M ≤ W.heap.size → I M pre W → Ax x a' W → pre.length < N → body.wpIn (Fence.wide.inRound l) 0 P (Left w.heap.size M Kp (I M) (Ix M) (pre ++ [x]) W) a' W)
    (hdone : ∀ (M D : Nat) (xs : List α) (W : World), w.heap.size ≤ D → S xs → I M xs W → W.heap[D]? = some (.deferred (some [])) → Q .normal { a with defers := { target := .collected D, args := #[] } :: a.defers } W)
    (hstop : ∀ (M D : Nat) (c : Code) (pre : List α) (W : World), w.heap.size ≤ D → Sp pre → Ix M c pre W → W.heap[D]? = some (.deferred (some [])) → c.wpIn Fence.wide n P Q { a with defers := { target := .collected D, args := #[] } :: a.defers } W) :
    (Code.rangeFunc g ps assign body).wpIn Fence.wide n P Q a w := by
  refine wpIn_rangeFunc ?_
  intro fn _
  obtain ⟨r, hr⟩ : ∃ r : Loop, r = { state := .ready, pending := none, fn, tmps := a.tmps, params := ps, assign, body, defers := w.heap.size } := ⟨_, rfl⟩
  obtain ⟨z, z1, z2⟩ := alloc2 w (.deferred (some [])) (.loop r)
  have hR0 : Rcd (w.heap.size + 1) w.heap.size r ((w.alloc (.deferred (some []))).alloc (.loop r)) := ⟨z2, z1⟩
  have hBw : Below w.heap.size w ((w.alloc (.deferred (some []))).alloc (.loop r)) := ((Below.refl _ w).alloc (Nat.le_refl _) _).alloc (by simp) _
  have hB0 : Below w0.heap.size w0 ((w.alloc (.deferred (some []))).alloc (.loop r)) := hb0.trans (hBw.mono hb0.size)
  refine ⟨w.heap.size + 1, [{ target := .collected w.heap.size, args := #[] }], (w.alloc (.deferred (some []))).alloc (.loop r), { target := .fn (.func gf) lb, args := #[.func (.yield (w.heap.size + 1)) #[] #[]] }, (w.alloc (.deferred (some []))).alloc (.loop r), gf,
    #[.func (.yield (w.heap.size + 1)) #[] #[]] ++ lb, (w.alloc (.deferred (some []))).alloc (.loop r), by rw [hr]; exact run_enterLoop_outer _ _ _ _ _, ?_, (fun _ _ => trivial), ?_, (fun h => by cases h), ?_⟩
  · simp only [resolve, hg]
    simp [go_sem]
  · simp [invoke, go_sem, eg]
  generalize (w.alloc (.deferred (some []))).alloc (.loop r) = W1 at *
  have hcall := hseq (w.heap.size + 1) (fun M pre W => I M pre W ∧ Rcd (w.heap.size + 1) w.heap.size r W)
    (fun M pre W => ∃ c, Ix M c pre W ∧ Rcd (w.heap.size + 1) w.heap.size { r with state := .done, pending := some c } W) W1 hB0
    (fun M s A C row hs hg' hr' => ⟨hI M s A C row hs.1 hg' (fun q e => ⟨by have := (hr' q e).1; omega, (hr' q e).2⟩), Rcd.own (B := W1.heap.size) (by omega) (by omega) () A C row hs.2 hg' hr'⟩)
    (fun M s A C row hs hg' hr' => by
      obtain ⟨c, hc, hrc⟩ := hs
      exact ⟨c, hIx M c s A C row hc hg' (fun q e => ⟨by have := (hr' q e).1; omega, (hr' q e).2⟩), Rcd.own (B := W1.heap.size) (by omega) (by omega) () A C row hrc hg' hr'⟩)
    (fun M s A C hs hc hm => ⟨hIF M s A C hs.1 (by rw [z] at hc; exact hc) hm, ⟨(hc.block _ (Array.getElem?_eq_some_iff.1 hs.2.lp).1 (by omega)).trans hs.2.lp, (hc.block _ (Array.getElem?_eq_some_iff.1 hs.2.df).1 (by omega)).trans hs.2.df⟩⟩)
    (fun M s A C hs hc hm => by
      obtain ⟨c, h1, h2⟩ := hs
      exact ⟨c, hIxF M c s A C h1 (by rw [z] at hc; exact hc) hm, ⟨(hc.block _ (Array.getElem?_eq_some_iff.1 h2.lp).1 (by omega)).trans h2.lp, (hc.block _ (Array.getElem?_eq_some_iff.1 h2.df).1 (by omega)).trans h2.df⟩⟩)
    (by
      intro M pre x V hM hMV hJ hlen
      obtain ⟨hi, hrec⟩ := hJ
      have hround := round_own (n := 0) (P := P) (encs := encs) (Kp := Kp) (I := I M) (Ix := Ix M) (ps := ps) (assign := assign) (body := body) (tmps := a.tmps) (fn := fn) (B := w.heap.size) (M := M) r (by rw [hr]) (by rw [hr]) (by rw [hr]) (by rw [hr]) (by rw [hr]) (by rw [hr]) (by rw [hr]) (by omega) hps hKt hKb (hI M) (hIx M) Ax hAx (pre := pre) (x := x) hrec hMV
        (fun K hK => hassign M _ pre x V K (by omega) hMV hi hK) (fun a' W hMW hi' hax => hbody M _ pre x a' W (by omega) hMW hi' hax hlen)
      obtain ⟨f', t', as', bo', hy, hR⟩ := hround
      refine ⟨f', t', as', bo', hy, hR.mono ?_⟩
      rintro e V' ⟨⟨hk, hp⟩, hres⟩
      refine ⟨⟨hk.sub (by omega) (Nat.le_refl _), by rw [z]; exact hKq hp⟩, ?_⟩
      rcases hres with ⟨he, hi', hr'⟩ | ⟨he, hx⟩
      · exact Or.inl ⟨he, hi', hr'⟩
      · exact Or.inr ⟨he, hx⟩)
    (fun V hV => ⟨h0 V (hBw.trans (hV.mono (by omega))) (by have := hV.size; omega), ⟨(hV.block _ (by omega)).trans hR0.lp, (hV.block _ (by omega)).trans hR0.df⟩⟩)
  refine (callsIn_wide.2 (callsIn_wide.1 hcall)).mono ?_
  rintro e W2 ⟨⟨v, rfl⟩, (⟨M, xs, hS, hi, hrc⟩ | ⟨M, pre, hSp, c, hi, hrc⟩)⟩
  · refine ⟨_, _, run_endLoop hrc.lp (by rw [hr]; simp), ?_⟩
    rw [show r.pending = none by rw [hr]]
    exact hdone M _ xs _ (Nat.le_refl _) hS ((hI M).putObj _ hi (Nat.le_succ _) hrc.lp rfl) ((World.putObj_heap_other (by omega)).trans hrc.df)
  · exact ⟨_, _, run_endLoop hrc.lp (by simp), hstop M _ c pre _ (Nat.le_refl _) hSp ((hIx M c).putObj _ hi (Nat.le_succ _) hrc.lp rfl) ((World.putObj_heap_other (by omega)).trans hrc.df)⟩
end

end Go.Proofs.YtahjaejepkgfdaaGreatDoor

namespace Go.Proofs.YtahjaejepkgfdaaGreatDoor
open Go.RowKit Go.Shelf
attribute [local go_sem] Oper.semAt_some

/-- Blocks that a round keeps. -/
def KeepS (K : Nat → Prop) (W W' : World) : Prop := ∀ k, K k → W'.heap[k]? = W.heap[k]?
theorem KeepS.trans {K : Nat → Prop} {A B C : World} (h : KeepS K A B) (k : KeepS K B C) : KeepS K A C := fun i hi => (k i hi).trans (h i hi)
theorem KeepS.cell {K : Nat → Prop} {W W' : World} (h : KeepS K W W') {p : Addr} (hp : K p.block) : W'.cell? p = W.cell? p := World.cell?_of_block (h _ hp)

/-- Piece i of 64 bytes. -/
def encPc (b off cap : Nat) {K : Nat} (x : Fin K) : Array Value := #[.slice (some ⟨b, off + 64 * x.val, none⟩) 64 (cap - 64 * x.val)]

end Go.Proofs.YtahjaejepkgfdaaGreatDoor
