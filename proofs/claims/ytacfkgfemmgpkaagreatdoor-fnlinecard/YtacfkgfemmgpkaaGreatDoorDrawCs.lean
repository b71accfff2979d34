/- Calls that are drawn, one behind the other: what is told of their row. -/
import Derived.Test.YtacfkgfemmgpkaaGreatDoorDrawC2
namespace Go.Proofs.YtacfkgfemmgpkaaGreatDoor
open Go.RowKit

/-- v is a row of one's own of at most N calls of bounded texts, since w0 nothing but the source has turned, at most A numbers are drawn. -/
def Cs (S : Sc) (w0 w : World) (v : Value) (A N : Nat) : Prop := ∃ g cp cs, v = .slice (some ⟨g, 0, none⟩) (cs : List Lst).length cp ∧ OwnC w w0.heap.size v cs ∧ (∀ s ∈ cs, OkC s) ∧ cs.length ≤ N ∧ En S w0 w A
theorem Cs.en {S : Sc} {w0 w : World} {v : Value} {A N : Nat} (h : Cs S w0 w v A N) : En S w0 w A := by obtain ⟨_, _, _, _, _, _, _, h⟩ := h; exact h
theorem Cs.self {S : Sc} {w0 w : World} {v : Value} {A N : Nat} (h : Cs S w0 w v A N) : En S w w A := h.en.self
theorem Cs.mono {S : Sc} {w0 w : World} {v : Value} {A N A' N' : Nat} (h : Cs S w0 w v A N) (hA : A ≤ A') (hN : N ≤ N') : Cs S w0 w v A' N' := by
  obtain ⟨g, cp, cs, hv, ho, hk, hn, he⟩ := h
  exact ⟨g, cp, cs, hv, ho, hk, by omega, he.mono hA⟩
theorem Cs.step {S : Sc} {w0 w w' : World} {v : Value} {A N A' : Nat} (h : Cs S w0 w v A N) (k : En S w w' A') : Cs S w0 w' v A' N := by
  obtain ⟨g, cp, cs, hv, ho, hk, hn, he⟩ := h
  have := he.top
  exact ⟨g, cp, cs, hv, ho.en k (by omega), hk, hn, he.join k⟩
theorem Cs.keep {S : Sc} {w0 w w' : World} {v : Value} {A N : Nat} (h : Cs S w0 w v A N) (c : Chg 0 0 w w') : Cs S w0 w' v A N := by
  obtain ⟨g, cp, cs, hv, ho, hk, hn, he⟩ := h
  exact ⟨g, cp, cs, hv, ho.chg c (by omega), hk, hn, he.keep c⟩
theorem Cs.alloc {S : Sc} {w0 w : World} {v : Value} {A N : Nat} (h : Cs S w0 w v A N) (o : Obj) : Cs S w0 (w.alloc o) v A N := h.keep (Chg.alloc (Chg.refl 0 0 w) o)
theorem Cs.up {S : Sc} {w0 w w' : World} {v : Value} {A A' N : Nat} (h : En S w0 w A) (k : Cs S w w' v A' N) : Cs S w0 w' v A' N := by
  obtain ⟨g, cp, cs, hv, ho, hk, hn, he⟩ := k
  exact ⟨g, cp, cs, hv, ho.low h.size, hk, hn, h.join he⟩
theorem Cs.nil {S : Sc} {w0 w : World} {A : Nat} (h : En S w0 w A) : Cs S w0 (w.alloc (.cells #[] 29)) (.slice (some ⟨w.heap.size, 0, none⟩) 0 0) A 0 :=
  ⟨_, _, [], rfl, (OwnC.nil w).low h.size, fun _ hs => absurd hs List.not_mem_nil, Nat.le_refl _, h.alloc _⟩

/-- A text of one letter. -/
theorem letter_run (W : World) (x : Int) : (convert 22 9 (.slice (some ⟨W.heap.size, 0, none⟩) 1 1)).run Tryz.prog (W.alloc (.cells #[.int .u8 x] 5)) = .ok (.string (strOfNums [x])) (W.alloc (.cells #[.int .u8 x] 5)) := by
  have h := row_view (w := W.alloc (.cells #[.int .u8 x] 5)) (b := W.heap.size) (xs := [x]) (t := 5) (heap_new W _) 0 1 1 (by simp) (by simp) (Nat.le_refl _)
  exact h.str
theorem letter_run2 (W : World) (o : Obj) (x : Int) : (convert 22 9 (.slice (some ⟨W.heap.size + 1, 0, none⟩) 1 1)).run Tryz.prog ((W.alloc o).alloc (.cells #[.int .u8 x] 5)) = .ok (.string (strOfNums [x])) ((W.alloc o).alloc (.cells #[.int .u8 x] 5)) := by
  have := letter_run (W.alloc o) x
  rw [show (W.alloc o).heap.size = W.heap.size + 1 by simp] at this
  exact this
theorem letter_size (x : Int) : (strOfNums [x]).size = 1 := by rw [strOfNums_size]; rfl

/-- append of 1 call(s). -/
theorem wpList_cs1 {ops : Array Oper} {rest : List Oper} {o : Oper} {a : Act} {S : Sc} {w0 W : World} {v : Value} {A N : Nat} {Q : Exit → Act → World → Prop} {k0 h0 o0 z0 : Int} {p0 t0 d0 : ByteArray} (hgd : o.guard = none) (s x : Operand)
    (ho : o.op = .call { callee := .builtin .append, args := #[s, x], argTypes := #[25, 25] }) (hs : a.eval s = v) (hC : Cs S w0 W v A N) {b : Nat} (hx : a.eval x = .slice (some ⟨b, 0, none⟩) 1 1) (hb : b = W.heap.size) (hN : N ≤ 80000) (q0 : p0.size ≤ 3000 ∧ t0.size ≤ 3000 ∧ d0.size ≤ 3000)
    (h : ∀ v' w', Cs S w0 w' v' A (N + 1) → wpList Tryz.prog ops Q rest (a.put o.dst v') w') : wpList Tryz.prog ops Q (o :: rest) a (W.alloc (.cells #[.int .i64 k0, .string p0, .string t0, .int .i64 h0, .int .i64 o0, .int .i64 z0, .string d0] 29)) := by
  obtain ⟨g, cp, cs, hv, hown, hk, hn, he⟩ := hC
  have hz := he.size
  subst hb
  refine wpList_app_c1 hgd s x ho w0.heap.size v cs hs hown hz hx (by omega) ?_
  intro g' cp' w' r i1 i2
  refine h _ w' ⟨g', cp', cs ++ [⟨0, k0, p0, t0, h0, o0, z0, d0, []⟩], by rw [List.length_append]; rfl, i1, ?_, by rw [List.length_append]; simp; omega, (he.alloc _).own i2 (Nat.le_refl _)⟩
  intro q hq
  rcases List.mem_append.1 hq with hq | hq
  · exact hk q hq
  · simp only [List.mem_cons, List.not_mem_nil, or_false] at hq
    subst hq
    exact q0

/-- append of 2 call(s). -/
theorem wpList_cs2 {ops : Array Oper} {rest : List Oper} {o : Oper} {a : Act} {S : Sc} {w0 W : World} {v : Value} {A N : Nat} {Q : Exit → Act → World → Prop} {k0 h0 o0 z0 : Int} {p0 t0 d0 : ByteArray} {k1 h1 o1 z1 : Int} {p1 t1 d1 : ByteArray} (hgd : o.guard = none) (s x : Operand)
    (ho : o.op = .call { callee := .builtin .append, args := #[s, x], argTypes := #[25, 25] }) (hs : a.eval s = v) (hC : Cs S w0 W v A N) {b : Nat} (hx : a.eval x = .slice (some ⟨b, 0, none⟩) 2 2) (hb : b = W.heap.size) (hN : N ≤ 80000) (q0 : p0.size ≤ 3000 ∧ t0.size ≤ 3000 ∧ d0.size ≤ 3000) (q1 : p1.size ≤ 3000 ∧ t1.size ≤ 3000 ∧ d1.size ≤ 3000)
    (h : ∀ v' w', Cs S w0 w' v' A (N + 2) → wpList Tryz.prog ops Q rest (a.put o.dst v') w') : wpList Tryz.prog ops Q (o :: rest) a (W.alloc (.cells #[.int .i64 k0, .string p0, .string t0, .int .i64 h0, .int .i64 o0, .int .i64 z0, .string d0, .int .i64 k1, .string p1, .string t1, .int .i64 h1, .int .i64 o1, .int .i64 z1, .string d1] 29)) := by
  obtain ⟨g, cp, cs, hv, hown, hk, hn, he⟩ := hC
  have hz := he.size
  subst hb
  refine wpList_app_c2 hgd s x ho w0.heap.size v cs hs hown hz hx (by omega) ?_
  intro g' cp' w' r i1 i2
  refine h _ w' ⟨g', cp', cs ++ [⟨0, k0, p0, t0, h0, o0, z0, d0, []⟩, ⟨0, k1, p1, t1, h1, o1, z1, d1, []⟩], by rw [List.length_append]; rfl, i1, ?_, by rw [List.length_append]; simp; omega, (he.alloc _).own i2 (Nat.le_refl _)⟩
  intro q hq
  rcases List.mem_append.1 hq with hq | hq
  · exact hk q hq
  · simp only [List.mem_cons, List.not_mem_nil, or_false] at hq
    rcases hq with rfl | rfl
    · exact q0
    · exact q1

/-- append of 3 call(s). -/
theorem wpList_cs3 {ops : Array Oper} {rest : List Oper} {o : Oper} {a : Act} {S : Sc} {w0 W : World} {v : Value} {A N : Nat} {Q : Exit → Act → World → Prop} {k0 h0 o0 z0 : Int} {p0 t0 d0 : ByteArray} {k1 h1 o1 z1 : Int} {p1 t1 d1 : ByteArray} {k2 h2 o2 z2 : Int} {p2 t2 d2 : ByteArray} (hgd : o.guard = none) (s x : Operand)
    (ho : o.op = .call { callee := .builtin .append, args := #[s, x], argTypes := #[25, 25] }) (hs : a.eval s = v) (hC : Cs S w0 W v A N) {b : Nat} (hx : a.eval x = .slice (some ⟨b, 0, none⟩) 3 3) (hb : b = W.heap.size) (hN : N ≤ 80000) (q0 : p0.size ≤ 3000 ∧ t0.size ≤ 3000 ∧ d0.size ≤ 3000) (q1 : p1.size ≤ 3000 ∧ t1.size ≤ 3000 ∧ d1.size ≤ 3000) (q2 : p2.size ≤ 3000 ∧ t2.size ≤ 3000 ∧ d2.size ≤ 3000)
    (h : ∀ v' w', Cs S w0 w' v' A (N + 3) → wpList Tryz.prog ops Q rest (a.put o.dst v') w') : wpList Tryz.prog ops Q (o :: rest) a (W.alloc (.cells #[.int .i64 k0, .string p0, .string t0, .int .i64 h0, .int .i64 o0, .int .i64 z0, .string d0, .int .i64 k1, .string p1, .string t1, .int .i64 h1, .int .i64 o1, .int .i64 z1, .string d1, .int .i64 k2, .string p2, .string t2, .int .i64 h2, .int .i64 o2, .int .i64 z2, .string d2] 29)) := by
  obtain ⟨g, cp, cs, hv, hown, hk, hn, he⟩ := hC
  have hz := he.size
  subst hb
  refine wpList_app_c3 hgd s x ho w0.heap.size v cs hs hown hz hx (by omega) ?_
  intro g' cp' w' r i1 i2
  refine h _ w' ⟨g', cp', cs ++ [⟨0, k0, p0, t0, h0, o0, z0, d0, []⟩, ⟨0, k1, p1, t1, h1, o1, z1, d1, []⟩, ⟨0, k2, p2, t2, h2, o2, z2, d2, []⟩], by rw [List.length_append]; rfl, i1, ?_, by rw [List.length_append]; simp; omega, (he.alloc _).own i2 (Nat.le_refl _)⟩
  intro q hq
  rcases List.mem_append.1 hq with hq | hq
  · exact hk q hq
  · simp only [List.mem_cons, List.not_mem_nil, or_false] at hq
    rcases hq with rfl | rfl | rfl
    · exact q0
    · exact q1
    · exact q2

/-- The same at one operation. -/
theorem wp_cs1 {o : Oper} {a : Act} {S : Sc} {w0 W : World} {v : Value} {A N : Nat} {K : Act → World → Prop} {Q : Exit → Act → World → Prop} {k0 h0 o0 z0 : Int} {p0 t0 d0 : ByteArray} (s x : Operand)
    (ho : o.op = .call { callee := .builtin .append, args := #[s, x], argTypes := #[25, 25] }) (hs : a.eval s = v) (hC : Cs S w0 W v A N) {b : Nat} (hx : a.eval x = .slice (some ⟨b, 0, none⟩) 1 1) (hb : b = W.heap.size) (hN : N ≤ 80000) (q0 : p0.size ≤ 3000 ∧ t0.size ≤ 3000 ∧ d0.size ≤ 3000)
    (h : ∀ v' w', Cs S w0 w' v' A (N + 1) → K (a.put o.dst v') w') : o.wp Tryz.prog a (W.alloc (.cells #[.int .i64 k0, .string p0, .string t0, .int .i64 h0, .int .i64 o0, .int .i64 z0, .string d0] 29)) K Q := by
  obtain ⟨g, cp, cs, hv, hown, hk, hn, he⟩ := hC
  have hz := he.size
  subst hb
  obtain ⟨i, hi, hz0, hz1, hz2⟩ := info_parts Tryz.infoC
  have hown2 := hown.chg (Chg.alloc (Chg.refl 0 0 W) (.cells #[.int .i64 k0, .string p0, .string t0, .int .i64 h0, .int .i64 o0, .int .i64 z0, .string d0] 29)) (by omega)
  refine wp_append_own _ s x 25 ho w0.heap.size 29 i _ 7 80 Tryz.underlying25 hi hz0 hz1 hz2 rfl (by omega) v cs.length _ hs hown2 ⟨W.heap.size, 0, none⟩ 1 1 (cellsC [⟨0, k0, p0, t0, h0, o0, z0, d0, []⟩]) hx (cellsC_len _) ?_ ?_ (by unfold maxLen; omega) (by omega) (by simp; omega) ?_
  · intro j u hj
    rw [Go.WideShapes.add_plain, Nat.zero_add, Lib.cell_of_heap (heap_new W _)]
    simpa [cellsC] using hj
  · intro u hu
    simp [cellsC] at hu
    rcases hu with rfl | rfl | rfl | rfl | rfl | rfl | rfl <;> rfl
  · intro v' w' i1 i2 _
    obtain ⟨g', cp', rfl⟩ : ∃ g' cp', v' = .slice (some ⟨g', 0, none⟩) (cs.length + 1) cp' := by
      rcases i1.2 with ⟨_, h0⟩ | ⟨g', cap', cur, e', _⟩
      · omega
      · exact ⟨g', cap', e'⟩
    refine h _ w' ⟨g', cp', cs ++ [⟨0, k0, p0, t0, h0, o0, z0, d0, []⟩], by rw [List.length_append]; rfl, by unfold OwnC; rw [List.length_append, cellsC_app]; exact i1, ?_, by rw [List.length_append]; simp; omega, (he.alloc _).own (Chg.ofGrown i2 (fun g hg hlt => ⟨(World.ownsRow.lt hown g hg).1, hlt⟩)) (Nat.le_refl _)⟩
    intro q hq
    rcases List.mem_append.1 hq with hq | hq
    · exact hk q hq
    · simp only [List.mem_cons, List.not_mem_nil, or_false] at hq
      subst hq
      exact q0

end Go.Proofs.YtacfkgfemmgpkaaGreatDoor
