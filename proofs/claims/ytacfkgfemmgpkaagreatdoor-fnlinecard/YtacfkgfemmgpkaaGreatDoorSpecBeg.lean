/- Several short texts in one: CallRow, DrawFill, StrInj, L2Same, Mg, SpecBeg. -/
import Derived.Test.YtacfkgfemmgpkaaGreatDoorRowZ
import Derived.Test.YtacfkgfemmgpkaaGreatDoorTakeA
import Derived.Test.YtacfkgfemmgpkaaGreatDoorAppSeen
import Derived.Test.YtacfkgfemmgpkaaGreatDoorBld
import Derived.Test.YtacfkgfemmgpkaaGreatDoorStrSpec
import Derived.Deep.DeepCutAuto
import Derived.Lib.Bytes
import Derived.Deep.RegionWith
namespace Go.Proofs.YtacfkgfemmgpkaaGreatDoor
open Go.RowKit

theorem wpList_app_1b {ops : Array Oper} {rest : List Oper} {o : Oper} {a : Act} {W : World} {Q : Exit → Act → World → Prop} {x : Int} (hgd : o.guard = none) (s y : Operand)
    (ho : o.op = .call { callee := .builtin .append, args := #[s, y], argTypes := #[22, 22] }) (base : Nat) (v : Value) (xs : List Int) (hs : a.eval s = v) (hO : OwnB W base 5 v xs) (hb : base ≤ W.heap.size)
    (hy : a.eval y = .slice (some ⟨W.heap.size, 0, none⟩) 1 1) (hl : xs.length ≤ 1000000)
    (h : ∀ g cp w' r, OwnB w' base 5 (.slice (some ⟨g, 0, none⟩) (xs.length + 1) cp) (xs ++ [x]) → Chg base r (W.alloc (.cells #[.int .u8 x] 5)) w' → wpList Tryz.prog ops Q rest (a.put o.dst (.slice (some ⟨g, 0, none⟩) (xs.length + 1) cp)) w') :
    wpList Tryz.prog ops Q (o :: rest) a (W.alloc (.cells #[.int .u8 x] 5)) := by
  have cA : Chg 0 0 W (W.alloc (.cells #[.int .u8 x] 5)) := Chg.alloc (Chg.refl 0 0 W) _
  have VX : View (W.alloc (.cells #[.int .u8 x] 5)) W.heap.size (W.heap.size + 1) .u8 (.slice (some ⟨W.heap.size, 0, none⟩) 1 1) [x] := by
    have h := row_view (w := W.alloc (.cells #[.int .u8 x] 5)) (b := W.heap.size) (xs := [x]) (t := 5) (heap_new W _) 0 1 1 (by simp) (by simp) (Nat.le_refl _)
    exact h
  refine wpList_app_seen hgd s y ho base v xs hs (hO.chg cA (fun g' _ => by omega)) (by simp; omega) _ _ _ [x] hy VX (by simp) (by simp; omega) ?_
  intro v' w5 ho5 hc5
  obtain ⟨g', cap', rfl⟩ := OwnB.some_of ho5 (by simp)
  rw [List.length_append] at ho5 ⊢
  exact h g' cap' w5 _ ho5 hc5

/-- The cells of a call. -/
abbrev cK (s : Lst) : List Value := [.int .i64 s.ck, .string s.path, .string s.to', .int .i64 s.han, .int .i64 s.off, .int .i64 s.siz, .string s.data]
def cellsC (cs : List Lst) : List Value := cs.flatMap cK
def OwnC (w : World) (base : Nat) (v : Value) (cs : List Lst) : Prop := w.ownsRow base 29 7 v cs.length (cellsC cs)
theorem cellsC_app (a b : List Lst) : cellsC (a ++ b) = cellsC a ++ cellsC b := by unfold cellsC; rw [List.flatMap_append]
theorem cellsC_len (qs : List Lst) : (cellsC qs).length = qs.length * 7 := by
  induction qs with
  | nil => rfl
  | cons q r ih =>
    show (cK q ++ cellsC r).length = _
    rw [List.length_append, ih, List.length_cons]
    simp
    omega
theorem OwnC.lt {w : World} {base : Nat} {v : Value} {cs : List Lst} (h : OwnC w base v cs) : ∀ g, v.ownBlock = some g → base ≤ g ∧ g < w.heap.size := World.ownsRow.lt h
theorem OwnC.chg {w w' : World} {base l r : Nat} {v : Value} {cs : List Lst} (h : OwnC w base v cs) (c : Chg l r w w') (d : r ≤ base ∨ r ≤ l) : OwnC w' base v cs := by
  obtain ⟨h1, h2⟩ := h
  refine ⟨h1, ?_⟩
  rcases h2 with h2 | ⟨g, cap, cur, hv, hg, hh, rr⟩
  · exact Or.inl h2
  · exact Or.inr ⟨g, cap, cur, hv, hg, (c.block g (Array.getElem?_eq_some_iff.1 hh).1 (by omega)).trans hh, rr⟩
theorem OwnC.low {w : World} {base base' : Nat} {v : Value} {cs : List Lst} (h : OwnC w base v cs) (hb : base' ≤ base) : OwnC w base' v cs := by
  obtain ⟨h1, h2⟩ := h
  refine ⟨h1, ?_⟩
  rcases h2 with h2 | ⟨g, cap, cur, hv, hg, rr⟩
  · exact Or.inl h2
  · exact Or.inr ⟨g, cap, cur, hv, by omega, rr⟩
theorem OwnC.nil (w : World) : OwnC (w.alloc (.cells #[] 29)) w.heap.size (.slice (some ⟨w.heap.size, 0, none⟩) 0 0) [] := by
  have := World.ownsRow_lit (base := w.heap.size) (e := 29) (size := 7) w #[] 0 (Nat.le_refl _) (by unfold maxLen; omega) (by simp)
  simpa [OwnC, cellsC] using this
theorem Tryz.infoC : (Tryz.prog.info? 29).map (fun i => (i.zero, i.size, i.bytes)) = some (some (.agg #[.int .i64 0, .string ⟨#[]⟩, .string ⟨#[]⟩, .int .i64 0, .int .i64 0, .int .i64 0, .string ⟨#[]⟩]), 7, 80) := by kernel_rfl

/-- append of calls that a literal lays. -/
theorem wpList_app_cs {ops : Array Oper} {rest : List Oper} {o : Oper} {a : Act} {w : World} {Q : Exit → Act → World → Prop} (hgd : o.guard = none) (s x : Operand)
    (ho : o.op = .call { callee := .builtin .append, args := #[s, x], argTypes := #[25, 25] }) (base : Nat) (v : Value) (cs : List Lst) (hs : a.eval s = v) (hown : OwnC w base v cs) (hbase : base ≤ w.heap.size)
    (b c : Nat) (qs : List Lst) (hx : a.eval x = .slice (some ⟨b, 0, none⟩) qs.length c) (hc : ∀ j u, (cellsC qs)[j]? = some u → w.cell? ⟨b, j, none⟩ = some u) (hq : 0 < qs.length) (hk : cs.length + qs.length ≤ 100000)
    (h : ∀ g cp w' r, OwnC w' base (.slice (some ⟨g, 0, none⟩) (cs ++ qs).length cp) (cs ++ qs) → Chg base r w w' → wpList Tryz.prog ops Q rest (a.put o.dst (.slice (some ⟨g, 0, none⟩) (cs ++ qs).length cp)) w') : wpList Tryz.prog ops Q (o :: rest) a w := by
  obtain ⟨i, hi, hz0, hz1, hz2⟩ := info_parts Tryz.infoC
  refine wpList_append_own w hgd s x 25 ho base 29 i _ 7 80 Tryz.underlying25 hi hz0 hz1 hz2 rfl (by omega) v cs.length _ hs hown ⟨b, 0, none⟩ qs.length c (cellsC qs) hx ?_ ?_ ?_ (by unfold maxLen; omega) (by omega) hbase ?_
  · exact cellsC_len qs
  · intro j u hj
    rw [Go.WideShapes.add_plain, Nat.zero_add]
    exact hc j u hj
  · intro u hu
    unfold cellsC at hu
    rw [List.mem_flatMap] at hu
    obtain ⟨q, _, hq⟩ := hu
    simp at hq
    rcases hq with rfl | rfl | rfl | rfl | rfl | rfl | rfl <;> rfl
  · intro v' w' h1 h2 _
    obtain ⟨g', cap', e'⟩ : ∃ g cp, v' = .slice (some ⟨g, 0, none⟩) (cs ++ qs).length cp := by
      rcases h1.2 with ⟨_, h0⟩ | ⟨g', cap', cur, e', _⟩
      · omega
      · exact ⟨g', cap', by rw [e', List.length_append]⟩
    subst e'
    exact h g' cap' w' _ (by unfold OwnC; rw [List.length_append, cellsC_app]; rw [List.length_append] at h1; exact h1) (Chg.ofGrown h2 (fun g hg hlt => ⟨(World.ownsRow.lt hown g hg).1, hlt⟩))

/-- append of 1 call(s). -/
theorem wpList_app_c1 {ops : Array Oper} {rest : List Oper} {o : Oper} {a : Act} {W : World} {Q : Exit → Act → World → Prop} {k0 h0 o0 z0 : Int} {p0 t0 d0 : ByteArray} (hgd : o.guard = none) (s x : Operand)
    (ho : o.op = .call { callee := .builtin .append, args := #[s, x], argTypes := #[25, 25] }) (base : Nat) (v : Value) (cs : List Lst) (hs : a.eval s = v) (hown : OwnC W base v cs) (hbase : base ≤ W.heap.size)
    (hx : a.eval x = .slice (some ⟨W.heap.size, 0, none⟩) 1 1) (hk : cs.length ≤ 90000)
    (h : ∀ g cp w' r, OwnC w' base (.slice (some ⟨g, 0, none⟩) (cs.length + 1) cp) (cs ++ [⟨0, k0, p0, t0, h0, o0, z0, d0, []⟩]) → Chg base r (W.alloc (.cells #[.int .i64 k0, .string p0, .string t0, .int .i64 h0, .int .i64 o0, .int .i64 z0, .string d0] 29)) w' → wpList Tryz.prog ops Q rest (a.put o.dst (.slice (some ⟨g, 0, none⟩) (cs.length + 1) cp)) w') :
    wpList Tryz.prog ops Q (o :: rest) a (W.alloc (.cells #[.int .i64 k0, .string p0, .string t0, .int .i64 h0, .int .i64 o0, .int .i64 z0, .string d0] 29)) := by
  refine wpList_app_cs hgd s x ho base v cs hs (hown.chg (Chg.alloc (Chg.refl 0 0 W) _) (by omega)) (by simp; omega) W.heap.size 1 [⟨0, k0, p0, t0, h0, o0, z0, d0, []⟩] hx ?_ (by simp) (by simp; omega) ?_
  · intro j u hj
    rw [Lib.cell_of_heap (heap_new W _)]
    simpa [cellsC] using hj
  · intro g cp w' r h1 h2
    rw [List.length_append] at h1 ⊢
    exact h g cp w' r h1 h2

/-- append of 2 call(s). -/
theorem wpList_app_c2 {ops : Array Oper} {rest : List Oper} {o : Oper} {a : Act} {W : World} {Q : Exit → Act → World → Prop} {k0 h0 o0 z0 : Int} {p0 t0 d0 : ByteArray} {k1 h1 o1 z1 : Int} {p1 t1 d1 : ByteArray} (hgd : o.guard = none) (s x : Operand)
    (ho : o.op = .call { callee := .builtin .append, args := #[s, x], argTypes := #[25, 25] }) (base : Nat) (v : Value) (cs : List Lst) (hs : a.eval s = v) (hown : OwnC W base v cs) (hbase : base ≤ W.heap.size)
    (hx : a.eval x = .slice (some ⟨W.heap.size, 0, none⟩) 2 2) (hk : cs.length ≤ 90000)
    (h : ∀ g cp w' r, OwnC w' base (.slice (some ⟨g, 0, none⟩) (cs.length + 2) cp) (cs ++ [⟨0, k0, p0, t0, h0, o0, z0, d0, []⟩, ⟨0, k1, p1, t1, h1, o1, z1, d1, []⟩]) → Chg base r (W.alloc (.cells #[.int .i64 k0, .string p0, .string t0, .int .i64 h0, .int .i64 o0, .int .i64 z0, .string d0, .int .i64 k1, .string p1, .string t1, .int .i64 h1, .int .i64 o1, .int .i64 z1, .string d1] 29)) w' → wpList Tryz.prog ops Q rest (a.put o.dst (.slice (some ⟨g, 0, none⟩) (cs.length + 2) cp)) w') :
    wpList Tryz.prog ops Q (o :: rest) a (W.alloc (.cells #[.int .i64 k0, .string p0, .string t0, .int .i64 h0, .int .i64 o0, .int .i64 z0, .string d0, .int .i64 k1, .string p1, .string t1, .int .i64 h1, .int .i64 o1, .int .i64 z1, .string d1] 29)) := by
  refine wpList_app_cs hgd s x ho base v cs hs (hown.chg (Chg.alloc (Chg.refl 0 0 W) _) (by omega)) (by simp; omega) W.heap.size 2 [⟨0, k0, p0, t0, h0, o0, z0, d0, []⟩, ⟨0, k1, p1, t1, h1, o1, z1, d1, []⟩] hx ?_ (by simp) (by simp; omega) ?_
  · intro j u hj
    rw [Lib.cell_of_heap (heap_new W _)]
    simpa [cellsC] using hj
  · intro g cp w' r h1 h2
    rw [List.length_append] at h1 ⊢
    exact h g cp w' r h1 h2

/-- append of 3 call(s). -/
theorem wpList_app_c3 {ops : Array Oper} {rest : List Oper} {o : Oper} {a : Act} {W : World} {Q : Exit → Act → World → Prop} {k0 h0 o0 z0 : Int} {p0 t0 d0 : ByteArray} {k1 h1 o1 z1 : Int} {p1 t1 d1 : ByteArray} {k2 h2 o2 z2 : Int} {p2 t2 d2 : ByteArray} (hgd : o.guard = none) (s x : Operand)
    (ho : o.op = .call { callee := .builtin .append, args := #[s, x], argTypes := #[25, 25] }) (base : Nat) (v : Value) (cs : List Lst) (hs : a.eval s = v) (hown : OwnC W base v cs) (hbase : base ≤ W.heap.size)
    (hx : a.eval x = .slice (some ⟨W.heap.size, 0, none⟩) 3 3) (hk : cs.length ≤ 90000)
    (h : ∀ g cp w' r, OwnC w' base (.slice (some ⟨g, 0, none⟩) (cs.length + 3) cp) (cs ++ [⟨0, k0, p0, t0, h0, o0, z0, d0, []⟩, ⟨0, k1, p1, t1, h1, o1, z1, d1, []⟩, ⟨0, k2, p2, t2, h2, o2, z2, d2, []⟩]) → Chg base r (W.alloc (.cells #[.int .i64 k0, .string p0, .string t0, .int .i64 h0, .int .i64 o0, .int .i64 z0, .string d0, .int .i64 k1, .string p1, .string t1, .int .i64 h1, .int .i64 o1, .int .i64 z1, .string d1, .int .i64 k2, .string p2, .string t2, .int .i64 h2, .int .i64 o2, .int .i64 z2, .string d2] 29)) w' → wpList Tryz.prog ops Q rest (a.put o.dst (.slice (some ⟨g, 0, none⟩) (cs.length + 3) cp)) w') :
    wpList Tryz.prog ops Q (o :: rest) a (W.alloc (.cells #[.int .i64 k0, .string p0, .string t0, .int .i64 h0, .int .i64 o0, .int .i64 z0, .string d0, .int .i64 k1, .string p1, .string t1, .int .i64 h1, .int .i64 o1, .int .i64 z1, .string d1, .int .i64 k2, .string p2, .string t2, .int .i64 h2, .int .i64 o2, .int .i64 z2, .string d2] 29)) := by
  refine wpList_app_cs hgd s x ho base v cs hs (hown.chg (Chg.alloc (Chg.refl 0 0 W) _) (by omega)) (by simp; omega) W.heap.size 3 [⟨0, k0, p0, t0, h0, o0, z0, d0, []⟩, ⟨0, k1, p1, t1, h1, o1, z1, d1, []⟩, ⟨0, k2, p2, t2, h2, o2, z2, d2, []⟩] hx ?_ (by simp) (by simp; omega) ?_
  · intro j u hj
    rw [Lib.cell_of_heap (heap_new W _)]
    simpa [cellsC] using hj
  · intro g cp w' r h1 h2
    rw [List.length_append] at h1 ⊢
    exact h g cp w' r h1 h2

end Go.Proofs.YtacfkgfemmgpkaaGreatDoor

namespace Go.Proofs.YtacfkgfemmgpkaaGreatDoor
open Go.RowKit

theorem Tryz.infoU5 : (Tryz.prog.info? 5).map (fun i => (i.zero, i.size, i.bytes)) = some (some (.int .u8 0), 1, 1) := by kernel_rfl

/-- Four bytes that are written down. -/
theorem own4 (w : World) (a b c d : Int) : OwnB (w.alloc (.cells #[.int .u8 a, .int .u8 b, .int .u8 c, .int .u8 d] 5)) w.heap.size 5 (.slice (some ⟨w.heap.size, 0, none⟩) 4 4) [a, b, c, d] := by
  have := World.ownsRow_lit (base := w.heap.size) (e := 5) (size := 1) w #[.int .u8 a, .int .u8 b, .int .u8 c, .int .u8 d] 4 (Nat.le_refl _) (by unfold maxLen; omega) rfl
  simpa [OwnB] using this

/-- A byte is put in its place. -/
theorem OwnB.store {w : World} {base g n cap : Nat} {e : TypeId} {xs : List Int} (h : OwnB w base e (.slice (some ⟨g, 0, none⟩) n cap) xs) (hn : xs.length = n) (i : Nat) (hi : i < n) (x : Int) :
    (∃ u, w.cell? ⟨g, i, none⟩ = some u) ∧ w.frozen? ⟨g, i, none⟩ = false ∧ OwnB (w.setCell ⟨g, i, none⟩ (.int .u8 x)) base e (.slice (some ⟨g, 0, none⟩) n cap) (xs.set i x) := by
  subst hn
  unfold OwnB at h
  refine ⟨?_, World.ownsRow.frozenAt h i, ?_⟩
  · rw [World.ownsRow.cellAt h i (by omega)]
    exact ⟨_, List.getElem?_eq_getElem (by simpa using hi)⟩
  · have := (World.ownsRow.stored h i (.int .u8 x)).1
    unfold OwnB
    rw [List.length_set, List.map_set]
    exact this

theorem Byt.set {xs : List Int} (h : Byt xs) (i : Nat) {x : Int} (hx : 0 ≤ x ∧ x < 256) : Byt (xs.set i x) := by
  intro y hy
  rcases List.mem_or_eq_of_mem_set hy with h' | rfl
  · exact h y h'
  · exact hx

theorem Byt.replicate (k : Nat) {x : Int} (hx : 0 ≤ x ∧ x < 256) : Byt (List.replicate k x) := by
  intro y hy
  obtain ⟨_, rfl⟩ := List.mem_replicate.1 hy
  exact hx

end Go.Proofs.YtacfkgfemmgpkaaGreatDoor

namespace Go.Proofs.YtacfkgfemmgpkaaGreatDoor
open Go.RowKit

theorem str_inj {xs ys : List Int} (hx : Byt xs) (hy : Byt ys) (h1 : (xs.map fun n => UInt8.ofNat n.toNat) = ys.map fun n => UInt8.ofNat n.toNat) : xs = ys := by
  induction xs generalizing ys with
  | nil => cases ys with
    | nil => rfl
    | cons y r => simp at h1
  | cons x r ih =>
    cases ys with
    | nil => simp at h1
    | cons y s =>
      simp only [List.map_cons, List.cons.injEq] at h1
      have hx0 := hx x (by simp)
      have hy0 := hy y (by simp)
      have e : x = y := by
        have := congrArg UInt8.toNat h1.1
        simp only [UInt8.toNat_ofNat'] at this
        omega
      rw [e, ih (fun a ha => hx a (by simp [ha])) (fun a ha => hy a (by simp [ha])) h1.2]

theorem str_beq {xs ys : List Int} (hx : Byt xs) (hy : Byt ys) : ((strOfNums xs).toList == (strOfNums ys).toList) = decide (xs = ys) := by
  rw [Go.Lib.strOfNums_toList, Go.Lib.strOfNums_toList]
  by_cases h : xs = ys
  · subst h; rw [decide_eq_true rfl]; exact beq_self_eq_true _
  · rw [decide_eq_false h, beq_eq_false_iff_ne]
    exact fun e => h (str_inj hx hy e)

end Go.Proofs.YtacfkgfemmgpkaaGreatDoor

namespace Go.Proofs.YtacfkgfemmgpkaaGreatDoor
open Go.RowKit

end Go.Proofs.YtacfkgfemmgpkaaGreatDoor

namespace Go.Proofs.YtacfkgfemmgpkaaGreatDoor
open Go.RowKit

/-- The magic. -/
def mg : List Int := [106, 108, 111, 103]

theorem byt_mg : Byt mg := by intro x hx; simp [mg] at hx; omega

end Go.Proofs.YtacfkgfemmgpkaaGreatDoor

namespace Go.Proofs.YtacfkgfemmgpkaaGreatDoor
open Go.RowKit

set_option maxRecDepth 20000 in
set_option maxHeartbeats 400000 in
theorem l3Magic_calls (w : World) : Calls Tryz.prog 51 #[] w fun e w' => e = .returned (.slice (some ⟨w.heap.size, 0, none⟩) 4 4) ∧ OwnB w' w.heap.size 5 (.slice (some ⟨w.heap.size, 0, none⟩) 4 4) mg ∧ Chg 0 0 w w' := by
  have HO : Hid (OwnB (w.alloc (.cells #[.int .u8 106, .int .u8 108, .int .u8 111, .int .u8 103] 5)) w.heap.size 5 (.slice (some ⟨w.heap.size, 0, none⟩) 4 4) mg) := by
    show OwnB _ _ _ _ _
    have := World.ownsRow_lit (base := w.heap.size) (e := 5) (size := 1) w #[.int .u8 106, .int .u8 108, .int .u8 111, .int .u8 103] 4 (Nat.le_refl _) (by unfold maxLen; omega) rfl
    simpa [OwnB, mg] using this
  have HC : Hid (Chg 0 0 w (w.alloc (.cells #[.int .u8 106, .int .u8 108, .int .u8 111, .int .u8 103] 5))) := Chg.alloc (Chg.refl 0 0 w) _
  go_enter Tryz.func51, Tryz.ntmps51
  go_wp2
  go_ret
  exact ⟨rfl, HO.out, HC.out⟩

/-- Do bytes begin with the magic? -/
def beg (xs : List Int) : Bool := decide (4 ≤ xs.length) && decide (xs.take 4 = mg)

end Go.Proofs.YtacfkgfemmgpkaaGreatDoor
