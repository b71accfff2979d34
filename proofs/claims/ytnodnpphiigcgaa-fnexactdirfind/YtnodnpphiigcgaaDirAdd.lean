/- (*directory).add of the program. (made by tools/mkdiradd.py) -/
import Derived.Test.YtnodnpphiigcgaaDirMap
import Derived.Great.BuildSlice
namespace Go.Proofs.Ytnodnpphiigcgaa
open Go.RowKit

theorem dir_cells {w : World} {b : Nat} {x y : Value} {T : TypeId} (h : w.heap[b]? = some (.cells #[x, y] T (0, 0))) : w.cell? ⟨b, 0, none⟩ = some x ∧ w.cell? ⟨b, 1, none⟩ = some y := by
  simp [World.cell?, h]
theorem duoE {w : World} {b : Nat} {q : Int} {s : ByteArray} {T : TypeId} (h : w.heap[b]? = some (.cells #[.int .i64 q, .string s] T (0, 0))) : w.cell? ⟨b, 0, none⟩ = some (.int .i64 q) ∧ w.cell? ⟨b, 1, none⟩ = some (.string s) := by
  simp [World.cell?, h]
theorem fill_ent (A : Array Value) (hr : A.size = 2) (a b : Value) : Instr.fill (fun i => some (i * 2, 2)) A [(0, .agg #[a, b])] = some #[a, b] := by
  obtain ⟨l⟩ := A
  match l, hr with
  | [x, y], _ => simp [Instr.fill, Value.cells]
theorem rowE_at {w : World} {base : Nat} {v : Value} {ts : List Ent} (h : OwnE w base 32 v ts) {g : Nat} (hg : v.ownBlock = some g) : ∃ cur, w.heap[g]? = some (.cells cur 32 (0, 0)) := by
  rcases h.2 with ⟨h1, _⟩ | ⟨g', cap, cur, hv, _, hh, _⟩
  · rw [h1] at hg; cases hg
  · rw [hv] at hg; cases hg; exact ⟨cur, hh⟩
theorem wf_len {n : Nat} (h : n ≤ 1048576) : (Lit.int .i64 (n : Int)).wf = true := by
  show (decide (IntKind.i64.min ≤ (n : Int)) && decide ((n : Int) ≤ IntKind.i64.max)) = true
  rw [decide_eq_true (show IntKind.i64.min ≤ (n : Int) from Int.le_trans (by decide : IntKind.i64.min ≤ 0) (by omega)), decide_eq_true (show (n : Int) ≤ IntKind.i64.max from Int.le_trans (show (n : Int) ≤ 1048576 by omega) (by decide))]
  rfl
theorem wp_mapUpd {P : Program} {o : Oper} {a : Act} {w w' : World} {K : Act → World → Prop} {Q : Exit → Act → World → Prop} {T : TypeId} {m x v : Operand} {M X V : Value} (ho : o.op = .mapUpdate T m x v) (hm : a.eval m = M) (hx : a.eval x = X) (hv : a.eval v = V)
    (hrun : (Instr.mapUpdate T M X V).run P w = .ok () w') (h : K (a.put o.dst undef) w') : o.wp P a w K Q := by
  unfold Oper.wp
  simp [execOp, ho, hm, hx, hv, hrun, Result.andThen]
  exact h
theorem look_at {W : World} {bm n : Nat} {D : DataW Unit} {ts : List Ent} (h : W.ownsMap Try.prog 9 (plainElem Try.prog 2) bm n D) (hs : Says D ts) (s : ByteArray) (hz : s.size ≤ maxLen) :
    ∃ c, (findD ts s ≠ -1 → c = findD ts s) ∧ ∀ w', w'.ownsMap Try.prog 9 (plainElem Try.prog 2) bm n D → (Instr.lookup 38 (.map (some bm)) (.string s) true).run Try.prog w' = .ok (.tuple #[.int .i64 c, .bool (decide (findD ts s ≠ -1))]) w' := by
  have K := Maps.string_keyed (P := Try.prog) (k := 9) Try.underlying9
  have hw0 : (Lit.int .i64 0).wf = true := by decide
  have key : ∀ w', w'.ownsMap Try.prog 9 (plainElem Try.prog 2) bm n D → ∃ c, (Instr.lookup 38 (.map (some bm)) (.string s) true).run Try.prog w' = .ok (.tuple #[.int .i64 c, .bool (decide (findD ts s ≠ -1))]) w' ∧ D.atKey (keyT s) (.lit (.int .i64 0)) = .lit (.int .i64 c) := fun w' h' => by
    obtain ⟨v, ps, hrun, hv⟩ := h'.look_ok K Try.underlying38 (z := .int .i64 0) (by kernel_rfl) (plainElem_int Try.underlying2 hw0) (key_of s hz)
    obtain ⟨c, rfl, hc, _⟩ := plainElem_int_inv Try.underlying2 hv
    rw [hs.has s] at hrun
    exact ⟨c, hrun, congrArg Prod.fst hc⟩
  obtain ⟨c, _, hc⟩ := key W h
  refine ⟨c, fun hf => ?_, fun w' h' => ?_⟩
  · have := hs.at' s hf
    rw [hc] at this
    injection this with this
    injection this
  · obtain ⟨c', hr, hc'⟩ := key w' h'
    rw [hc] at hc'
    injection hc' with hc'
    injection hc' with _ hc'
    rw [hc']
    exact hr

/-- A directory has grown: beyond new memory, three blocks may have turned. -/
structure ChgD (base bd bm : Nat) (v : Value) (W X : World) : Prop where
  chg : Chg base W.heap.size W X
  oth : ∀ k, k < W.heap.size → k ≠ bd → k ≠ bm → some k ≠ v.ownBlock → X.heap[k]? = W.heap[k]?
theorem ChgD.refl (base bd bm : Nat) (v : Value) (W : World) : ChgD base bd bm v W W := ⟨Chg.refl _ _ _, fun _ _ _ _ _ => rfl⟩
theorem ChgD.size {base bd bm : Nat} {v : Value} {W X : World} (h : ChgD base bd bm v W X) : W.heap.size ≤ X.heap.size := h.chg.size
theorem ChgD.alloc {base bd bm : Nat} {v : Value} {W X : World} (h : ChgD base bd bm v W X) (o : Obj) : ChgD base bd bm v W (X.alloc o) := ⟨h.chg.alloc o, fun k hk h1 h2 h3 => (Below.heap_alloc _ _ _ (Nat.lt_of_lt_of_le hk h.size)).trans (h.oth k hk h1 h2 h3)⟩
theorem ChgD.drew {base bd bm : Nat} {v : Value} {W X : World} (h : ChgD base bd bm v W X) : ChgD base bd bm v W X.drew := ⟨h.chg.drew, h.oth⟩
theorem ChgD.setCell {base bd bm : Nat} {v : Value} {W X : World} (h : ChgD base bd bm v W X) (hb : base ≤ bd ∧ bd < W.heap.size) (u : Value) : ChgD base bd bm v W (X.setCell ⟨bd, 0, none⟩ u) := ⟨h.chg.setCell (Or.inl hb) u, fun k hk h1 h2 h3 => (Below.heap_setCell _ _ _ _ (by simp only; omega)).trans (h.oth k hk h1 h2 h3)⟩
theorem ChgD.grown {base bd bm : Nat} {v : Value} {W X Y : World} {row : Option Nat} (h : ChgD base bd bm v W X) (hg : X.grownBy Y row) (hr : ∀ g, row = some g → base ≤ g ∧ g < W.heap.size) (ho : ∀ g, row = some g → g = bm ∨ v.ownBlock = some g) : ChgD base bd bm v W Y :=
  ⟨h.chg.step (Chg.ofGrown (lo := base) (hi := W.heap.size) hg (fun g e _ => hr g e)) (by omega), fun k hk h1 h2 h3 => (hg.block k (Nat.lt_of_lt_of_le hk h.size) (fun e => by
    rcases ho k e.symm with e1 | e1
    · exact h2 e1
    · exact h3 e1.symm)).trans (h.oth k hk h1 h2 h3)⟩

set_option maxRecDepth 20000 in
set_option maxHeartbeats 4000000 in
theorem add_old (base : Nat) (W : World) (bd bm : Nat) (v : Value) (D : DataW Unit) (ts : List Ent) (t : Ent) (h : DirO base W bd bm v D ts) (ht : t.2.size ≤ 1048576) (hl : ts.length ≤ 1048576) (hf : findD ts t.2 ≠ -1) :
    Calls Try.prog 14 #[.pointer (some ⟨bd, 0, none⟩), .agg #[.int .i64 t.1, .string t.2]] W fun e W' => (∃ x, e = .returned x) ∧ (∃ v' D', DirO base W' bd bm v' D' (ts ++ [t])) ∧ ChgD base bd bm v W W' := by
  obtain ⟨ie, hie, hz0, hz1, hz2⟩ := info_parts Try.infoE
  obtain ⟨va, vc, rfl⟩ : ∃ va vc, v = .slice va ts.length vc := by
    rcases h.own.2 with ⟨h1, h0⟩ | ⟨g, cap, cur, hv, _⟩
    · rw [h0]; exact ⟨_, _, h1⟩
    · exact ⟨_, _, hv⟩
  have hbb := (Array.getElem?_eq_some_iff.1 h.cells).1
  have hmm := h.map.lt
  have hlo := h.lo
  have hvb : ∀ g, (Value.slice va ts.length vc).ownBlock = some g → base ≤ g ∧ g < W.heap.size := fun g hg => h.own.lt g hg
  have C0 : Chg 0 0 W (W.alloc (.cells #[.int .i64 t.1, .string t.2] 32)) := Chg.alloc (Chg.refl 0 0 W) _
  have HO0 : Hid (DirO base (W.alloc (.cells #[.int .i64 t.1, .string t.2] 32)) bd bm (.slice va ts.length vc) D ts) := h.chg C0 (by omega)
  have HE0 : Hid ((W.alloc (.cells #[.int .i64 t.1, .string t.2] 32)).heap[W.heap.size]? = some (.cells #[.int .i64 t.1, .string t.2] 32 (0, 0))) := heap_new W _
  have HC0 : Hid (ChgD base bd bm (.slice va ts.length vc) W (W.alloc (.cells #[.int .i64 t.1, .string t.2] 32))) := ChgD.alloc (ChgD.refl base bd bm (.slice va ts.length vc) W) _
  obtain ⟨c, _, hLook⟩ := look_at h.map h.says t.2 (by unfold maxLen; omega)
  rw [decide_eq_true hf] at hLook
  have HF : Hid (findD ts t.2 ≠ -1) := hf
  clear h C0 hf
  go_enter Try.func14, Try.ntmps14
  go_upto_region 1 with fail
  generalize W.alloc (.cells #[.int .i64 t.1, .string t.2] 32) = w1 at *
  have HS : Hid ((fun w' : World => w'.heap[bd]? = some (.cells #[.slice va ts.length vc, .map (some bm)] 40 (0, 0)) ∧ w'.heap[W.heap.size]? = some (.cells #[.int .i64 t.1, .string t.2] 32 (0, 0)) ∧ w'.ownsMap Try.prog 9 (plainElem Try.prog 2) bm ts.length D) w1.drew) := ⟨HO0.out.cells, HE0.out, HO0.out.map⟩
  have HO : Hid (DirO base w1.drew bd bm (.slice va ts.length vc) D ts) := HO0.out.chg (Chg.drew (Chg.refl 0 0 w1)) (by omega)
  have HC : Hid (ChgD base bd bm (.slice va ts.length vc) W w1.drew) := HC0.out.drew
  clear HO0 HE0 HC0
  refine held_region (fun w' : World => w'.heap[bd]? = some (.cells #[.slice va ts.length vc, .map (some bm)] 40 (0, 0)) ∧ w'.heap[W.heap.size]? = some (.cells #[.int .i64 t.1, .string t.2] 32 (0, 0)) ∧ w'.ownsMap Try.prog 9 (plainElem Try.prog 2) bm ts.length D) (by kernel_rfl) ?_
  generalize w1.drew = x1 at *
  refine held_take 0 (.pointer (some ⟨bd, 0, none⟩)) rfl (by kernel_rfl) (by kernel_rfl) (by kernel_rfl) (fun _ _ _ h => h) (.inl ⟨by kernel_rfl, fun w' hw' => by go_simp⟩) HS.out ?_
  go_simp
  refine held_take 1 (.pointer (some ⟨bd, 0, none⟩)) rfl (by kernel_rfl) (by kernel_rfl) (by kernel_rfl) (fun _ _ _ h => h) (.inl ⟨by kernel_rfl, fun w' hw' => by go_simp⟩) HS.out ?_
  go_simp
  refine held_take 2 (.pointer (some ⟨bd, 1, none⟩)) rfl (by kernel_rfl) (by kernel_rfl) (by kernel_rfl) (fun _ _ _ h => h) (.inl ⟨by kernel_rfl, fun w' hw' => by go_simp⟩) HS.out ?_
  go_simp
  refine held_take 3 (.map (some bm)) rfl (by kernel_rfl) (by kernel_rfl) (by kernel_rfl) (fun _ _ _ h => h) (.inl ⟨by kernel_rfl, fun w' hw' => by obtain ⟨p0, p1⟩ := dir_cells hw'.1; go_simp⟩) HS.out ?_
  go_simp
  refine held_take 4 (.pointer (some ⟨W.heap.size, 1, none⟩)) rfl (by kernel_rfl) (by kernel_rfl) (by kernel_rfl) (fun _ _ _ h => h) (.inl ⟨by kernel_rfl, fun w' hw' => by go_simp⟩) HS.out ?_
  go_simp
  refine held_take 5 (.string t.2) rfl (by kernel_rfl) (by kernel_rfl) (by kernel_rfl) (fun _ _ _ h => h) (.inl ⟨by kernel_rfl, fun w' hw' => by obtain ⟨p0, p1⟩ := duoE hw'.2.1; go_simp⟩) HS.out ?_
  go_simp
  refine held_take 6 (.tuple #[.int .i64 c, .bool true]) rfl (by kernel_rfl) (by kernel_rfl) (by kernel_rfl) (fun _ _ _ h => h) (.inl ⟨by kernel_rfl, fun w' hw' => by have hlk := hLook w' hw'.2.2; go_simp⟩) HS.out ?_
  go_simp
  refine held_take 7 (.tuple #[.int .i64 c, .bool true]) rfl (by kernel_rfl) (by kernel_rfl) (by kernel_rfl) (fun _ _ _ h => h) (.inl ⟨by kernel_rfl, fun w' hw' => by go_simp⟩) HS.out ?_
  go_simp
  refine held_take 8 (.int .i64 c) rfl (by kernel_rfl) (by kernel_rfl) (by kernel_rfl) (fun _ _ _ h => h) (.inl ⟨by kernel_rfl, fun w' hw' => by go_simp⟩) HS.out ?_
  go_simp
  refine held_take 9 (.bool true) rfl (by kernel_rfl) (by kernel_rfl) (by kernel_rfl) (fun _ _ _ h => h) (.inl ⟨by kernel_rfl, fun w' hw' => by go_simp⟩) HS.out ?_
  go_simp
  refine held_take 10 (.int .i64 c) rfl (by kernel_rfl) (by kernel_rfl) (by kernel_rfl) (fun _ _ _ h => h) (.inl ⟨by kernel_rfl, fun w' hw' => by go_simp⟩) HS.out ?_
  go_simp
  refine held_take 11 (.bool true) rfl (by kernel_rfl) (by kernel_rfl) (by kernel_rfl) (fun _ _ _ h => h) (.inl ⟨by kernel_rfl, fun w' hw' => by go_simp⟩) HS.out ?_
  go_simp
  refine held_done (by kernel_rfl) (NoPanic.normal ?_)
  go_upto_region 4 with fail
  have HSx : Hid ((fun w' : World => w'.heap[bd]? = some (.cells #[.slice va ts.length vc, .map (some bm)] 40 (0, 0)) ∧ w'.heap[W.heap.size]? = some (.cells #[.int .i64 t.1, .string t.2] 32 (0, 0)) ∧ w'.ownsMap Try.prog 9 (plainElem Try.prog 2) bm ts.length D) x1.drew) := HS.out
  have HOx : Hid (DirO base x1.drew bd bm (.slice va ts.length vc) D ts) := HO.out.chg (Chg.drew (Chg.refl 0 0 x1)) (by omega)
  have HCx : Hid (ChgD base bd bm (.slice va ts.length vc) W x1.drew) := HC.out.drew
  have HSay : Hid (Says D (ts ++ [t])) := HO.out.says.old HF.out
  clear HS HO HC hLook
  have HS := HSx
  have HC := HCx
  have HOwn : Hid (OwnE x1.drew base 32 (.slice va ts.length vc) ts) := HOx.out.own
  clear HSx HCx HOx
  refine weak_region 10 (fun w' : World => w'.heap[bd]? = some (.cells #[.slice va ts.length vc, .map (some bm)] 40 (0, 0)) ∧ w'.heap[W.heap.size]? = some (.cells #[.int .i64 t.1, .string t.2] 32 (0, 0)) ∧ w'.ownsMap Try.prog 9 (plainElem Try.prog 2) bm ts.length D) (by kernel_rfl) ?_
  generalize x1.drew = x5 at *
  refine weak_take 0 (.pointer (some ⟨bd, 0, none⟩)) rfl (by kernel_rfl) (by kernel_rfl) (by kernel_rfl) (by kernel_rfl) (fun _ _ _ h => h) (.inl ⟨by kernel_rfl, fun w' hw' => by go_simp⟩) HS.out ?_
  go_simp
  refine weak_take 1 (.pointer (some ⟨bd, 0, none⟩)) rfl (by kernel_rfl) (by kernel_rfl) (by kernel_rfl) (by kernel_rfl) (fun _ _ _ h => h) (.inl ⟨by kernel_rfl, fun w' hw' => by go_simp⟩) HS.out ?_
  go_simp
  refine weak_take 2 (.pointer (some ⟨bd, 0, none⟩)) rfl (by kernel_rfl) (by kernel_rfl) (by kernel_rfl) (by kernel_rfl) (fun _ _ _ h => h) (.inl ⟨by kernel_rfl, fun w' hw' => by go_simp⟩) HS.out ?_
  go_simp
  refine weak_take 3 (.pointer (some ⟨bd, 0, none⟩)) rfl (by kernel_rfl) (by kernel_rfl) (by kernel_rfl) (by kernel_rfl) (fun _ _ _ h => h) (.inl ⟨by kernel_rfl, fun w' hw' => by go_simp⟩) HS.out ?_
  go_simp
  refine weak_take 4 (.slice va ts.length vc) rfl (by kernel_rfl) (by kernel_rfl) (by kernel_rfl) (by kernel_rfl) (fun _ _ _ h => h) (.inl ⟨by kernel_rfl, fun w' hw' => by obtain ⟨p0, p1⟩ := dir_cells hw'.1; go_simp⟩) HS.out ?_
  go_simp
  refine weak_take 5 (.agg #[.int .i64 t.1, .string t.2]) rfl (by kernel_rfl) (by kernel_rfl) (by kernel_rfl) (by kernel_rfl) (fun _ _ _ h => h) (.inl ⟨by kernel_rfl, fun w' hw' => by obtain ⟨p0, p1⟩ := duoE hw'.2.1; go_simp⟩) HS.out ?_
  go_simp
  refine weak_one 6 rfl rfl (by kernel_rfl) ?_
  refine wp_buildSlice 25 32 1 #[(0, .tmp 34)] rfl #[.int .i64 t.1, .string t.2] ie _ Try.underlying25 hie hz0 (by rw [hz1]; decide) (by rw [hz1]; decide) (by rw [hz1, Array.toList_map]; refine fill_ent _ ?_ _ _; simp) ?_
  have C6 : Chg 0 0 x5 (x5.alloc (.cells #[.int .i64 t.1, .string t.2] 32)) := Chg.alloc (Chg.refl 0 0 x5) _
  have hn6 := heap_new x5 (.cells #[.int .i64 t.1, .string t.2] 32)
  have HS6 : Hid ((fun w' : World => w'.heap[bd]? = some (.cells #[.slice va ts.length vc, .map (some bm)] 40 (0, 0)) ∧ w'.heap[W.heap.size]? = some (.cells #[.int .i64 t.1, .string t.2] 32 (0, 0)) ∧ w'.ownsMap Try.prog 9 (plainElem Try.prog 2) bm ts.length D) (x5.alloc (.cells #[.int .i64 t.1, .string t.2] 32))) := ⟨(C6.block _ (Array.getElem?_eq_some_iff.1 HS.out.1).1 (by omega)).trans HS.out.1, (C6.block _ (Array.getElem?_eq_some_iff.1 HS.out.2.1).1 (by omega)).trans HS.out.2.1, HS.out.2.2.alloc _⟩
  have HW6 : Hid (OwnE (x5.alloc (.cells #[.int .i64 t.1, .string t.2] 32)) base 32 (.slice va ts.length vc) ts) := HOwn.out.chg C6 (by intro g _; omega)
  have HC6 : Hid (ChgD base bd bm (.slice va ts.length vc) W (x5.alloc (.cells #[.int .i64 t.1, .string t.2] 32))) := HC.out.alloc _
  have hs6 : (x5.alloc (.cells #[.int .i64 t.1, .string t.2] 32)).heap.size = x5.heap.size + 1 := by simp
  have hWx := HC.out.size
  generalize x5.alloc (.cells #[.int .i64 t.1, .string t.2] 32) = x6 at *
  refine ⟨fun _ => HS6.out, ?_⟩
  clear C6 HS HC HOwn
  go_simp
  have hnews : ∀ j u, [Value.int .i64 t.1, .string t.2][j]? = some u → x6.cell? ((⟨x5.heap.size, 0, none⟩ : Addr).add j) = some u := by
    intro j u hj
    rw [Go.WideShapes.add_plain, Nat.zero_add]
    simp only [World.cell?, hn6]
    simpa using hj
  refine weak_one 7 rfl rfl (by kernel_rfl) ?_
  refine wp_append_own x6 (.tmp 33) (.tmp 35) 25 rfl base 32 ie _ 2 24 Try.underlying25 hie hz0 hz1 hz2 rfl (by decide) _ _ (cellsE ts) rfl HW6.out ⟨x5.heap.size, 0, none⟩ 1 1 [.int .i64 t.1, .string t.2] rfl rfl hnews (by simp [Value.oneCell']) (by unfold maxLen; omega) (by omega) (by omega) ?_
  intro v' x8 hown8 hgrow _
  obtain ⟨g8, c8, rfl⟩ : ∃ g8 c8, v' = .slice (some ⟨g8, 0, none⟩) (ts.length + 1) c8 := by
    rcases hown8.2 with ⟨_, h0⟩ | ⟨g', cap', cur, e', _⟩
    · omega
    · exact ⟨g', cap', e'⟩
  have hgE : ∀ g, (Value.slice va ts.length vc).ownBlock = some g → ∃ cur, x6.heap[g]? = some (.cells cur 32 (0, 0)) := fun g hg => rowE_at HW6.out hg
  have hgB : ∀ g, (Value.slice va ts.length vc).ownBlock = some g → base ≤ g ∧ g < W.heap.size := hvb
  have s8 := hgrow.size
  have nb : some bd ≠ (Value.slice va ts.length vc).ownBlock := fun e => by
    obtain ⟨cur, hcur⟩ := hgE bd e.symm
    have hd := HS6.out.1
    rw [hcur] at hd
    simp only [Option.some.injEq, Obj.cells.injEq] at hd
    exact absurd hd.2.1 (by decide)
  have nm : some bm ≠ (Value.slice va ts.length vc).ownBlock := fun e => by
    obtain ⟨cur, hcur⟩ := hgE bm e.symm
    obtain ⟨es, ck, hm, _⟩ := HS6.out.2.2
    rw [hcur] at hm
    cases hm
  have ne : some W.heap.size ≠ (Value.slice va ts.length vc).ownBlock := fun e => by have := (hgB _ e.symm).2; omega
  have HS8 : Hid ((fun w' : World => w'.heap[bd]? = some (.cells #[.slice va ts.length vc, .map (some bm)] 40 (0, 0)) ∧ w'.heap[W.heap.size]? = some (.cells #[.int .i64 t.1, .string t.2] 32 (0, 0)) ∧ w'.ownsMap Try.prog 9 (plainElem Try.prog 2) bm ts.length D) x8) := ⟨(hgrow.block _ (Array.getElem?_eq_some_iff.1 HS6.out.1).1 nb).trans HS6.out.1, (hgrow.block _ (Array.getElem?_eq_some_iff.1 HS6.out.2.1).1 ne).trans HS6.out.2.1, HS6.out.2.2.kept hgrow nm⟩
  have HC8 : Hid (ChgD base bd bm (.slice va ts.length vc) W x8) := HC6.out.grown hgrow (fun g hg => hgB g hg) (fun g hg => Or.inr hg)
  have HW8 : Hid (OwnE x8 base 32 (.slice (some ⟨g8, 0, none⟩) (ts.length + 1) c8) (ts ++ [t])) := by
    show OwnE _ _ _ _ _
    unfold OwnE
    rw [List.length_append, cellsE_app]
    exact hown8
  refine ⟨fun _ => HS8.out, ?_⟩
  clear hown8 hgrow hnews HS6 HC6 HW6 hgE hn6
  go_simp
  refine weak_one 8 rfl rfl (by kernel_rfl) ?_
  go_simp
  refine ⟨HS8.out, ?_⟩
  refine weak_take 9 (.pointer (some ⟨bd, 0, none⟩)) rfl (by kernel_rfl) (by kernel_rfl) (by kernel_rfl) (by kernel_rfl) (fun _ _ _ h => h) (.inl ⟨by kernel_rfl, fun w' hw' => by go_simp⟩) HS8.out ?_
  go_simp
  have hbd := HS8.out.1
  have c0 : x8.cell? ⟨bd, 0, none⟩ = some (.slice va ts.length vc) := (dir_cells hbd).1
  have f0 : x8.frozen? ⟨bd, 0, none⟩ = false := by simp [World.frozen?, hbd]
  have hg8 := HW8.out.lt g8 rfl
  obtain ⟨cur8, hcur8⟩ := rowE_at HW8.out (g := g8) rfl
  have n8 : g8 ≠ bd := fun e => by
    rw [e, hbd] at hcur8
    simp only [Option.some.injEq, Obj.cells.injEq] at hcur8
    exact absurd hcur8.2.1 (by decide)
  have nm8 : bm ≠ bd := fun e => by
    obtain ⟨es, ck, hm, _⟩ := HS8.out.2.2
    rw [e, hbd] at hm
    cases hm
  have HD9 : Hid (DirO base (x8.setCell ⟨bd, 0, none⟩ (.slice (some ⟨g8, 0, none⟩) (ts.length + 1) c8)) bd bm (.slice (some ⟨g8, 0, none⟩) (ts.length + 1) c8) D (ts ++ [t])) := by
    refine ⟨?_, hlo, HW8.out.chg (Chg.setCell (Chg.refl bd (bd + 1) x8) (p := ⟨bd, 0, none⟩) (Or.inl ⟨Nat.le_refl _, Nat.lt_succ_self _⟩) _) (fun g hg => by cases hg; simp only; omega), ?_, HSay.out⟩
    · simp [World.setCell, Array.getElem?_modify, hbd]
    · rw [List.length_append]
      exact (HS8.out.2.2.setCell (a := ⟨bd, 0, none⟩) nm8 _).mono (by simp)
  have HC9 : Hid (ChgD base bd bm (.slice va ts.length vc) W (x8.setCell ⟨bd, 0, none⟩ (.slice (some ⟨g8, 0, none⟩) (ts.length + 1) c8))) := HC8.out.setCell ⟨hlo.1, hbb⟩ _
  clear hbd hcur8 n8 nm8 hg8 HW8 HC8
  refine weak_one 10 rfl rfl (by kernel_rfl) ?_
  go_simp
  refine weak_done (by kernel_rfl) (NoPanic.normal ?_)
  go_wp2
  refine bodyPost_end (results_none rfl _ _ _) rfl ?_
  exact ⟨⟨_, rfl⟩, ⟨_, _, HD9.out⟩, HC9.out⟩

set_option maxRecDepth 20000 in
set_option maxHeartbeats 4000000 in
theorem add_new (base : Nat) (W : World) (bd bm : Nat) (v : Value) (D : DataW Unit) (ts : List Ent) (t : Ent) (h : DirO base W bd bm v D ts) (ht : t.2.size ≤ 1048576) (hl : ts.length ≤ 1048576) (hf : findD ts t.2 = -1) :
    Calls Try.prog 14 #[.pointer (some ⟨bd, 0, none⟩), .agg #[.int .i64 t.1, .string t.2]] W fun e W' => (∃ x, e = .returned x) ∧ (∃ v' D', DirO base W' bd bm v' D' (ts ++ [t])) ∧ ChgD base bd bm v W W' := by
  obtain ⟨ie, hie, hz0, hz1, hz2⟩ := info_parts Try.infoE
  obtain ⟨va, vc, rfl⟩ : ∃ va vc, v = .slice va ts.length vc := by
    rcases h.own.2 with ⟨h1, h0⟩ | ⟨g, cap, cur, hv, _⟩
    · rw [h0]; exact ⟨_, _, h1⟩
    · exact ⟨_, _, hv⟩
  have hbb := (Array.getElem?_eq_some_iff.1 h.cells).1
  have hmm := h.map.lt
  have hlo := h.lo
  have hvb : ∀ g, (Value.slice va ts.length vc).ownBlock = some g → base ≤ g ∧ g < W.heap.size := fun g hg => h.own.lt g hg
  have C0 : Chg 0 0 W (W.alloc (.cells #[.int .i64 t.1, .string t.2] 32)) := Chg.alloc (Chg.refl 0 0 W) _
  have HO0 : Hid (DirO base (W.alloc (.cells #[.int .i64 t.1, .string t.2] 32)) bd bm (.slice va ts.length vc) D ts) := h.chg C0 (by omega)
  have HE0 : Hid ((W.alloc (.cells #[.int .i64 t.1, .string t.2] 32)).heap[W.heap.size]? = some (.cells #[.int .i64 t.1, .string t.2] 32 (0, 0))) := heap_new W _
  have HC0 : Hid (ChgD base bd bm (.slice va ts.length vc) W (W.alloc (.cells #[.int .i64 t.1, .string t.2] 32))) := ChgD.alloc (ChgD.refl base bd bm (.slice va ts.length vc) W) _
  obtain ⟨c, _, hLook⟩ := look_at h.map h.says t.2 (by unfold maxLen; omega)
  rw [decide_eq_false (fun h' => h' hf)] at hLook
  have HF : Hid (findD ts t.2 = -1) := hf
  clear h C0 hf
  go_enter Try.func14, Try.ntmps14
  go_upto_region 1 with fail
  generalize W.alloc (.cells #[.int .i64 t.1, .string t.2] 32) = w1 at *
  have HS : Hid ((fun w' : World => w'.heap[bd]? = some (.cells #[.slice va ts.length vc, .map (some bm)] 40 (0, 0)) ∧ w'.heap[W.heap.size]? = some (.cells #[.int .i64 t.1, .string t.2] 32 (0, 0)) ∧ w'.ownsMap Try.prog 9 (plainElem Try.prog 2) bm ts.length D) w1.drew) := ⟨HO0.out.cells, HE0.out, HO0.out.map⟩
  have HO : Hid (DirO base w1.drew bd bm (.slice va ts.length vc) D ts) := HO0.out.chg (Chg.drew (Chg.refl 0 0 w1)) (by omega)
  have HC : Hid (ChgD base bd bm (.slice va ts.length vc) W w1.drew) := HC0.out.drew
  clear HO0 HE0 HC0
  refine held_region (fun w' : World => w'.heap[bd]? = some (.cells #[.slice va ts.length vc, .map (some bm)] 40 (0, 0)) ∧ w'.heap[W.heap.size]? = some (.cells #[.int .i64 t.1, .string t.2] 32 (0, 0)) ∧ w'.ownsMap Try.prog 9 (plainElem Try.prog 2) bm ts.length D) (by kernel_rfl) ?_
  generalize w1.drew = x1 at *
  refine held_take 0 (.pointer (some ⟨bd, 0, none⟩)) rfl (by kernel_rfl) (by kernel_rfl) (by kernel_rfl) (fun _ _ _ h => h) (.inl ⟨by kernel_rfl, fun w' hw' => by go_simp⟩) HS.out ?_
  go_simp
  refine held_take 1 (.pointer (some ⟨bd, 0, none⟩)) rfl (by kernel_rfl) (by kernel_rfl) (by kernel_rfl) (fun _ _ _ h => h) (.inl ⟨by kernel_rfl, fun w' hw' => by go_simp⟩) HS.out ?_
  go_simp
  refine held_take 2 (.pointer (some ⟨bd, 1, none⟩)) rfl (by kernel_rfl) (by kernel_rfl) (by kernel_rfl) (fun _ _ _ h => h) (.inl ⟨by kernel_rfl, fun w' hw' => by go_simp⟩) HS.out ?_
  go_simp
  refine held_take 3 (.map (some bm)) rfl (by kernel_rfl) (by kernel_rfl) (by kernel_rfl) (fun _ _ _ h => h) (.inl ⟨by kernel_rfl, fun w' hw' => by obtain ⟨p0, p1⟩ := dir_cells hw'.1; go_simp⟩) HS.out ?_
  go_simp
  refine held_take 4 (.pointer (some ⟨W.heap.size, 1, none⟩)) rfl (by kernel_rfl) (by kernel_rfl) (by kernel_rfl) (fun _ _ _ h => h) (.inl ⟨by kernel_rfl, fun w' hw' => by go_simp⟩) HS.out ?_
  go_simp
  refine held_take 5 (.string t.2) rfl (by kernel_rfl) (by kernel_rfl) (by kernel_rfl) (fun _ _ _ h => h) (.inl ⟨by kernel_rfl, fun w' hw' => by obtain ⟨p0, p1⟩ := duoE hw'.2.1; go_simp⟩) HS.out ?_
  go_simp
  refine held_take 6 (.tuple #[.int .i64 c, .bool false]) rfl (by kernel_rfl) (by kernel_rfl) (by kernel_rfl) (fun _ _ _ h => h) (.inl ⟨by kernel_rfl, fun w' hw' => by have hlk := hLook w' hw'.2.2; go_simp⟩) HS.out ?_
  go_simp
  refine held_take 7 (.tuple #[.int .i64 c, .bool false]) rfl (by kernel_rfl) (by kernel_rfl) (by kernel_rfl) (fun _ _ _ h => h) (.inl ⟨by kernel_rfl, fun w' hw' => by go_simp⟩) HS.out ?_
  go_simp
  refine held_take 8 (.int .i64 c) rfl (by kernel_rfl) (by kernel_rfl) (by kernel_rfl) (fun _ _ _ h => h) (.inl ⟨by kernel_rfl, fun w' hw' => by go_simp⟩) HS.out ?_
  go_simp
  refine held_take 9 (.bool false) rfl (by kernel_rfl) (by kernel_rfl) (by kernel_rfl) (fun _ _ _ h => h) (.inl ⟨by kernel_rfl, fun w' hw' => by go_simp⟩) HS.out ?_
  go_simp
  refine held_take 10 (.int .i64 c) rfl (by kernel_rfl) (by kernel_rfl) (by kernel_rfl) (fun _ _ _ h => h) (.inl ⟨by kernel_rfl, fun w' hw' => by go_simp⟩) HS.out ?_
  go_simp
  refine held_take 11 (.bool false) rfl (by kernel_rfl) (by kernel_rfl) (by kernel_rfl) (fun _ _ _ h => h) (.inl ⟨by kernel_rfl, fun w' hw' => by go_simp⟩) HS.out ?_
  go_simp
  refine held_done (by kernel_rfl) (NoPanic.normal ?_)
  go_upto_region 3 with fail
  have HSx : Hid ((fun w' : World => w'.heap[bd]? = some (.cells #[.slice va ts.length vc, .map (some bm)] 40 (0, 0)) ∧ w'.heap[W.heap.size]? = some (.cells #[.int .i64 t.1, .string t.2] 32 (0, 0)) ∧ w'.ownsMap Try.prog 9 (plainElem Try.prog 2) bm ts.length D) x1.drew) := HS.out
  have HOx : Hid (DirO base x1.drew bd bm (.slice va ts.length vc) D ts) := HO.out.chg (Chg.drew (Chg.refl 0 0 x1)) (by omega)
  have HCx : Hid (ChgD base bd bm (.slice va ts.length vc) W x1.drew) := HC.out.drew
  clear HS HO HC hLook
  have HS := HSx
  have HC := HCx
  have HO := HOx
  clear HSx HCx HOx
  refine weak_region 11 (fun w' : World => w'.heap[bd]? = some (.cells #[.slice va ts.length vc, .map (some bm)] 40 (0, 0)) ∧ w'.heap[W.heap.size]? = some (.cells #[.int .i64 t.1, .string t.2] 32 (0, 0)) ∧ w'.ownsMap Try.prog 9 (plainElem Try.prog 2) bm ts.length D) (by kernel_rfl) ?_
  generalize x1.drew = x2 at *
  refine weak_take 0 (.pointer (some ⟨bd, 0, none⟩)) rfl (by kernel_rfl) (by kernel_rfl) (by kernel_rfl) (by kernel_rfl) (fun _ _ _ h => h) (.inl ⟨by kernel_rfl, fun w' hw' => by go_simp⟩) HS.out ?_
  go_simp
  refine weak_take 1 (.pointer (some ⟨bd, 0, none⟩)) rfl (by kernel_rfl) (by kernel_rfl) (by kernel_rfl) (by kernel_rfl) (fun _ _ _ h => h) (.inl ⟨by kernel_rfl, fun w' hw' => by go_simp⟩) HS.out ?_
  go_simp
  refine weak_take 2 (.pointer (some ⟨bd, 1, none⟩)) rfl (by kernel_rfl) (by kernel_rfl) (by kernel_rfl) (by kernel_rfl) (fun _ _ _ h => h) (.inl ⟨by kernel_rfl, fun w' hw' => by go_simp⟩) HS.out ?_
  go_simp
  refine weak_take 3 (.map (some bm)) rfl (by kernel_rfl) (by kernel_rfl) (by kernel_rfl) (by kernel_rfl) (fun _ _ _ h => h) (.inl ⟨by kernel_rfl, fun w' hw' => by obtain ⟨p0, p1⟩ := dir_cells hw'.1; go_simp⟩) HS.out ?_
  go_simp
  refine weak_take 4 (.pointer (some ⟨W.heap.size, 1, none⟩)) rfl (by kernel_rfl) (by kernel_rfl) (by kernel_rfl) (by kernel_rfl) (fun _ _ _ h => h) (.inl ⟨by kernel_rfl, fun w' hw' => by go_simp⟩) HS.out ?_
  go_simp
  refine weak_take 5 (.string t.2) rfl (by kernel_rfl) (by kernel_rfl) (by kernel_rfl) (by kernel_rfl) (fun _ _ _ h => h) (.inl ⟨by kernel_rfl, fun w' hw' => by obtain ⟨p0, p1⟩ := duoE hw'.2.1; go_simp⟩) HS.out ?_
  go_simp
  refine weak_take 6 (.pointer (some ⟨bd, 0, none⟩)) rfl (by kernel_rfl) (by kernel_rfl) (by kernel_rfl) (by kernel_rfl) (fun _ _ _ h => h) (.inl ⟨by kernel_rfl, fun w' hw' => by go_simp⟩) HS.out ?_
  go_simp
  refine weak_take 7 (.pointer (some ⟨bd, 0, none⟩)) rfl (by kernel_rfl) (by kernel_rfl) (by kernel_rfl) (by kernel_rfl) (fun _ _ _ h => h) (.inl ⟨by kernel_rfl, fun w' hw' => by go_simp⟩) HS.out ?_
  go_simp
  refine weak_take 8 (.pointer (some ⟨bd, 0, none⟩)) rfl (by kernel_rfl) (by kernel_rfl) (by kernel_rfl) (by kernel_rfl) (fun _ _ _ h => h) (.inl ⟨by kernel_rfl, fun w' hw' => by go_simp⟩) HS.out ?_
  go_simp
  refine weak_take 9 (.slice va ts.length vc) rfl (by kernel_rfl) (by kernel_rfl) (by kernel_rfl) (by kernel_rfl) (fun _ _ _ h => h) (.inl ⟨by kernel_rfl, fun w' hw' => by obtain ⟨p0, p1⟩ := dir_cells hw'.1; go_simp⟩) HS.out ?_
  go_simp
  refine weak_take 10 (.int .i64 (ts.length : Int)) rfl (by kernel_rfl) (by kernel_rfl) (by kernel_rfl) (by kernel_rfl) (fun _ _ _ h => h) (.inl ⟨by kernel_rfl, fun w' hw' => by go_simp⟩) HS.out ?_
  go_simp
  obtain ⟨x3, hrun, hown3, hgrow3⟩ := HO.out.map.update (Maps.string_keyed (P := Try.prog) (k := 9) Try.underlying9) Try.underlying38 (by unfold maxLen; omega) (key_of t.2 (by unfold maxLen; omega)) (plainElem_int Try.underlying2 (a := (ts.length : Int)) (wf_len hl))
  have nb3 : some bd ≠ some bm := fun e => by
    cases e
    obtain ⟨es, ck, hm, _⟩ := HS.out.2.2
    rw [HS.out.1] at hm
    cases hm
  have ne3 : some W.heap.size ≠ some bm := fun e => by cases e; omega
  have HT3 : Hid ((fun w' : World => w'.heap[bd]? = some (.cells #[.slice va ts.length vc, .map (some bm)] 40 (0, 0)) ∧ w'.heap[W.heap.size]? = some (.cells #[.int .i64 t.1, .string t.2] 32 (0, 0)) ∧ w'.ownsMap Try.prog 9 (plainElem Try.prog 2) bm (ts.length + 1) (D.put (keyT t.2) (.lit (.int .i64 (ts.length : Int))))) x3) := ⟨(hgrow3.block _ (Array.getElem?_eq_some_iff.1 HS.out.1).1 nb3).trans HS.out.1, (hgrow3.block _ (Array.getElem?_eq_some_iff.1 HS.out.2.1).1 ne3).trans HS.out.2.1, hown3⟩
  have HC3 : Hid (ChgD base bd bm (.slice va ts.length vc) W x3) := HC.out.grown hgrow3 (fun g hg => by cases hg; exact ⟨hlo.2, hmm⟩) (fun g hg => by cases hg; exact Or.inl rfl)
  have HW3 : Hid (OwnE x3 base 32 (.slice va ts.length vc) ts) := by
    refine HO.out.own.chg (l := bm) (r := bm + 1) (Chg.ofGrown hgrow3 (fun g hg _ => by cases hg; omega)) (fun g hg => ?_)
    obtain ⟨cur, hcur⟩ := rowE_at HO.out.own hg
    have : g ≠ bm := fun e => by
      obtain ⟨es, ck, hm, _⟩ := HS.out.2.2
      rw [← e, hcur] at hm
      cases hm
    omega
  have HSay : Hid (Says (D.put (keyT t.2) (.lit (.int .i64 (ts.length : Int)))) (ts ++ [t])) := HO.out.says.new HF.out
  clear hown3 hgrow3 HS HC HO
  refine weak_one 11 rfl rfl (by kernel_rfl) ?_
  refine wp_mapUpd (m := .tmp 21) (x := .tmp 23) (v := .tmp 28) rfl rfl rfl rfl hrun ?_
  refine ⟨fun h' => absurd rfl h', ?_⟩
  go_simp
  refine weak_done (by kernel_rfl) (NoPanic.normal ?_)
  clear hrun
  go_upto_region 4 with fail
  have HS : Hid ((fun w' : World => w'.heap[bd]? = some (.cells #[.slice va ts.length vc, .map (some bm)] 40 (0, 0)) ∧ w'.heap[W.heap.size]? = some (.cells #[.int .i64 t.1, .string t.2] 32 (0, 0)) ∧ w'.ownsMap Try.prog 9 (plainElem Try.prog 2) bm (ts.length + 1) (D.put (keyT t.2) (.lit (.int .i64 (ts.length : Int))))) x3.drew) := ⟨HT3.out.1, HT3.out.2.1, HT3.out.2.2⟩
  have HC : Hid (ChgD base bd bm (.slice va ts.length vc) W x3.drew) := HC3.out.drew
  have HOwn : Hid (OwnE x3.drew base 32 (.slice va ts.length vc) ts) := HW3.out.chg (Chg.drew (Chg.refl 0 0 x3)) (by intro g _; omega)
  clear HT3 HC3 HW3
  refine weak_region 10 (fun w' : World => w'.heap[bd]? = some (.cells #[.slice va ts.length vc, .map (some bm)] 40 (0, 0)) ∧ w'.heap[W.heap.size]? = some (.cells #[.int .i64 t.1, .string t.2] 32 (0, 0)) ∧ w'.ownsMap Try.prog 9 (plainElem Try.prog 2) bm (ts.length + 1) (D.put (keyT t.2) (.lit (.int .i64 (ts.length : Int))))) (by kernel_rfl) ?_
  generalize x3.drew = x5 at *
  refine weak_take 0 (.pointer (some ⟨bd, 0, none⟩)) rfl (by kernel_rfl) (by kernel_rfl) (by kernel_rfl) (by kernel_rfl) (fun _ _ _ h => h) (.inl ⟨by kernel_rfl, fun w' hw' => by go_simp⟩) HS.out ?_
  go_simp
  refine weak_take 1 (.pointer (some ⟨bd, 0, none⟩)) rfl (by kernel_rfl) (by kernel_rfl) (by kernel_rfl) (by kernel_rfl) (fun _ _ _ h => h) (.inl ⟨by kernel_rfl, fun w' hw' => by go_simp⟩) HS.out ?_
  go_simp
  refine weak_take 2 (.pointer (some ⟨bd, 0, none⟩)) rfl (by kernel_rfl) (by kernel_rfl) (by kernel_rfl) (by kernel_rfl) (fun _ _ _ h => h) (.inl ⟨by kernel_rfl, fun w' hw' => by go_simp⟩) HS.out ?_
  go_simp
  refine weak_take 3 (.pointer (some ⟨bd, 0, none⟩)) rfl (by kernel_rfl) (by kernel_rfl) (by kernel_rfl) (by kernel_rfl) (fun _ _ _ h => h) (.inl ⟨by kernel_rfl, fun w' hw' => by go_simp⟩) HS.out ?_
  go_simp
  refine weak_take 4 (.slice va ts.length vc) rfl (by kernel_rfl) (by kernel_rfl) (by kernel_rfl) (by kernel_rfl) (fun _ _ _ h => h) (.inl ⟨by kernel_rfl, fun w' hw' => by obtain ⟨p0, p1⟩ := dir_cells hw'.1; go_simp⟩) HS.out ?_
  go_simp
  refine weak_take 5 (.agg #[.int .i64 t.1, .string t.2]) rfl (by kernel_rfl) (by kernel_rfl) (by kernel_rfl) (by kernel_rfl) (fun _ _ _ h => h) (.inl ⟨by kernel_rfl, fun w' hw' => by obtain ⟨p0, p1⟩ := duoE hw'.2.1; go_simp⟩) HS.out ?_
  go_simp
  refine weak_one 6 rfl rfl (by kernel_rfl) ?_
  refine wp_buildSlice 25 32 1 #[(0, .tmp 34)] rfl #[.int .i64 t.1, .string t.2] ie _ Try.underlying25 hie hz0 (by rw [hz1]; decide) (by rw [hz1]; decide) (by rw [hz1, Array.toList_map]; refine fill_ent _ ?_ _ _; simp) ?_
  have C6 : Chg 0 0 x5 (x5.alloc (.cells #[.int .i64 t.1, .string t.2] 32)) := Chg.alloc (Chg.refl 0 0 x5) _
  have hn6 := heap_new x5 (.cells #[.int .i64 t.1, .string t.2] 32)
  have HS6 : Hid ((fun w' : World => w'.heap[bd]? = some (.cells #[.slice va ts.length vc, .map (some bm)] 40 (0, 0)) ∧ w'.heap[W.heap.size]? = some (.cells #[.int .i64 t.1, .string t.2] 32 (0, 0)) ∧ w'.ownsMap Try.prog 9 (plainElem Try.prog 2) bm (ts.length + 1) (D.put (keyT t.2) (.lit (.int .i64 (ts.length : Int))))) (x5.alloc (.cells #[.int .i64 t.1, .string t.2] 32))) := ⟨(C6.block _ (Array.getElem?_eq_some_iff.1 HS.out.1).1 (by omega)).trans HS.out.1, (C6.block _ (Array.getElem?_eq_some_iff.1 HS.out.2.1).1 (by omega)).trans HS.out.2.1, HS.out.2.2.alloc _⟩
  have HW6 : Hid (OwnE (x5.alloc (.cells #[.int .i64 t.1, .string t.2] 32)) base 32 (.slice va ts.length vc) ts) := HOwn.out.chg C6 (by intro g _; omega)
  have HC6 : Hid (ChgD base bd bm (.slice va ts.length vc) W (x5.alloc (.cells #[.int .i64 t.1, .string t.2] 32))) := HC.out.alloc _
  have hs6 : (x5.alloc (.cells #[.int .i64 t.1, .string t.2] 32)).heap.size = x5.heap.size + 1 := by simp
  have hWx := HC.out.size
  generalize x5.alloc (.cells #[.int .i64 t.1, .string t.2] 32) = x6 at *
  refine ⟨fun _ => HS6.out, ?_⟩
  clear C6 HS HC HOwn
  go_simp
  have hnews : ∀ j u, [Value.int .i64 t.1, .string t.2][j]? = some u → x6.cell? ((⟨x5.heap.size, 0, none⟩ : Addr).add j) = some u := by
    intro j u hj
    rw [Go.WideShapes.add_plain, Nat.zero_add]
    simp only [World.cell?, hn6]
    simpa using hj
  refine weak_one 7 rfl rfl (by kernel_rfl) ?_
  refine wp_append_own x6 (.tmp 33) (.tmp 35) 25 rfl base 32 ie _ 2 24 Try.underlying25 hie hz0 hz1 hz2 rfl (by decide) _ _ (cellsE ts) rfl HW6.out ⟨x5.heap.size, 0, none⟩ 1 1 [.int .i64 t.1, .string t.2] rfl rfl hnews (by simp [Value.oneCell']) (by unfold maxLen; omega) (by omega) (by omega) ?_
  intro v' x8 hown8 hgrow _
  obtain ⟨g8, c8, rfl⟩ : ∃ g8 c8, v' = .slice (some ⟨g8, 0, none⟩) (ts.length + 1) c8 := by
    rcases hown8.2 with ⟨_, h0⟩ | ⟨g', cap', cur, e', _⟩
    · omega
    · exact ⟨g', cap', e'⟩
  have hgE : ∀ g, (Value.slice va ts.length vc).ownBlock = some g → ∃ cur, x6.heap[g]? = some (.cells cur 32 (0, 0)) := fun g hg => rowE_at HW6.out hg
  have hgB : ∀ g, (Value.slice va ts.length vc).ownBlock = some g → base ≤ g ∧ g < W.heap.size := hvb
  have s8 := hgrow.size
  have nb : some bd ≠ (Value.slice va ts.length vc).ownBlock := fun e => by
    obtain ⟨cur, hcur⟩ := hgE bd e.symm
    have hd := HS6.out.1
    rw [hcur] at hd
    simp only [Option.some.injEq, Obj.cells.injEq] at hd
    exact absurd hd.2.1 (by decide)
  have nm : some bm ≠ (Value.slice va ts.length vc).ownBlock := fun e => by
    obtain ⟨cur, hcur⟩ := hgE bm e.symm
    obtain ⟨es, ck, hm, _⟩ := HS6.out.2.2
    rw [hcur] at hm
    cases hm
  have ne : some W.heap.size ≠ (Value.slice va ts.length vc).ownBlock := fun e => by have := (hgB _ e.symm).2; omega
  have HS8 : Hid ((fun w' : World => w'.heap[bd]? = some (.cells #[.slice va ts.length vc, .map (some bm)] 40 (0, 0)) ∧ w'.heap[W.heap.size]? = some (.cells #[.int .i64 t.1, .string t.2] 32 (0, 0)) ∧ w'.ownsMap Try.prog 9 (plainElem Try.prog 2) bm (ts.length + 1) (D.put (keyT t.2) (.lit (.int .i64 (ts.length : Int))))) x8) := ⟨(hgrow.block _ (Array.getElem?_eq_some_iff.1 HS6.out.1).1 nb).trans HS6.out.1, (hgrow.block _ (Array.getElem?_eq_some_iff.1 HS6.out.2.1).1 ne).trans HS6.out.2.1, HS6.out.2.2.kept hgrow nm⟩
  have HC8 : Hid (ChgD base bd bm (.slice va ts.length vc) W x8) := HC6.out.grown hgrow (fun g hg => hgB g hg) (fun g hg => Or.inr hg)
  have HW8 : Hid (OwnE x8 base 32 (.slice (some ⟨g8, 0, none⟩) (ts.length + 1) c8) (ts ++ [t])) := by
    show OwnE _ _ _ _ _
    unfold OwnE
    rw [List.length_append, cellsE_app]
    exact hown8
  refine ⟨fun _ => HS8.out, ?_⟩
  clear hown8 hgrow hnews HS6 HC6 HW6 hgE hn6
  go_simp
  refine weak_one 8 rfl rfl (by kernel_rfl) ?_
  go_simp
  refine ⟨HS8.out, ?_⟩
  refine weak_take 9 (.pointer (some ⟨bd, 0, none⟩)) rfl (by kernel_rfl) (by kernel_rfl) (by kernel_rfl) (by kernel_rfl) (fun _ _ _ h => h) (.inl ⟨by kernel_rfl, fun w' hw' => by go_simp⟩) HS8.out ?_
  go_simp
  have hbd := HS8.out.1
  have c0 : x8.cell? ⟨bd, 0, none⟩ = some (.slice va ts.length vc) := (dir_cells hbd).1
  have f0 : x8.frozen? ⟨bd, 0, none⟩ = false := by simp [World.frozen?, hbd]
  have hg8 := HW8.out.lt g8 rfl
  obtain ⟨cur8, hcur8⟩ := rowE_at HW8.out (g := g8) rfl
  have n8 : g8 ≠ bd := fun e => by
    rw [e, hbd] at hcur8
    simp only [Option.some.injEq, Obj.cells.injEq] at hcur8
    exact absurd hcur8.2.1 (by decide)
  have nm8 : bm ≠ bd := fun e => by
    obtain ⟨es, ck, hm, _⟩ := HS8.out.2.2
    rw [e, hbd] at hm
    cases hm
  have HD9 : Hid (DirO base (x8.setCell ⟨bd, 0, none⟩ (.slice (some ⟨g8, 0, none⟩) (ts.length + 1) c8)) bd bm (.slice (some ⟨g8, 0, none⟩) (ts.length + 1) c8) (D.put (keyT t.2) (.lit (.int .i64 (ts.length : Int)))) (ts ++ [t])) := by
    refine ⟨?_, hlo, HW8.out.chg (Chg.setCell (Chg.refl bd (bd + 1) x8) (p := ⟨bd, 0, none⟩) (Or.inl ⟨Nat.le_refl _, Nat.lt_succ_self _⟩) _) (fun g hg => by cases hg; simp only; omega), ?_, HSay.out⟩
    · simp [World.setCell, Array.getElem?_modify, hbd]
    · rw [List.length_append]
      exact (HS8.out.2.2.setCell (a := ⟨bd, 0, none⟩) nm8 _).mono (by simp)
  have HC9 : Hid (ChgD base bd bm (.slice va ts.length vc) W (x8.setCell ⟨bd, 0, none⟩ (.slice (some ⟨g8, 0, none⟩) (ts.length + 1) c8))) := HC8.out.setCell ⟨hlo.1, hbb⟩ _
  clear hbd hcur8 n8 nm8 hg8 HW8 HC8
  refine weak_one 10 rfl rfl (by kernel_rfl) ?_
  go_simp
  refine weak_done (by kernel_rfl) (NoPanic.normal ?_)
  go_wp2
  refine bodyPost_end (results_none rfl _ _ _) rfl ?_
  exact ⟨⟨_, rfl⟩, ⟨_, _, HD9.out⟩, HC9.out⟩

theorem add_sharp (base : Nat) (W : World) (bd bm : Nat) (v : Value) (D : DataW Unit) (ts : List Ent) (t : Ent) (h : DirO base W bd bm v D ts) (ht : t.2.size ≤ 1048576) (hl : ts.length ≤ 1048576) :
    Calls Try.prog 14 #[.pointer (some ⟨bd, 0, none⟩), .agg #[.int .i64 t.1, .string t.2]] W fun e W' => (∃ x, e = .returned x) ∧ (∃ v' D', DirO base W' bd bm v' D' (ts ++ [t])) ∧ ChgD base bd bm v W W' := by
  by_cases hf : findD ts t.2 = -1
  · exact add_new base W bd bm v D ts t h ht hl hf
  · exact add_old base W bd bm v D ts t h ht hl hf

theorem add_calls (base : Nat) (W : World) (bd bm : Nat) (v : Value) (D : DataW Unit) (ts : List Ent) (t : Ent) (h : DirO base W bd bm v D ts) (ht : t.2.size ≤ 1048576) (hl : ts.length ≤ 1048576) :
    Calls Try.prog 14 #[.pointer (some ⟨bd, 0, none⟩), .agg #[.int .i64 t.1, .string t.2]] W fun e W' => (∃ x, e = .returned x) ∧ (∃ v' D', DirO base W' bd bm v' D' (ts ++ [t])) ∧ Chg base W.heap.size W W' := by
  refine (add_sharp base W bd bm v D ts t h ht hl).mono ?_
  rintro e W' ⟨h1, h2, h3⟩
  exact ⟨h1, h2, h3.chg⟩

end Go.Proofs.Ytnodnpphiigcgaa
