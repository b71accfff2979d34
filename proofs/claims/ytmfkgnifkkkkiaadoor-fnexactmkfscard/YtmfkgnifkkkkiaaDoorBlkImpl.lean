/- Several short texts in one: ArrKit, InoC, PutPs, IsWithin, BlkImpl. -/
import Derived.Test.YtmfkgnifkkkkiaaDoorMem
import Derived.Deep.MidRow
import Derived.Test.YtmfkgnifkkkkiaaDoorInoValid
import Derived.Test.YtmfkgnifkkkkiaaDoorBytSeen
import Derived.Test.YtmfkgnifkkkkiaaDoorWeak
import Derived.Test.YtmfkgnifkkkkiaaDoorBytesOf
import Derived.Test.YtmfkgnifkkkkiaaDoorEncRow
import Derived.Deep.DeepCutAuto
import Derived.Test.YtmfkgnifkkkkiaaDoorRows
namespace Go.Proofs.YtmfkgnifkkkkiaaDoor
open Go.RowKit

/-- The block b has these cells. -/
def ArrC (w : World) (b : Nat) (T : TypeId) (cs : List Value) : Prop := w.heap[b]? = some (.cells cs.toArray T (0, 0))
theorem ArrC.lt {w : World} {b : Nat} {T : TypeId} {cs : List Value} (h : ArrC w b T cs) : b < w.heap.size := (Array.getElem?_eq_some_iff.1 h).1
theorem ArrC.cell {w : World} {b : Nat} {T : TypeId} {cs : List Value} (h : ArrC w b T cs) (i : Nat) {v : Value} (hv : cs[i]? = some v) : w.cell? ⟨b, i, none⟩ = some v := by
  have h' : w.heap[b]? = some (.cells cs.toArray T (0, 0)) := h
  simp only [World.cell?, h']
  simpa using hv
theorem ArrC.frozen {w : World} {b : Nat} {T : TypeId} {cs : List Value} (h : ArrC w b T cs) (i : Nat) : w.frozen? ⟨b, i, none⟩ = false := by
  have h' : w.heap[b]? = some (.cells cs.toArray T (0, 0)) := h
  simp [World.frozen?, h']
theorem ArrC.put {w : World} {b : Nat} {T : TypeId} {cs : List Value} (h : ArrC w b T cs) (i : Nat) (v : Value) : ArrC (w.setCell ⟨b, i, none⟩ v) b T (cs.set i v) := by
  have h' : w.heap[b]? = some (.cells cs.toArray T (0, 0)) := h
  show (w.setCell ⟨b, i, none⟩ v).heap[b]? = _
  simp only [World.setCell, Array.getElem?_modify, if_true, h', Option.map_some]
  simp
theorem ArrC.chg {w w' : World} {b l r : Nat} {T : TypeId} {cs : List Value} (h : ArrC w b T cs) (c : Chg l r w w') (d : b < l ∨ r ≤ b) : ArrC w' b T cs := (c.block b h.lt d).trans h
theorem ArrC.range {w : World} {b : Nat} {T : TypeId} {cs : List Value} (h : ArrC w b T cs) : w.rangeAt b 0 cs := by
  intro j v hv
  rw [Nat.zero_add]
  exact h.cell j hv
theorem ArrC.new (w : World) (T : TypeId) (cs : List Value) : ArrC (w.alloc (.cells cs.toArray T)) w.heap.size T cs := heap_new w _

/-- One of an array that is a value. -/
theorem run_idx {P : Program} {t e : TypeId} {n : Nat} {kd : IntKind} {row : List Value} {k : Nat} {v : Value} (h : P.underlying t = some (.array n e)) (he : P.underlying e = some (.int kd)) (hs : (P.info? e).map (·.size) = some 1) (hk : k < n) (hv : row[k]? = some v) (w : World) :
    (Instr.index t (.agg row.toArray) (.int .i64 (k : Int))).run P w = .ok v w := by
  cases hq : P.info? e with
  | none => rw [hq] at hs; cases hs
  | some i =>
    have hs : i.size = 1 := by simpa [hq] using hs
    have hk' : 0 ≤ (k : Int) ∧ (k : Int) < (n : Int) := by omega
    have hkl : k < row.length := (List.getElem?_eq_some_iff.1 hv).1
    have hv' : row[k] = v := (List.getElem?_eq_some_iff.1 hv).2
    simp [Instr.index, run_underlying h, asIntOf, hk', part, isAgg, run_underlying he, sizeOf, typeInfo, hq, hs, hkl, hv', go_sem]
    intro hc
    omega

theorem results_ct {P : Program} {fn : Func} {p1 p3 : Tmp} {t1 : TypeId} {w : World} {tmps : Array Value} {a1 : Addr} {v1 v3 : Value} (h : fn.results = #[.cell p1 t1, .tmp p3]) (h1 : tmps.getD p1 undef = .pointer (some a1)) (h3 : tmps.getD p3 undef = v3)
    (hl : (loadVar t1 a1).run P w = .ok v1 w) : (results fn tmps).run P w = .ok (.tuple #[v1, v3]) w := by
  have h1' : tmps[p1]?.getD undef = .pointer (some a1) := by simpa using h1
  have h3' : tmps[p3]?.getD undef = v3 := by simpa using h3
  simp only [results, h]
  simp [asAddr, h1', h3', hl]

/-- A whole row is read, where it is wanted. -/
theorem wpList_load_midG {P : Program} {ops : Array Oper} {rest : List Oper} {op : Oper} {a : Act} {w : World} {Q : Exit → Act → World → Prop} (hgd : Region.wanted op (yielded ops a.tmps) = true) (ty : TypeId) (x : Operand) (ho : op.op = .load ty x)
    (b o : Nat) (hx : a.eval x = .pointer (some ⟨b, o, none⟩)) (cs : List Value) (d : TypeDesc) (hc : w.rangeAt b o cs)
    (hu : P.underlying ty = some d) (hd : d.isRow = true) (hi : (P.info? ty).map (·.size) = some cs.length)
    (h : wpList P ops Q rest (a.put op.dst (.agg cs.toArray)) w) : wpList P ops Q (op :: rest) a w :=
  wpList_step fun K hK => by rw [if_pos hgd]; exact wp_load_mid ty x ho b o hx cs d hc hu hd hi (hK _ _ h)

end Go.Proofs.YtmfkgnifkkkkiaaDoor

namespace Go.Proofs.YtmfkgnifkkkkiaaDoor
open Go.RowKit

/-- The cells of an inode. -/
def nC (i : Ino) : List Value := [.int .i64 i.kind, .int .i64 i.links, .int .i64 i.size] ++ i.dir.map (Value.int .i64) ++ [.int .i64 i.ind]
theorem nC_len {i : Ino} (h : i.dir.length = 8) : (nC i).length = 12 := by unfold nC; simp [h]
theorem nC_one (i : Ino) : ∀ v ∈ nC i, v.oneCell' = true := by
  intro v hv
  unfold nC at hv
  simp only [List.mem_append, List.mem_cons, List.not_mem_nil, or_false, List.mem_map] at hv
  rcases hv with ((rfl | rfl | rfl) | ⟨x, _, rfl⟩) | rfl <;> rfl
theorem nC_0 (i : Ino) : (nC i)[0]? = some (.int .i64 i.kind) := rfl
theorem nC_1 (i : Ino) : (nC i)[1]? = some (.int .i64 i.links) := rfl
theorem nC_2 (i : Ino) : (nC i)[2]? = some (.int .i64 i.size) := rfl
theorem nC_d (i : Ino) {j : Nat} (h : j < i.dir.length) : (nC i)[3 + j]? = some (.int .i64 (i.dir.getD j 0)) := by
  unfold nC
  rw [List.getElem?_append_left (by simp; omega), List.getElem?_append_right (by simp)]
  simp [List.getD_eq_getElem?_getD, h]
theorem nC_i {i : Ino} (h : i.dir.length = 8) : (nC i)[11]? = some (.int .i64 i.ind) := by
  unfold nC
  rw [List.getElem?_append_right (by simp; omega)]
  simp [h]
theorem nC_setd {i : Ino} (h : i.dir.length = 8) {j : Nat} (hj : j < 8) (x : Int) : (nC i).set (3 + j) (.int .i64 x) = nC { i with dir := i.dir.set j x } := by
  unfold nC
  rw [List.append_assoc, List.set_append, if_neg (by simp), List.set_append, if_pos (by simp; omega)]
  simp [List.map_set]
theorem nC_seti {i : Ino} (h : i.dir.length = 8) (x : Int) : (nC i).set 11 (.int .i64 x) = nC { i with ind := x } := by
  unfold nC
  rw [List.set_append, if_neg (by simp; omega)]
  simp [h]
/-- The eight numbers, where they lie. -/
theorem nC_range {w : World} {b : Nat} {T : TypeId} {i : Ino} (h : ArrC w b T (nC i)) : w.rangeAt b 3 (i.dir.map (Value.int .i64)) := by
  intro j v hv
  have hj : j < i.dir.length := by have := (List.getElem?_eq_some_iff.1 hv).1; simpa using this
  rw [h.cell (3 + j) (nC_d i hj), ← hv]
  simp [List.getD_eq_getElem?_getD, hj]

def Z12 : List Value := List.replicate 12 (.int .i64 0)
theorem Z12_eq : (#[.int .i64 0, .int .i64 0, .int .i64 0, .int .i64 0, .int .i64 0, .int .i64 0, .int .i64 0, .int .i64 0, .int .i64 0, .int .i64 0, .int .i64 0, .int .i64 0] : Array Value) = Z12.toArray := by unfold Z12; rfl
theorem Z12_length : Z12.length = 12 := by unfold Z12; simp
def zeroI : Ino := ⟨0, 0, 0, [0, 0, 0, 0, 0, 0, 0, 0], 0⟩
theorem Z12_ino : Z12 = nC zeroI := by unfold Z12; rfl
theorem Tryd.sizeIno : (Tryd.prog.info? 98).map (·.size) = some 12 := by kernel_rfl
theorem Tryd.size8 : (Tryd.prog.info? 96).map (·.size) = some 8 := by kernel_rfl

theorem eightI {ds : List Int} (h : ds.length = 8) : ∃ a b c d e f g k, ds = [a, b, c, d, e, f, g, k] := by
  match ds, h with
  | [a, b, c, d, e, f, g, k], _ => exact ⟨a, b, c, d, e, f, g, k, rfl⟩

end Go.Proofs.YtmfkgnifkkkkiaaDoor

namespace Go.Proofs.YtmfkgnifkkkkiaaDoor
open Go.RowKit

/-- The bytes of numbers, two each. -/
def putPs (xs : List Int) : List Int := xs.flatMap fun x => putN x 2
theorem put2_len {x : Int} (h : 0 ≤ x ∧ x < 2048) : (putN x 2).length = 2 := by
  unfold putN
  rw [if_neg (by omega), if_neg (by have : (256 : Int) ^ (2 : Int).toNat = 65536 := rfl; rw [this]; omega), digs_length]; rfl
theorem putPs_len {xs : List Int} (h : ∀ x ∈ xs, 0 ≤ x ∧ x < 2048) : (putPs xs).length = 2 * xs.length := by
  unfold putPs
  induction xs with
  | nil => rfl
  | cons x r ih =>
    rw [List.flatMap_cons, List.length_append, put2_len (h x (by simp)), ih (fun y hy => h y (by simp [hy])), List.length_cons]; omega
theorem putPs_take {xs : List Int} {k : Nat} (h : k < xs.length) : putPs (xs.take (k + 1)) = putPs (xs.take k) ++ putN (xs.getD k 0) 2 := by
  unfold putPs
  rw [List.take_succ_eq_append_getElem h, List.flatMap_append]
  simp [List.getD_eq_getElem?_getD, h]
theorem splice_more {c xs ys : List Value} {o : Nat} (h : o + xs.length + ys.length ≤ c.length) : splice (splice c o xs) (o + xs.length) ys = splice c o (xs ++ ys) := by
  have e0 : (c.take o).length = o := by rw [List.length_take]; omega
  have e1 : (c.take o ++ xs).length = o + xs.length := by rw [List.length_append, e0]
  have A : (c.take o ++ (xs ++ c.drop (o + xs.length))).take (o + xs.length) = c.take o ++ xs := by
    rw [← List.append_assoc, List.take_append_of_le_length (by rw [e1]; exact Nat.le_refl _), List.take_of_length_le (by rw [e1]; exact Nat.le_refl _)]
  have B : (c.take o ++ (xs ++ c.drop (o + xs.length))).drop (o + xs.length + ys.length) = c.drop (o + xs.length + ys.length) := by
    rw [← List.append_assoc, List.drop_append, List.drop_eq_nil_of_le (by rw [e1]; omega), List.nil_append, e1, List.drop_drop]
    congr 1; omega
  unfold splice
  simp only [List.append_assoc] at A B ⊢
  rw [A, B, List.length_append, List.append_assoc, show o + (xs.length + ys.length) = o + xs.length + ys.length by omega]
theorem splice_nil {c : List Value} {o : Nat} : splice c o [] = c := by unfold splice; simp

/-- What lies where bytes that are one's own are seen. -/
theorem OwnB.two {x : World} {base : Nat} {e : TypeId} {r : Value} {xs : List Int} {n : Nat} (o2 : OwnB x base e r xs) (hn : xs.length = n) (hp : 0 < n) (hb : n ≤ 1048576) :
    ∃ g gc, r = .slice (some ⟨g, 0, none⟩) n gc ∧ ∀ j v, (xs.map (Value.int .u8))[j]? = some v → x.cell? ((⟨g, 0, none⟩ : Addr).add j) = some v := by
  have hv := o2.view (hi := x.heap.size) (by omega) (fun g hg => (o2.lt g hg).2)
  rcases o2.2 with ⟨_, h0⟩ | ⟨g, gc, cur, rfl, hg, hh, h1, h2, h3, h4⟩
  · omega
  · refine ⟨g, gc, by rw [hn], fun j v hj => ?_⟩
    rw [Addr.add_mid, Nat.zero_add]
    have hj' : cur.toList[j]? = some v := by
      rw [← h4] at hj
      rw [List.getElem?_take] at hj
      split at hj
      · exact hj
      · cases hj
    simp only [World.cell?, hh]
    simpa using hj'

set_option maxRecDepth 20000 in
set_option maxHeartbeats 2000000 in
theorem putPointers_calls (w : World) (B o n cap : Nat) (T : TypeId) (cs : List Value) (hA : ArrC w B T cs) (xs : List Int) (b off c2 : Nat) (hbB : b ≠ B) (hl : xs.length ≤ 1000) (hn : 2 * xs.length ≤ n) (hcap : n ≤ cap) (hcap2 : cap ≤ 1048576) (hon : o + n ≤ cs.length)
    (hg : ∀ x ∈ xs, 0 ≤ x ∧ x < 2048) (h1 : ∀ i, i < xs.length → w.cell? ⟨b, off + i, none⟩ = some (.int .i64 (xs.getD i 0))) :
    Calls Tryd.prog 67 #[.slice (some ⟨B, o, none⟩) n cap, .slice (some ⟨b, off, none⟩) xs.length c2] w fun e w' => (∃ v, e = .returned v) ∧ ArrC w' B T (splice cs o ((putPs xs).map (Value.int .u8))) ∧ Chg B (B + 1) w w' := by
  go_enter Tryd.func67, Tryd.ntmps67
  go_wp2
  go_loopw [8] (fun x wr => ∃ k : Nat, k ≤ xs.length ∧ x = .int .i64 k ∧ ArrC wr B T (splice cs o ((putPs (xs.take k)).map (Value.int .u8))) ∧ Chg B (B + 1) w wr) (fun x _ => xs.length - (intOf x).toNat)
  case atStart => exact ⟨0, Nat.zero_le _, rfl, by rw [List.take_zero]; show ArrC _ _ _ (splice cs o []); rw [splice_nil]; exact hA, Chg.refl _ _ _⟩
  case round =>
    obtain ⟨k, hk, rfl, ho, hc⟩ := hrel
    by_cases hlt : k < xs.length
    · have c1 := hc.cell (h1 k hlt) (by omega)
      have hx : xs.getD k 0 = xs[k] := by simp [List.getD_eq_getElem?_getD, hlt]
      have hi : (k : Int) < (xs.length : Int) := by omega
      have hgx := hg _ (List.getElem_mem hlt)
      rw [← hx] at hgx
      have h2 := put2_len hgx
      have hxb := hgx.2
      have hkl : (putPs (xs.take k)).length = 2 * k := by rw [putPs_len (fun x hx => hg x (List.mem_of_mem_take hx)), List.length_take, Nat.min_eq_left hk]
      have HT : Hid (splice (splice cs o ((putPs (xs.take k)).map (Value.int .u8))) (o + 2 * k) ((putN (xs.getD k 0) 2).map (Value.int .u8)) = splice cs o ((putPs (xs.take (k + 1))).map (Value.int .u8))) := by
        show _ = _
        rw [putPs_take hlt, List.map_append, ← splice_more (by rw [List.length_map, List.length_map, hkl, h2]; omega), List.length_map, hkl]
      have HL : Hid ((splice cs o ((putPs (xs.take k)).map (Value.int .u8))).length = cs.length) := length_splice _ _ _ (by rw [List.length_map, hkl]; omega)
      have H2 : Hid ((putN (xs.getD k 0) 2).length = 2) := h2
      have HO : Hid (ArrC wr B T (splice cs o ((putPs (xs.take k)).map (Value.int .u8)))) := ho
      have HC : Hid (Chg B (B + 1) w wr) := hc
      generalize splice cs o ((putPs (xs.take k)).map (Value.int .u8)) = cur at *
      generalize xs.getD k 0 = x at *
      have q1 : (0 : Int) ≤ (k : Int) * 2 := by omega
      have q2 : (k : Int) * 2 ≤ (n : Int) := by omega
      have q3 : ((k : Int) * 2).toNat = 2 * k := by omega
      have q5 : ¬ cap = 2 * k := by omega
      have q4 : IntKind.i64.wrap ((k : Int) * 2) = (k : Int) * 2 := by rw [IntKind.wrap_i64]; omega
      clear hx hgx h2 hkl hg h1 ho hc hA
      go_upto_region 3 with fail
      have HS0 : Hid ((fun _ : World => True) wr.drew) := trivial
      refine held_region (fun _ : World => True) (by kernel_rfl) ?_
      refine held_take 0 (.slice (some ⟨B, o, none⟩) n cap) rfl (by kernel_rfl) (by kernel_rfl) (by kernel_rfl) (fun _ _ _ h => h) (.inl ⟨by kernel_rfl, fun w' hw' => by go_simp⟩) HS0.out ?_
      go_simp
      refine held_take 1 (.int .i64 (k : Int)) rfl (by kernel_rfl) (by kernel_rfl) (by kernel_rfl) (fun _ _ _ h => h) (.inl ⟨by kernel_rfl, fun w' hw' => by go_simp⟩) HS0.out ?_
      go_simp
      refine held_take 2 (.int .i64 ((k : Int) * 2)) rfl (by kernel_rfl) (by kernel_rfl) (by kernel_rfl) (fun _ _ _ h => h) (.inl ⟨by kernel_rfl, fun w' hw' => by go_simp⟩) HS0.out ?_
      go_simp
      refine held_take 3 (.slice (some ⟨B, o + 2 * k, none⟩) (n - 2 * k) (cap - 2 * k)) rfl (by kernel_rfl) (by kernel_rfl) (by kernel_rfl) (fun _ _ _ h => h) (.inl ⟨by kernel_rfl, fun w' hw' => by go_simp⟩) HS0.out ?_
      go_simp
      refine held_take 4 (.int .i64 x) rfl (by kernel_rfl) (by kernel_rfl) (by kernel_rfl) (fun _ _ _ h => h) (.inl ⟨by kernel_rfl, fun w' hw' => by go_simp⟩) HS0.out ?_
      go_simp
      have C0 : Chg 0 0 wr wr.drew := Chg.drew (Chg.refl 0 0 wr)
      have HO1 : Hid (ArrC wr.drew B T cur) := HO.out.chg C0 (by omega)
      have HC1 : Hid (Chg B (B + 1) w wr.drew) := HC.out.step C0 (Or.inr (Or.inr (Nat.le_refl _)))
      clear HO HC
      generalize wr.drew = x1 at *
      have hB1 := HO1.out.lt
      have hN := implPut_calls x1 x 2 (by omega)
      refine held_one 5 rfl rfl (by kernel_rfl) ?_
      refine wp_enter 47 #[.int .i64 x, .int .i64 2] (by first | kernel_rfl | go_simp) hN ?_
      rintro e x2 ⟨r, rfl, o2, c2⟩
      have HO2 : Hid (ArrC x2 B T cur) := HO1.out.chg c2 (by omega)
      have HC2 : Hid (Chg B (B + 1) w x2) := HC1.out.step c2 (Or.inr (Or.inr (Nat.le_refl _)))
      obtain ⟨g, gc, rfl, hcell⟩ := o2.two H2.out (by omega) (by omega)
      refine ⟨_, rfl, trivial, ?_⟩
      have Hcell : Hid (∀ j v, ((putN x 2).map (Value.int .u8))[j]? = some v → x2.cell? ((⟨g, 0, none⟩ : Addr).add j) = some v) := hcell
      clear hN o2 c2 hcell HO1 HC1 C0
      go_simp
      refine held_one 6 rfl rfl (by kernel_rfl) ?_
      refine wp_copy_row (.tmp 16) (.tmp 18) 24 24 rfl 5 Tryd.underlying24 (by kernel_rfl) B (o + 2 * k) (n - 2 * k) (cap - 2 * k) ⟨g, 0, none⟩ 2 gc rfl rfl cur T HO2.out ((putN x 2).map (Value.int .u8)) (by rw [List.length_map, H2.out]; exact (Nat.min_eq_left (by omega)).symm) Hcell.out (by rw [List.length_map, H2.out, HL.out]; omega) (by intro v hv; rw [List.mem_map] at hv; obtain ⟨y, _, rfl⟩ := hv; rfl) ?_
      intro x3 hb3 hc3
      have HO3 : Hid (ArrC x3 B T (splice cs o ((putPs (xs.take (k + 1))).map (Value.int .u8)))) := by show ArrC _ _ _ _; rw [← HT.out]; exact hb3.out
      have HC3 : Hid (Chg B (B + 1) w x3) := HC2.out.trans hc3
      refine ⟨trivial, ?_⟩
      clear hb3 hc3 Hcell HO2 HC2
      go_simp
      refine held_done (by kernel_rfl) (NoPanic.normal ?_)
      go_wp2
      go_roundw
      case rel => exact ⟨k + 1, by omega, by go_num, HO3.out, HC3.out⟩
      case measure => simp [intOf]; omega
    · obtain rfl : k = xs.length := by omega
      rw [List.take_length] at ho
      have HO : Hid (ArrC wr B T (splice cs o ((putPs xs).map (Value.int .u8)))) := ho
      clear ho h1 hg
      go_wp2
      refine bodyPost_end (results_none rfl _ _ _) rfl ?_
      exact ⟨⟨_, rfl⟩, HO.out, hc⟩

end Go.Proofs.YtmfkgnifkkkkiaaDoor

namespace Go.Proofs.YtmfkgnifkkkkiaaDoor
open Go.RowKit

set_option maxHeartbeats 400000 in
theorem isWithin_calls (w : World) (v l m : Int) : Calls Tryd.prog 45 #[.int .i64 v, .int .i64 l, .int .i64 m] w fun e w' => e = .returned (.bool (decide (l ≤ v) && decide (v ≤ m))) ∧ w' = w := by
  by_cases h1 : l ≤ v
  · by_cases h2 : v ≤ m
    · rw [decide_eq_true h1, decide_eq_true h2]
      go_enter Tryd.func45, Tryd.ntmps45
      go_wp2
      go_ret
      exact ⟨rfl, rfl⟩
    · rw [decide_eq_true h1, decide_eq_false h2]
      go_enter Tryd.func45, Tryd.ntmps45
      go_wp2
      go_ret
      exact ⟨rfl, rfl⟩
  · rw [decide_eq_false h1]
    go_enter Tryd.func45, Tryd.ntmps45
    go_wp2
    go_ret
    exact ⟨rfl, rfl⟩

end Go.Proofs.YtmfkgnifkkkkiaaDoor

namespace Go.Proofs.YtmfkgnifkkkkiaaDoor
open Go.RowKit

/-- A number that a block of some disk has. -/
def blkB (x : Int) : Bool := decide (0 ≤ x) && decide (x ≤ 2047)
theorem blkB_iff {x : Int} : blkB x = true ↔ 0 ≤ x ∧ x < 2048 := by unfold blkB; simp; omega

end Go.Proofs.YtmfkgnifkkkkiaaDoor
