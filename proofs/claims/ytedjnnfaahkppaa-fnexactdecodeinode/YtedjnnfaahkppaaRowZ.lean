/- Several short texts in one: ArrKit, GetPs, InoC, Cells2, RowZ. -/
import Derived.Test.YtedjnnfaahkppaaMem
import Derived.Deep.MidRow
import Derived.Test.YtedjnnfaahkppaaByt
import Derived.Test.YtedjnnfaahkppaaViewPart
import Derived.Laws.CopyOwn
import Derived.Deep.DeepCutAuto
import Derived.Test.YtedjnnfaahkppaaInoValid
namespace Go.Proofs.Ytedjnnfaahkppaa
open Go.RowKit

/-- The block b has these cells. -/
def ArrC (w : World) (b : Nat) (T : TypeId) (cs : List Value) : Prop := w.heap[b]? = some (.cells cs.toArray T (0, 0))
theorem ArrC.lt {w : World} {b : Nat} {T : TypeId} {cs : List Value} (h : ArrC w b T cs) : b < w.heap.size := (Array.getElem?_eq_some_iff.1 h).1
theorem ArrC.cell {w : World} {b : Nat} {T : TypeId} {cs : List Value} (h : ArrC w b T cs) (i : Nat) {v : Value} (hv : cs[i]? = some v) : w.cell? ⟨b, i, none⟩ = some v := by
  have h' : w.heap[b]? = some (.cells cs.toArray T (0, 0)) := h
  simp only [World.cell?, h']
  simpa using hv
theorem ArrC.frozen {w : World} {b : Nat} {T : TypeId} {cs : List Value} (h : ArrC w b T cs) (i : Nat) : w.frozen? ⟨b, i, none⟩ = false := by
  have h' : w.heap[b]? = some (.cells cs.toArray T (0, 0)) := h
  simp [World.frozen?, h']
theorem ArrC.put {w : World} {b : Nat} {T : TypeId} {cs : List Value} (h : ArrC w b T cs) (i : Nat) (v : Value) : ArrC (w.setCell ⟨b, i, none⟩ v) b T (cs.set i v) := by
  have h' : w.heap[b]? = some (.cells cs.toArray T (0, 0)) := h
  show (w.setCell ⟨b, i, none⟩ v).heap[b]? = _
  simp only [World.setCell, Array.getElem?_modify, if_true, h', Option.map_some]
  simp
theorem ArrC.chg {w w' : World} {b l r : Nat} {T : TypeId} {cs : List Value} (h : ArrC w b T cs) (c : Chg l r w w') (d : b < l ∨ r ≤ b) : ArrC w' b T cs := (c.block b h.lt d).trans h
theorem ArrC.range {w : World} {b : Nat} {T : TypeId} {cs : List Value} (h : ArrC w b T cs) : w.rangeAt b 0 cs := by
  intro j v hv
  rw [Nat.zero_add]
  exact h.cell j hv
theorem ArrC.new (w : World) (T : TypeId) (cs : List Value) : ArrC (w.alloc (.cells cs.toArray T)) w.heap.size T cs := heap_new w _

/-- One of an array that is a value. -/
theorem run_idx {P : Program} {t e : TypeId} {n : Nat} {kd : IntKind} {row : List Value} {k : Nat} {v : Value} (h : P.underlying t = some (.array n e)) (he : P.underlying e = some (.int kd)) (hs : (P.info? e).map (·.size) = some 1) (hk : k < n) (hv : row[k]? = some v) (w : World) :
    (Instr.index t (.agg row.toArray) (.int .i64 (k : Int))).run P w = .ok v w := by
  cases hq : P.info? e with
  | none => rw [hq] at hs; cases hs
  | some i =>
    have hs : i.size = 1 := by simpa [hq] using hs
    have hk' : 0 ≤ (k : Int) ∧ (k : Int) < (n : Int) := by omega
    have hkl : k < row.length := (List.getElem?_eq_some_iff.1 hv).1
    have hv' : row[k] = v := (List.getElem?_eq_some_iff.1 hv).2
    simp [Instr.index, run_underlying h, asIntOf, hk', part, isAgg, run_underlying he, sizeOf, typeInfo, hq, hs, hkl, hv', go_sem]
    intro hc
    omega

theorem results_ct {P : Program} {fn : Func} {p1 p3 : Tmp} {t1 : TypeId} {w : World} {tmps : Array Value} {a1 : Addr} {v1 v3 : Value} (h : fn.results = #[.cell p1 t1, .tmp p3]) (h1 : tmps.getD p1 undef = .pointer (some a1)) (h3 : tmps.getD p3 undef = v3)
    (hl : (loadVar t1 a1).run P w = .ok v1 w) : (results fn tmps).run P w = .ok (.tuple #[v1, v3]) w := by
  have h1' : tmps[p1]?.getD undef = .pointer (some a1) := by simpa using h1
  have h3' : tmps[p3]?.getD undef = v3 := by simpa using h3
  simp only [results, h]
  simp [asAddr, h1', h3', hl]

/-- A whole row is read, where it is wanted. -/
theorem wpList_load_midG {P : Program} {ops : Array Oper} {rest : List Oper} {op : Oper} {a : Act} {w : World} {Q : Exit → Act → World → Prop} (hgd : Region.wanted op (yielded ops a.tmps) = true) (ty : TypeId) (x : Operand) (ho : op.op = .load ty x)
    (b o : Nat) (hx : a.eval x = .pointer (some ⟨b, o, none⟩)) (cs : List Value) (d : TypeDesc) (hc : w.rangeAt b o cs)
    (hu : P.underlying ty = some d) (hd : d.isRow = true) (hi : (P.info? ty).map (·.size) = some cs.length)
    (h : wpList P ops Q rest (a.put op.dst (.agg cs.toArray)) w) : wpList P ops Q (op :: rest) a w :=
  wpList_step fun K hK => by rw [if_pos hgd]; exact wp_load_mid ty x ho b o hx cs d hc hu hd hi (hK _ _ h)

end Go.Proofs.Ytedjnnfaahkppaa

namespace Go.Proofs.Ytedjnnfaahkppaa
open Go.RowKit

/-- The number at place k of bytes. -/
def gpAt (xs : List Int) (k : Nat) : Int := getN ((xs.drop (2 * k)).take 2)
def gps (xs : List Int) (k : Nat) : List Int := (List.range k).map (gpAt xs)
theorem gps_len (xs : List Int) (k : Nat) : (gps xs k).length = k := by simp [gps]
theorem gps_succ (xs : List Int) (k : Nat) : gps xs (k + 1) = gps xs k ++ [gpAt xs k] := by simp [gps, List.range_succ]
theorem splice_one {c : List Value} {o : Nat} {A : List Value} {v : Value} (h : o + A.length < c.length) : (splice c o A).set (o + A.length) v = splice c o (A ++ [v]) := by
  have e0 : (c.take o).length = o := by rw [List.length_take]; omega
  unfold splice
  rw [List.set_append, if_neg (by omega), e0, Nat.add_sub_cancel_left, List.set_append, if_neg (by omega), Nat.sub_self, List.length_append]
  have hd : c.drop (o + A.length) = c[o + A.length] :: c.drop (o + A.length + 1) := List.drop_eq_getElem_cons h
  rw [hd, List.set_cons_zero, List.append_assoc]
  rfl

set_option maxRecDepth 20000 in
set_option maxHeartbeats 2000000 in
theorem getPointers_calls (w : World) (B o m c2 : Nat) (T : TypeId) (cs : List Value) (hA : ArrC w B T cs) (xs : List Int) (lo hi b off cap : Nat) (hbB : hi ≤ B ∨ B < lo) (hB : Byt xs) (hm : 2 * m ≤ xs.length) (_hxl : xs.length ≤ 1000) (hcap : xs.length ≤ cap) (hcap2 : cap ≤ 1048576) (hmc : m ≤ c2) (hon : o + m ≤ cs.length)
    (hV : View w lo hi .u8 (.slice (some ⟨b, off, none⟩) xs.length cap) xs) :
    Calls Try.prog 25 #[.slice (some ⟨b, off, none⟩) xs.length cap, .slice (some ⟨B, o, none⟩) m c2] w fun e w' => (∃ v, e = .returned v) ∧ ArrC w' B T (splice cs o ((gps xs m).map (Value.int .i64))) ∧ Chg B (B + 1) w w' := by
  go_enter Try.func25, Try.ntmps25
  go_wp2
  go_loopw [7] (fun x wr => ∃ k : Nat, k ≤ m ∧ x = .int .i64 k ∧ ArrC wr B T (splice cs o ((gps xs k).map (Value.int .i64))) ∧ Chg B (B + 1) w wr) (fun x _ => m - (intOf x).toNat)
  case atStart => exact ⟨0, Nat.zero_le _, rfl, by show ArrC _ _ _ (splice cs o []); rw [show splice cs o [] = cs from by unfold splice; simp]; exact hA, Chg.refl _ _ _⟩
  case round =>
    obtain ⟨k, hk, rfl, ho, hc⟩ := hrel
    by_cases hlt : k < m
    · have hi' : (k : Int) < (m : Int) := by omega
      have hN := implGet_calls (xs := (xs.drop (2 * k)).take 2) wr (fun x hx => hB x (List.mem_of_mem_drop (List.mem_of_mem_take hx))) ((hV.chg hc (by omega)).part (l := 2 * k) (n := 2) (by omega) (by omega) (cap - 2 * k) (by omega))
      rw [show getN ((xs.drop (2 * k)).take 2) = gpAt xs k from rfl] at hN
      have hgl : ((gps xs k).map (Value.int .i64)).length = k := by rw [List.length_map, gps_len]
      have HT : Hid ((splice cs o ((gps xs k).map (Value.int .i64))).set (o + k) (.int .i64 (gpAt xs k)) = splice cs o ((gps xs (k + 1)).map (Value.int .i64))) := by
        show _ = _
        have := splice_one (c := cs) (o := o) (A := (gps xs k).map (Value.int .i64)) (v := .int .i64 (gpAt xs k)) (by rw [hgl]; omega)
        rw [hgl] at this
        rw [this, gps_succ, List.map_append]; rfl
      have HL : Hid ((splice cs o ((gps xs k).map (Value.int .i64))).length = cs.length) := length_splice _ _ _ (by rw [hgl]; omega)
      have HO : Hid (ArrC wr B T (splice cs o ((gps xs k).map (Value.int .i64)))) := ho
      have HC : Hid (Chg B (B + 1) w wr) := hc
      generalize splice cs o ((gps xs k).map (Value.int .i64)) = cur at *
      generalize gpAt xs k = x at *
      have q1 : (0 : Int) ≤ (k : Int) * 2 := by omega
      have q3 : ((k : Int) * 2).toNat = 2 * k := by omega
      have q4 : IntKind.i64.wrap ((k : Int) * 2) = (k : Int) * 2 := by rw [IntKind.wrap_i64]; omega
      have q5 : ¬ cap = 2 * k := by omega
      have q6 : IntKind.i64.wrap ((k : Int) + 1) = (k : Int) + 1 := by rw [IntKind.wrap_i64]; omega
      have q7 : IntKind.i64.wrap (((k : Int) + 1) * 2) = ((k : Int) + 1) * 2 := by rw [IntKind.wrap_i64]; omega
      have q8 : (0 : Int) ≤ ((k : Int) + 1) * 2 := by omega
      have q9 : ((k : Int) + 1) * 2 ≤ (cap : Int) := by omega
      have q10 : (k : Int) * 2 ≤ ((k : Int) + 1) * 2 := by omega
      have q11 : (((k : Int) + 1) * 2).toNat = 2 * k + 2 := by omega
      have q12 : 2 * k + 2 - 2 * k = 2 := by omega
      clear hgl ho hc hA hV
      go_wp2_with fail
      refine hN.mono ?_
      rintro e w2 ⟨rfl, h2⟩
      have HO2 : Hid (ArrC w2 B T cur) := HO.out.chg (h2.chg 0 0) (by omega)
      have HC2 : Hid (Chg B (B + 1) w w2) := HC.out.step (h2.chg 0 0) (Or.inr (Or.inr (Nat.le_refl _)))
      obtain ⟨v0, hv0⟩ : ∃ v0, w2.cell? ⟨B, o + k, none⟩ = some v0 := ⟨_, HO2.out.cell (o + k) (List.getElem?_eq_getElem (by rw [HL.out]; omega))⟩
      have hf0 := HO2.out.frozen (o + k)
      have HO3 : Hid (ArrC (w2.setCell ⟨B, o + k, none⟩ (.int .i64 x)) B T (splice cs o ((gps xs (k + 1)).map (Value.int .i64)))) := by show ArrC _ _ _ _; rw [← HT.out]; exact HO2.out.put (o + k) _
      have HC3 : Hid (Chg B (B + 1) w (w2.setCell ⟨B, o + k, none⟩ (.int .i64 x))) := HC2.out.setCell (Or.inl ⟨Nat.le_refl _, Nat.lt_succ_self _⟩) _
      clear hN h2 HO HC HO2 HC2 HT HL
      go_wp2
      go_roundw
      case rel => exact ⟨k + 1, by omega, by go_num, HO3.out, HC3.out⟩
      case measure => simp [intOf]; omega
    · obtain rfl : k = m := by omega
      have HO : Hid (ArrC wr B T (splice cs o ((gps xs k).map (Value.int .i64)))) := ho
      clear ho hV
      go_wp2
      refine bodyPost_end (results_none rfl _ _ _) rfl ?_
      exact ⟨⟨_, rfl⟩, HO.out, hc⟩

end Go.Proofs.Ytedjnnfaahkppaa

namespace Go.Proofs.Ytedjnnfaahkppaa
open Go.RowKit

/-- The cells of an inode. -/
def nC (i : Ino) : List Value := [.int .i64 i.kind, .int .i64 i.links, .int .i64 i.size] ++ i.dir.map (Value.int .i64) ++ [.int .i64 i.ind]
theorem nC_len {i : Ino} (h : i.dir.length = 8) : (nC i).length = 12 := by unfold nC; simp [h]
theorem nC_one (i : Ino) : ∀ v ∈ nC i, v.oneCell' = true := by
  intro v hv
  unfold nC at hv
  simp only [List.mem_append, List.mem_cons, List.not_mem_nil, or_false, List.mem_map] at hv
  rcases hv with ((rfl | rfl | rfl) | ⟨x, _, rfl⟩) | rfl <;> rfl
theorem nC_0 (i : Ino) : (nC i)[0]? = some (.int .i64 i.kind) := rfl
theorem nC_1 (i : Ino) : (nC i)[1]? = some (.int .i64 i.links) := rfl
theorem nC_2 (i : Ino) : (nC i)[2]? = some (.int .i64 i.size) := rfl
theorem nC_d (i : Ino) {j : Nat} (h : j < i.dir.length) : (nC i)[3 + j]? = some (.int .i64 (i.dir.getD j 0)) := by
  unfold nC
  rw [List.getElem?_append_left (by simp; omega), List.getElem?_append_right (by simp)]
  simp [List.getD_eq_getElem?_getD, h]
theorem nC_i {i : Ino} (h : i.dir.length = 8) : (nC i)[11]? = some (.int .i64 i.ind) := by
  unfold nC
  rw [List.getElem?_append_right (by simp; omega)]
  simp [h]
theorem nC_setd {i : Ino} (h : i.dir.length = 8) {j : Nat} (hj : j < 8) (x : Int) : (nC i).set (3 + j) (.int .i64 x) = nC { i with dir := i.dir.set j x } := by
  unfold nC
  rw [List.append_assoc, List.set_append, if_neg (by simp), List.set_append, if_pos (by simp; omega)]
  simp [List.map_set]
theorem nC_seti {i : Ino} (h : i.dir.length = 8) (x : Int) : (nC i).set 11 (.int .i64 x) = nC { i with ind := x } := by
  unfold nC
  rw [List.set_append, if_neg (by simp; omega)]
  simp [h]
/-- The eight numbers, where they lie. -/
theorem nC_range {w : World} {b : Nat} {T : TypeId} {i : Ino} (h : ArrC w b T (nC i)) : w.rangeAt b 3 (i.dir.map (Value.int .i64)) := by
  intro j v hv
  have hj : j < i.dir.length := by have := (List.getElem?_eq_some_iff.1 hv).1; simpa using this
  rw [h.cell (3 + j) (nC_d i hj), ← hv]
  simp [List.getD_eq_getElem?_getD, hj]

def Z12 : List Value := List.replicate 12 (.int .i64 0)
theorem Z12_eq : (#[.int .i64 0, .int .i64 0, .int .i64 0, .int .i64 0, .int .i64 0, .int .i64 0, .int .i64 0, .int .i64 0, .int .i64 0, .int .i64 0, .int .i64 0, .int .i64 0] : Array Value) = Z12.toArray := by unfold Z12; rfl
theorem Z12_length : Z12.length = 12 := by unfold Z12; simp
def zeroI : Ino := ⟨0, 0, 0, [0, 0, 0, 0, 0, 0, 0, 0], 0⟩
theorem Z12_ino : Z12 = nC zeroI := by unfold Z12; rfl
theorem Try.sizeIno : (Try.prog.info? 39).map (·.size) = some 12 := by kernel_rfl
theorem Try.size8 : (Try.prog.info? 37).map (·.size) = some 8 := by kernel_rfl

theorem eightI {ds : List Int} (h : ds.length = 8) : ∃ a b c d e f g k, ds = [a, b, c, d, e, f, g, k] := by
  match ds, h with
  | [a, b, c, d, e, f, g, k], _ => exact ⟨a, b, c, d, e, f, g, k, rfl⟩

end Go.Proofs.Ytedjnnfaahkppaa

namespace Go.Proofs.Ytedjnnfaahkppaa
open Go.RowKit

theorem wpList_store_row {P : Program} {ops : Array Oper} {rest : List Oper} {op : Oper} {a : Act} {w : World} {Q : Exit → Act → World → Prop} (hgd : op.guard = none) (T : TypeId) (x y : Operand) (ho : op.op = .store T x y) (hd : op.dst = none) (g : Nat) (hx : a.eval x = .pointer (some ⟨g, 0, none⟩))
    (full L : List Value) (t : TypeId) (hy : a.eval y = .agg full.toArray) (hg : w.heap[g]? = some (.cells L.toArray t (0, 0))) (hl : full.length = L.length) (hi : (P.info? T).map (·.size) = some full.length) (h1 : ∀ v ∈ full, v.oneCell' = true)
    (h : ∀ w', w'.heap[g]? = some (.cells full.toArray t (0, 0)) → Chg g (g + 1) w w' → wpList P ops Q rest a w') : wpList P ops Q (op :: rest) a w :=
  wpList_plain hgd fun _ hK => wp_store_row T x y ho hd g hx full L t hy hg hl hi h1 (fun w' h2 h3 => hK _ _ (h w' h2 h3))

end Go.Proofs.Ytedjnnfaahkppaa

namespace Go.Proofs.Ytedjnnfaahkppaa
open Go.RowKit

theorem row_view {w : World} {b : Nat} {xs : List Int} {t : TypeId} (h : w.heap[b]? = some (.cells (xs.map (Value.int .u8)).toArray t (0, 0))) (o n cap : Nat) (hn : o + n ≤ xs.length) (hl : xs.length ≤ 1048576) (hc : n ≤ cap) : View w b (b + 1) .u8 (.slice (some ⟨b, o, none⟩) n cap) ((xs.drop o).take n) := by
  have hlen : ((xs.drop o).take n).length = n := by rw [List.length_take, List.length_drop]; omega
  refine ⟨_, cap, by rw [hlen], by rw [hlen]; omega, ⟨by rw [hlen]; exact hc, by simp⟩, Or.inr ⟨b, o, rfl, Nat.le_refl _, Nat.lt_succ_self _, fun i hi => ?_⟩⟩
  rw [hlen] at hi
  simp only [World.cell?, h, List.getElem?_toArray, List.getElem?_map, List.getD_eq_getElem?_getD, List.getElem?_take, List.getElem?_drop, if_pos hi]
  rw [List.getElem?_eq_getElem (show o + i < xs.length by omega)]
  rfl

theorem row_rng {w : World} {b : Nat} {cs : List Value} {t : TypeId} (h : w.heap[b]? = some (.cells cs.toArray t (0, 0))) : w.rangeAt b 0 cs := by
  intro j v hj
  rw [Nat.zero_add]
  simp [World.cell?, h, hj]

/-- 64 cells that bear 0, kept closed. -/
def Z64 : List Value := [.int .u8 0, .int .u8 0, .int .u8 0, .int .u8 0, .int .u8 0, .int .u8 0, .int .u8 0, .int .u8 0, .int .u8 0, .int .u8 0, .int .u8 0, .int .u8 0, .int .u8 0, .int .u8 0, .int .u8 0, .int .u8 0, .int .u8 0, .int .u8 0, .int .u8 0, .int .u8 0, .int .u8 0, .int .u8 0, .int .u8 0, .int .u8 0, .int .u8 0, .int .u8 0, .int .u8 0, .int .u8 0, .int .u8 0, .int .u8 0, .int .u8 0, .int .u8 0, .int .u8 0, .int .u8 0, .int .u8 0, .int .u8 0, .int .u8 0, .int .u8 0, .int .u8 0, .int .u8 0, .int .u8 0, .int .u8 0, .int .u8 0, .int .u8 0, .int .u8 0, .int .u8 0, .int .u8 0, .int .u8 0, .int .u8 0, .int .u8 0, .int .u8 0, .int .u8 0, .int .u8 0, .int .u8 0, .int .u8 0, .int .u8 0, .int .u8 0, .int .u8 0, .int .u8 0, .int .u8 0, .int .u8 0, .int .u8 0, .int .u8 0, .int .u8 0]

theorem Z64_eq : (#[.int .u8 0, .int .u8 0, .int .u8 0, .int .u8 0, .int .u8 0, .int .u8 0, .int .u8 0, .int .u8 0, .int .u8 0, .int .u8 0, .int .u8 0, .int .u8 0, .int .u8 0, .int .u8 0, .int .u8 0, .int .u8 0, .int .u8 0, .int .u8 0, .int .u8 0, .int .u8 0, .int .u8 0, .int .u8 0, .int .u8 0, .int .u8 0, .int .u8 0, .int .u8 0, .int .u8 0, .int .u8 0, .int .u8 0, .int .u8 0, .int .u8 0, .int .u8 0, .int .u8 0, .int .u8 0, .int .u8 0, .int .u8 0, .int .u8 0, .int .u8 0, .int .u8 0, .int .u8 0, .int .u8 0, .int .u8 0, .int .u8 0, .int .u8 0, .int .u8 0, .int .u8 0, .int .u8 0, .int .u8 0, .int .u8 0, .int .u8 0, .int .u8 0, .int .u8 0, .int .u8 0, .int .u8 0, .int .u8 0, .int .u8 0, .int .u8 0, .int .u8 0, .int .u8 0, .int .u8 0, .int .u8 0, .int .u8 0, .int .u8 0, .int .u8 0] : Array Value) = Z64.toArray := by unfold Z64; rfl

theorem Z64_length : Z64.length = 64 := by unfold Z64; rfl

theorem Z64_one : ∀ v ∈ Z64, v.oneCell' = true := by
  intro v hv
  have : v = .int .u8 0 := by
    have h : Z64 = List.replicate 64 (.int .u8 0) := by unfold Z64; rfl
    rw [h] at hv
    exact List.eq_of_mem_replicate hv
  rw [this]; rfl

theorem View.cellAt' {w : World} {lo hi g n cap : Nat} {xs : List Int} (h : View w lo hi .u8 (.slice (some ⟨g, 0, none⟩) n cap) xs) (i : Nat) (hi : i < xs.length) : w.cell? ⟨g, i, none⟩ = some (.int .u8 (xs.getD i 0)) := by
  obtain ⟨_, _, e, _, _, h⟩ := h
  simp only [Value.slice.injEq] at e
  rcases h with h | ⟨b, off, ha, _, _, h3⟩
  · rw [h] at hi; simp at hi
  · rw [← e.1] at ha
    cases ha
    have := h3 i hi
    rwa [Nat.zero_add] at this

theorem results_one {P : Program} {fn : Func} {p : Tmp} {ty : TypeId} {w : World} {tmps : Array Value} {a : Addr} {v : Value} (h : fn.results = #[.cell p ty]) (ht : tmps.getD p undef = .pointer (some a)) (hl : (loadVar ty a).run P w = .ok v w) :
    (results fn tmps).run P w = .ok v w := by
  have ht' : tmps[p]?.getD undef = .pointer (some a) := by simpa using ht
  simp only [results, h]
  simp [asAddr, ht', hl]

end Go.Proofs.Ytedjnnfaahkppaa
