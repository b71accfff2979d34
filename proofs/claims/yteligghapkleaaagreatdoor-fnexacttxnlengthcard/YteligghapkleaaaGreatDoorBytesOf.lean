/- Several short texts in one: ArrKit, Byt, PutN, Cells, BytesOf. -/
import Derived.Test.YteligghapkleaaaGreatDoorMem
import Derived.Deep.MidRow
import Derived.Test.YteligghapkleaaaGreatDoorRows
import Derived.Laws.AppendOwnNone
import Derived.Deep.RegionHeld3
namespace Go.Proofs.YteligghapkleaaaGreatDoor
open Go.RowKit

/-- The block b has these cells. -/
def ArrC (w : World) (b : Nat) (T : TypeId) (cs : List Value) : Prop := w.heap[b]? = some (.cells cs.toArray T (0, 0))
theorem ArrC.lt {w : World} {b : Nat} {T : TypeId} {cs : List Value} (h : ArrC w b T cs) : b < w.heap.size := (Array.getElem?_eq_some_iff.1 h).1
theorem ArrC.cell {w : World} {b : Nat} {T : TypeId} {cs : List Value} (h : ArrC w b T cs) (i : Nat) {v : Value} (hv : cs[i]? = some v) : w.cell? ⟨b, i, none⟩ = some v := by
  have h' : w.heap[b]? = some (.cells cs.toArray T (0, 0)) := h
  simp only [World.cell?, h']
  simpa using hv
theorem ArrC.frozen {w : World} {b : Nat} {T : TypeId} {cs : List Value} (h : ArrC w b T cs) (i : Nat) : w.frozen? ⟨b, i, none⟩ = false := by
  have h' : w.heap[b]? = some (.cells cs.toArray T (0, 0)) := h
  simp [World.frozen?, h']
theorem ArrC.put {w : World} {b : Nat} {T : TypeId} {cs : List Value} (h : ArrC w b T cs) (i : Nat) (v : Value) : ArrC (w.setCell ⟨b, i, none⟩ v) b T (cs.set i v) := by
  have h' : w.heap[b]? = some (.cells cs.toArray T (0, 0)) := h
  show (w.setCell ⟨b, i, none⟩ v).heap[b]? = _
  simp only [World.setCell, Array.getElem?_modify, if_true, h', Option.map_some]
  simp
theorem ArrC.chg {w w' : World} {b l r : Nat} {T : TypeId} {cs : List Value} (h : ArrC w b T cs) (c : Chg l r w w') (d : b < l ∨ r ≤ b) : ArrC w' b T cs := (c.block b h.lt d).trans h
theorem ArrC.range {w : World} {b : Nat} {T : TypeId} {cs : List Value} (h : ArrC w b T cs) : w.rangeAt b 0 cs := by
  intro j v hv
  rw [Nat.zero_add]
  exact h.cell j hv
theorem ArrC.new (w : World) (T : TypeId) (cs : List Value) : ArrC (w.alloc (.cells cs.toArray T)) w.heap.size T cs := heap_new w _

/-- One of an array that is a value. -/
theorem run_idx {P : Program} {t e : TypeId} {n : Nat} {kd : IntKind} {row : List Value} {k : Nat} {v : Value} (h : P.underlying t = some (.array n e)) (he : P.underlying e = some (.int kd)) (hs : (P.info? e).map (·.size) = some 1) (hk : k < n) (hv : row[k]? = some v) (w : World) :
    (Instr.index t (.agg row.toArray) (.int .i64 (k : Int))).run P w = .ok v w := by
  cases hq : P.info? e with
  | none => rw [hq] at hs; cases hs
  | some i =>
    have hs : i.size = 1 := by simpa [hq] using hs
    have hk' : 0 ≤ (k : Int) ∧ (k : Int) < (n : Int) := by omega
    have hkl : k < row.length := (List.getElem?_eq_some_iff.1 hv).1
    have hv' : row[k] = v := (List.getElem?_eq_some_iff.1 hv).2
    simp [Instr.index, run_underlying h, asIntOf, hk', part, isAgg, run_underlying he, sizeOf, typeInfo, hq, hs, hkl, hv', go_sem]
    intro hc
    omega

theorem results_ct {P : Program} {fn : Func} {p1 p3 : Tmp} {t1 : TypeId} {w : World} {tmps : Array Value} {a1 : Addr} {v1 v3 : Value} (h : fn.results = #[.cell p1 t1, .tmp p3]) (h1 : tmps.getD p1 undef = .pointer (some a1)) (h3 : tmps.getD p3 undef = v3)
    (hl : (loadVar t1 a1).run P w = .ok v1 w) : (results fn tmps).run P w = .ok (.tuple #[v1, v3]) w := by
  have h1' : tmps[p1]?.getD undef = .pointer (some a1) := by simpa using h1
  have h3' : tmps[p3]?.getD undef = v3 := by simpa using h3
  simp only [results, h]
  simp [asAddr, h1', h3', hl]

/-- A whole row is read, where it is wanted. -/
theorem wpList_load_midG {P : Program} {ops : Array Oper} {rest : List Oper} {op : Oper} {a : Act} {w : World} {Q : Exit → Act → World → Prop} (hgd : Region.wanted op (yielded ops a.tmps) = true) (ty : TypeId) (x : Operand) (ho : op.op = .load ty x)
    (b o : Nat) (hx : a.eval x = .pointer (some ⟨b, o, none⟩)) (cs : List Value) (d : TypeDesc) (hc : w.rangeAt b o cs)
    (hu : P.underlying ty = some d) (hd : d.isRow = true) (hi : (P.info? ty).map (·.size) = some cs.length)
    (h : wpList P ops Q rest (a.put op.dst (.agg cs.toArray)) w) : wpList P ops Q (op :: rest) a w :=
  wpList_step fun K hK => by rw [if_pos hgd]; exact wp_load_mid ty x ho b o hx cs d hc hu hd hi (hK _ _ h)

end Go.Proofs.YteligghapkleaaaGreatDoor

namespace Go.Proofs.YteligghapkleaaaGreatDoor
open Go.RowKit

def Byt (xs : List Int) : Prop := ∀ x ∈ xs, 0 ≤ x ∧ x < 256

theorem Byt.getD {xs : List Int} (h : Byt xs) (k : Nat) : 0 ≤ xs.getD k 0 ∧ xs.getD k 0 < 256 := by
  rw [List.getD_eq_getElem?_getD]
  by_cases hk : k < xs.length
  · rw [List.getElem?_eq_getElem hk]; exact h _ (List.getElem_mem hk)
  · rw [List.getElem?_eq_none (by omega)]; simp

theorem byt_of_wf {xs : List Int} (h : ∀ x ∈ xs, (Lit.int .u8 x).wf = true) : Byt xs := by
  intro x hx
  have h1 := h x hx
  have h2 : IntKind.u8.min ≤ x ∧ x ≤ IntKind.u8.max := by simpa [Lit.wf] using h1
  have e1 : IntKind.u8.min = 0 := by decide
  have e2 : IntKind.u8.max = 255 := by decide
  omega

theorem Byt.take {xs : List Int} (h : Byt xs) (n : Nat) : Byt (xs.take n) := fun x hx => h x (List.mem_of_mem_take hx)
theorem Byt.drop {xs : List Int} (h : Byt xs) (n : Nat) : Byt (xs.drop n) := fun x hx => h x (List.mem_of_mem_drop hx)

end Go.Proofs.YteligghapkleaaaGreatDoor

namespace Go.Proofs.YteligghapkleaaaGreatDoor
open Go.RowKit

theorem Tryz.infoU1 : (Tryz.prog.info? 5).map (fun i => (i.zero, i.size, i.bytes)) = some (some (.int .u8 0), 1, 1) := by kernel_rfl

/-- The lowest n digits of a number to the base 256, the highest first. -/
def digs (v : Int) : Nat → List Int
  | 0 => []
  | n + 1 => (v / 256 ^ n % 256) :: digs v n

theorem digs_length (v : Int) (n : Nat) : (digs v n).length = n := by
  induction n with
  | zero => rfl
  | succ n ih => simp [digs, ih]

theorem div_next (v : Int) (k : Nat) : v / 256 ^ (k + 1) = v / 256 ^ k / 256 := by
  rw [Int.pow_succ, Int.ediv_ediv_of_nonneg (Int.le_of_lt (Int.pow_pos (by decide)))]

theorem div_nonneg' {v : Int} (h : 0 ≤ v) (k : Nat) : 0 ≤ v / 256 ^ k := Int.ediv_nonneg h (Int.le_of_lt (Int.pow_pos (by decide)))

theorem div_le' {v : Int} (h : 0 ≤ v) (k : Nat) : v / 256 ^ k ≤ v := Int.ediv_le_self _ h

/-- What PutNumber answers. -/
def putN (v n : Int) : List Int := if n < 1 ∨ n > 8 ∨ v < 0 then [] else if v / 256 ^ n.toNat > 0 then [] else digs v n.toNat

set_option maxRecDepth 20000 in
set_option maxHeartbeats 1000000 in
theorem specPut_calls (w : World) (v n : Int) (hv : v ≤ 9223372036854775807) : Calls Tryz.prog 38 #[.int .i64 v, .int .i64 n] w fun e w' => ∃ r, e = .returned r ∧ OwnB w' w.heap.size 5 r (putN v n) ∧ Chg 0 0 w w' := by
  obtain ⟨i, hi, hz0, hz1, hz2⟩ := info_parts Tryz.infoU1
  have C0 : Chg 0 0 w (w.alloc (.cells #[] 5)) := Chg.alloc (Chg.refl 0 0 w) _
  have O0 : (w.alloc (.cells #[] 5)).ownsRow w.heap.size 5 1 (.slice (some ⟨w.heap.size, 0, none⟩) 0 0) 0 [] := by
    have := World.ownsRow_lit (base := w.heap.size) (e := 5) (size := 1) w #[] 0 (Nat.le_refl _) (by unfold maxLen; omega) rfl
    simpa using this
  by_cases hbad : n < 1 ∨ n > 8 ∨ v < 0
  · have HO : Hid (OwnB (w.alloc (.cells #[] 5)) w.heap.size 5 (.slice (some ⟨w.heap.size, 0, none⟩) 0 0) (putN v n)) := by
      show OwnB _ _ _ _ _
      unfold putN; rw [if_pos hbad]; exact O0
    clear O0
    by_cases h1 : n < 1
    · go_enter Tryz.func38, Tryz.ntmps38
      go_wp2
      go_ret
      exact ⟨_, rfl, HO.out, C0⟩
    · by_cases h2 : n > 8
      · go_enter Tryz.func38, Tryz.ntmps38
        go_wp2
        go_ret
        exact ⟨_, rfl, HO.out, C0⟩
      · have h3 : v < 0 := by omega
        go_enter Tryz.func38, Tryz.ntmps38
        go_wp2
        go_ret
        exact ⟨_, rfl, HO.out, C0⟩
  · obtain ⟨m, rfl⟩ : ∃ m : Nat, n = (m : Int) := ⟨n.toNat, by omega⟩
    have h1 : ¬ (m : Int) < 1 := by omega
    have h2 : ¬ (m : Int) > 8 := by omega
    have h3 : ¬ v < 0 := by omega
    have HO : Hid (OwnB (w.alloc (.cells #[] 5)) w.heap.size 5 (.slice (some ⟨w.heap.size, 0, none⟩) 0 0) (digs v 0)) := O0
    have HB : Hid (¬ ((m : Int) < 1 ∨ (m : Int) > 8 ∨ v < 0)) := hbad
    have HC : Hid (Chg 0 0 w (w.alloc (.cells #[] 5))) := C0
    clear O0 hbad C0
    go_enter Tryz.func38, Tryz.ntmps38
    go_wp2
    go_loopw [0, 5, 6] (fun u out i wr => ∃ k : Nat, k ≤ m ∧ i = .int .i64 k ∧ u = .int .i64 (v / 256 ^ k) ∧ (∃ g cap, out = .slice (some ⟨g, 0, none⟩) k cap) ∧ OwnB wr w.heap.size 5 out (digs v k) ∧ Chg 0 0 w wr) (fun _ _ i _ => m - (intOf i).toNat)
    case atStart => exact ⟨0, Nat.zero_le _, rfl, by simp, ⟨_, _, rfl⟩, HO.out, HC.out⟩
    case round =>
      obtain ⟨k, hk, rfl, rfl, ⟨g, cap, rfl⟩, ho, hc⟩ := hrel
      clear HO HC
      by_cases hlt : k < m
      · have hi' : (k : Int) < (m : Int) := by omega
        have b1 := div_nonneg' (v := v) (by omega) k
        have b2 := div_le' (v := v) (by omega) k
        generalize hu : v / 256 ^ k = u at *
        have hlen := digs_length v k
        have O1 : (wr.alloc (.cells #[.int .u8 (u % 256)] 5)).ownsRow w.heap.size 5 1 (.slice (some ⟨wr.heap.size, 0, none⟩) 1 1) 1 [.int .u8 (u % 256)] :=
          World.ownsRow_lit (base := w.heap.size) (e := 5) (size := 1) wr #[.int .u8 (u % 256)] 1 hc.size (by unfold maxLen; omega) rfl
        have hsrc : ∀ j y, ((digs v k).map (Value.int .u8))[j]? = some y → (wr.alloc (.cells #[.int .u8 (u % 256)] 5)).cell? ((⟨g, 0, none⟩ : Addr).add j) = some y := by
          intro j y hj
          have hjl : j < k := by have := (List.getElem?_eq_some_iff.1 hj).1; simpa [hlen] using this
          have ho' : wr.ownsRow w.heap.size 5 1 (.slice (some ⟨g, 0, none⟩) k cap) k ((digs v k).map (Value.int .u8)) := by
            have := ho; unfold OwnB at this; rw [hlen] at this; exact this
          have h4 := World.ownsRow.cellAt ho' j (by omega)
          rw [hj] at h4
          rw [Addr.add_mid, Nat.zero_add]
          exact (Chg.alloc (Chg.refl 0 0 wr) _).cell h4 (by omega)
        have Hsrc : Hid (∀ j y, ((digs v k).map (Value.int .u8))[j]? = some y → (wr.alloc (.cells #[.int .u8 (u % 256)] 5)).cell? ((⟨g, 0, none⟩ : Addr).add j) = some y) := hsrc
        have bs : Hid (w.heap.size ≤ (wr.alloc (.cells #[.int .u8 (u % 256)] 5)).heap.size) := by show _ ≤ _; have := hc.size; simp; omega
        have HO1 : Hid _ := O1
        have HL : Hid ((digs v k).length = k) := hlen
        have HU : Hid (v / 256 ^ k = u) := hu
        have Hc : Hid (Chg 0 0 w wr) := hc
        clear hsrc ho O1 hlen hu hc
        go_wp2_with (at_builtin; refine wpList_append_own _ rfl (.tmp 27) (.tmp 28) 36 rfl w.heap.size 5 i (.int .u8 0) 1 1 Tryz.underlying36 hi hz0 hz1 hz2 rfl (by decide) _ 1 [.int .u8 (u % 256)] rfl HO1.out ⟨g, 0, none⟩ k cap ((digs v k).map (Value.int .u8)) rfl (by rw [List.length_map, HL.out]; omega) Hsrc.out (ints_oneCell _ _) (by unfold maxLen; omega) (by omega) bs.out ?_)
        intro v' w1 hown hgrow hnn
        have HO : Hid (OwnB w1 w.heap.size 5 v' (digs v (k + 1))) := by
          show OwnB _ _ _ _ _
          unfold OwnB
          rw [digs_length, digs, HU.out, List.map_cons, Nat.add_comm k 1]
          exact hown
        have HV : Hid (∃ g cap, v' = .slice (some ⟨g, 0, none⟩) (k + 1) cap) := by
          show ∃ g cap, _
          rcases hown.2 with ⟨e, _⟩ | ⟨g', cap', cur, e, _⟩
          · exact absurd e (by simpa using hnn)
          · exact ⟨g', cap', by rw [e, Nat.add_comm]⟩
        have HC : Hid (Chg 0 0 w w1) := (Hc.out.alloc _).step (Chg.ofGrown (lo := wr.heap.size) (hi := wr.heap.size + 1) hgrow (fun k hk _ => by simp only [Value.ownBlock, Option.some.injEq] at hk; omega)) (Or.inr (Or.inl Hc.out.size))
        clear hown hgrow hnn HO1 Hsrc bs
        go_wp2
        go_roundw
        case rel => exact ⟨k + 1, by omega, by go_num, by rw [div_next, HU.out], HV.out, HO.out, HC.out⟩
        case measure => simp [intOf]; omega
      · obtain rfl : k = m := by omega
        have e0 : (k : Int).toNat = k := by omega
        have b1 := div_nonneg' (v := v) (by omega) k
        have b2 := div_le' (v := v) (by omega) k
        by_cases hp : v / 256 ^ k > 0
        · have HO : Hid (OwnB (wr.alloc (.cells #[] 5)) w.heap.size 5 (.slice (some ⟨wr.heap.size, 0, none⟩) 0 0) (putN v k)) := by
            show OwnB _ _ _ _ _
            unfold putN; rw [if_neg HB.out, e0, if_pos hp]
            have := World.ownsRow_lit (base := w.heap.size) (e := 5) (size := 1) wr #[] 0 hc.size (by unfold maxLen; omega) rfl
            exact this
          have HC := hc.alloc (.cells #[] 5)
          generalize v / 256 ^ k = u at *
          clear ho
          go_wp2
          go_ret
          exact ⟨_, rfl, HO.out, HC⟩
        · have HO : Hid (OwnB wr w.heap.size 5 (.slice (some ⟨g, 0, none⟩) k cap) (putN v k)) := by
            show OwnB _ _ _ _ _
            unfold putN; rw [if_neg HB.out, e0, if_neg hp]; exact ho
          generalize v / 256 ^ k = u at *
          clear ho
          go_wp2
          go_ret
          exact ⟨_, rfl, HO.out, hc⟩

/-- What lies in the row when its last k cells are written. -/
theorem digs_set (v : Int) (m k : Nat) (h : k < m) :
    ((List.replicate (m - k) 0 ++ digs v k).map (Value.int .u8)).set (m - k - 1) (.int .u8 (v / 256 ^ k % 256)) = (List.replicate (m - (k + 1)) 0 ++ digs v (k + 1)).map (Value.int .u8) := by
  have e : m - k = (m - (k + 1)) + 1 := by omega
  have e2 : m - k - 1 = m - (k + 1) := by omega
  rw [e2, e, List.replicate_succ', List.append_assoc, List.map_append, List.map_append, List.set_append]
  simp [digs]

set_option maxRecDepth 20000 in
set_option maxHeartbeats 1000000 in
theorem implPut_calls (w : World) (v n : Int) (hv : v ≤ 9223372036854775807) : Calls Tryz.prog 65 #[.int .i64 v, .int .i64 n] w fun e w' => ∃ r, e = .returned r ∧ OwnB w' w.heap.size 5 r (putN v n) ∧ Chg 0 0 w w' := by
  obtain ⟨i, hi, hz0, hz1, hz2⟩ := info_parts Tryz.infoU1
  by_cases hbad : n < 1 ∨ n > 8 ∨ v < 0
  · have HO : Hid (OwnB w w.heap.size 5 (.slice none 0 0) (putN v n)) := by
      show OwnB _ _ _ _ _
      unfold putN; rw [if_pos hbad]; exact OwnB.nil _ _ _
    by_cases h1 : n < 1
    · go_enter Tryz.func65, Tryz.ntmps65
      go_wp2
      go_ret
      exact ⟨_, rfl, HO.out, Chg.refl _ _ _⟩
    · by_cases h2 : n > 8
      · go_enter Tryz.func65, Tryz.ntmps65
        go_wp2
        go_ret
        exact ⟨_, rfl, HO.out, Chg.refl _ _ _⟩
      · have h3 : v < 0 := by omega
        go_enter Tryz.func65, Tryz.ntmps65
        go_wp2
        go_ret
        exact ⟨_, rfl, HO.out, Chg.refl _ _ _⟩
  · obtain ⟨m, rfl⟩ : ∃ m : Nat, n = (m : Int) := ⟨n.toNat, by omega⟩
    have h1 : ¬ (m : Int) < 1 := by omega
    have h2 : ¬ (m : Int) > 8 := by omega
    have h3 : ¬ v < 0 := by omega
    have HB : Hid (¬ ((m : Int) < 1 ∨ (m : Int) > 8 ∨ v < 0)) := hbad
    clear hbad
    go_enter Tryz.func65, Tryz.ntmps65
    go_wp2_with (at_make; refine wpList_make_full _ rfl _ _ 36 rfl w.heap.size 5 i (.int .u8 0) 1 Tryz.underlying36 hi hz0 hz1 _ _ _ _ m rfl rfl rfl rfl (by rw [hz2]; omega) (by unfold maxLen; omega) (by simp) ?_)
    intro w1 hown hgrow
    have hch : Chg 0 0 w w1 := Chg.ofGrown hgrow (by simp)
    have hO : OwnB w1 w.heap.size 5 (.slice (some ⟨w.heap.size, 0, none⟩) m m) (List.replicate (m - 0) 0 ++ digs v 0) := by
      unfold OwnB
      simpa [toList_madeCells_one, digs] using hown
    have hlt0 : w.heap.size < w1.heap.size := by
      have := World.ownsRow.lt hown w.heap.size rfl; omega
    clear hown hgrow
    go_wp2
    go_loopw [5, 7] (fun u i wr => ∃ k : Nat, k ≤ m ∧ i = .int .i64 ((m : Int) - k - 1) ∧ u = .int .u64 (v / 256 ^ k) ∧ OwnB wr w.heap.size 5 (.slice (some ⟨w.heap.size, 0, none⟩) m m) (List.replicate (m - k) 0 ++ digs v k) ∧ Chg 0 0 w wr) (fun _ i _ => (intOf i + 1).toNat)
    case atStart => exact ⟨0, Nat.zero_le _, by go_num, by simp, hO, hch⟩
    case round =>
      obtain ⟨k, hk, rfl, rfl, hown, hc⟩ := hrel
      clear hO hch
      have hlen : (List.replicate (m - k) 0 ++ digs v k).length = m := by simp [digs_length]; omega
      have b1 := div_nonneg' (v := v) (by omega) k
      have b2 := div_le' (v := v) (by omega) k
      by_cases hlt : k < m
      · obtain ⟨j, hj⟩ : ∃ j : Nat, j = m - k - 1 := ⟨_, rfl⟩
        have ej : (m : Int) - k - 1 = (j : Int) := by omega
        have hown' : wr.ownsRow w.heap.size 5 1 (.slice (some ⟨w.heap.size, 0, none⟩) m m) m ((List.replicate (m - k) 0 ++ digs v k).map (Value.int .u8)) := by
          have := hown; unfold OwnB at this; rw [hlen] at this; exact this
        have c1 : ∃ y, wr.cell? ⟨w.heap.size, j, none⟩ = some y := by
          have := World.ownsRow.cellAt hown' j (by omega)
          rw [this]
          exact ⟨_, List.getElem?_eq_getElem (by rw [List.length_map, hlen]; omega)⟩
        obtain ⟨y, c1⟩ := c1
        have f1 : wr.frozen? ⟨w.heap.size, j, none⟩ = false := World.ownsRow.frozenAt hown' j
        have hst := (World.ownsRow.stored hown' j (.int .u8 (v / 256 ^ k % 256))).1
        rw [hj, digs_set _ _ _ hlt, ← hj] at hst
        have hlen2 : (List.replicate (m - (k + 1)) 0 ++ digs v (k + 1)).length = m := by simp [digs_length]; omega
        have HR : Hid (OwnB (wr.setCell ⟨w.heap.size, j, none⟩ (.int .u8 (v / 256 ^ k % 256))) w.heap.size 5 (.slice (some ⟨w.heap.size, 0, none⟩) m m) (List.replicate (m - (k + 1)) 0 ++ digs v (k + 1))) := by
          show OwnB _ _ _ _ _
          unfold OwnB; rw [hlen2]; exact hst
        have HR2 : Hid (Chg 0 0 w (wr.setCell ⟨w.heap.size, j, none⟩ (.int .u8 (v / 256 ^ k % 256)))) := hc.setCell (Or.inr (Nat.le_refl _)) _
        have HU : Hid (v / 256 ^ (k + 1) = v / 256 ^ k / 256) := div_next v k
        generalize v / 256 ^ k = u at *
        clear hst hown hown' hlen hlen2 hc
        rw [ej]
        have hj1 : (j : Int) < (m : Int) := by omega
        have HJ : Hid (j = m - k - 1) := hj
        clear hj ej
        go_wp2
        go_roundw
        case rel => exact ⟨k + 1, by omega, by have := HJ.out; congr 1; omega, by rw [HU.out], HR.out, HR2.out⟩
        case measure => simp [intOf]
      · obtain rfl : k = m := by omega
        have e0 : (k : Int).toNat = k := by omega
        have e1 : (k : Int) - k - 1 = -1 := by omega
        rw [e1]
        clear hlen
        by_cases hp : v / 256 ^ k > 0
        · have HO : Hid (OwnB wr w.heap.size 5 (.slice none 0 0) (putN v k)) := by
            show OwnB _ _ _ _ _
            unfold putN; rw [if_neg HB.out, e0, if_pos hp]; exact OwnB.nil _ _ _
          have hne : (v / 256 ^ k != 0) = true := by simp; omega
          generalize v / 256 ^ k = u at *
          clear hown
          go_wp2
          go_ret
          exact ⟨_, rfl, HO.out, hc⟩
        · have HO : Hid (OwnB wr w.heap.size 5 (.slice (some ⟨w.heap.size, 0, none⟩) k k) (putN v k)) := by
            show OwnB _ _ _ _ _
            unfold putN; rw [if_neg HB.out, e0, if_neg hp]
            have := hown; rw [Nat.sub_self, List.replicate_zero, List.nil_append] at this; exact this
          have hz : v / 256 ^ k = 0 := by omega
          rw [hz]
          clear hown
          go_wp2
          go_ret
          exact ⟨_, rfl, HO.out, hc⟩

end Go.Proofs.YteligghapkleaaaGreatDoor

namespace Go.Proofs.YteligghapkleaaaGreatDoor
open Go.RowKit

theorem Chg.setCells (g : Nat) : ∀ (vs : List Value) (o : Nat) (w : World), Chg g (g + 1) w (w.setCells g o vs)
  | [], _, _ => Chg.refl _ _ _
  | v :: r, o, w => (Chg.setCell (Chg.refl g (g + 1) w) (p := ⟨g, o, none⟩) (Or.inl ⟨Nat.le_refl _, Nat.lt_succ_self _⟩) v).trans (Chg.setCells g r (o + 1) _)

theorem splice_cons {α : Type} (L : List α) (o : Nat) (v : α) (r : List α) (h : o < L.length) : splice (L.set o v) (o + 1) r = splice L o (v :: r) := by
  unfold splice
  have e1 : (L.set o v).take (o + 1) = L.take o ++ [v] := by
    rw [List.take_succ_eq_append_getElem (by simpa using h), List.take_set, List.set_eq_of_length_le (by simp; omega)]
    simp
  have e2 : (L.set o v).drop (o + 1 + r.length) = L.drop (o + (v :: r).length) := by
    rw [List.drop_set_of_lt (by omega)]
    congr 1
    simp only [List.length_cons]; omega
  rw [e1, e2]
  simp

theorem heap_setCells (g : Nat) (t : TypeId) : ∀ (vs : List Value) (o : Nat) (w : World) (L : List Value), w.heap[g]? = some (.cells L.toArray t (0, 0)) → o + vs.length ≤ L.length →
    (w.setCells g o vs).heap[g]? = some (.cells (splice L o vs).toArray t (0, 0))
  | [], o, w, L, h, _ => by simpa [World.setCells, splice] using h
  | v :: r, o, w, L, h, hl => by
    have h1 : (w.setCell ⟨g, o, none⟩ v).heap[g]? = some (.cells (L.set o v).toArray t (0, 0)) := by
      have := heap_setCell_same w g o L.toArray t v h
      simpa using this
    have := heap_setCells g t r (o + 1) _ (L.set o v) h1 (by simp at *; omega)
    rw [splice_cons L o v r (by simp at hl; omega)] at this
    exact this

theorem row_there {w : World} {g : Nat} {L : List Value} {t : TypeId} (h : w.heap[g]? = some (.cells L.toArray t (0, 0))) : w.there g 0 L.length := by
  intro j hj
  rw [Nat.zero_add]
  refine ⟨?_, ?_⟩
  · simp [World.cell?, h, hj]
  · simp [World.frozen?, h]

/-- A row is written whole. -/
theorem wp_store_row {P : Program} {o : Oper} {a : Act} {w : World} {K : Act → World → Prop} {Q : Exit → Act → World → Prop} (T : TypeId) (p v : Operand) (ho : o.op = .store T p v) (hd : o.dst = none) (g : Nat) (hp : a.eval p = .pointer (some ⟨g, 0, none⟩))
    (full L : List Value) (t : TypeId) (hv : a.eval v = .agg full.toArray) (hg : w.heap[g]? = some (.cells L.toArray t (0, 0))) (hl : full.length = L.length) (hi : (P.info? T).map (·.size) = some full.length) (h1 : ∀ v ∈ full, v.oneCell' = true)
    (h : ∀ w', w'.heap[g]? = some (.cells full.toArray t (0, 0)) → Chg g (g + 1) w w' → K a w') : o.wp P a w K Q := by
  have ht : w.there g 0 full.toArray.size := by have := row_there hg; simpa [hl] using this
  refine wp_store_mid T p v ho g 0 full.toArray hp hv ht (by simpa using hi) (by rw [Array.all_eq_true_iff_forall_mem]; intro x hx; exact h1 x (by simpa using hx)) ?_
  rw [hd]
  refine h _ ?_ (Chg.setCells g _ 0 w)
  have := heap_setCells g t full 0 w L hg (by omega)
  have e : splice L 0 full = full := by
    unfold splice
    rw [List.take_zero, List.nil_append, Nat.zero_add, List.drop_of_length_le (by omega), List.append_nil]
  rw [e] at this
  exact this

end Go.Proofs.YteligghapkleaaaGreatDoor

namespace Go.Proofs.YteligghapkleaaaGreatDoor
open Go.RowKit

theorem Chg.setRow (w : World) (g : Nat) (cs : Array Value) : Chg g (g + 1) w (w.setRow g cs) :=
  ⟨rfl, rfl, rfl, by simp [World.setRow], fun k _ hk => setRow_other w g k cs (by omega)⟩

theorem Tryz.infoU : (Tryz.prog.info? 5).map (fun i => (i.zero, i.size, i.bytes)) = some (some (.int .u8 0), 1, 1) := by kernel_rfl

end Go.Proofs.YteligghapkleaaaGreatDoor
