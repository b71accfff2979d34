/- Several short texts in one: Head, Held, OpenBlk, Small, ImplBegun, EncRow. -/
import Derived.Test.YtmfkgnifkkkkiaaDoorWeak
import Derived.Test.YtmfkgnifkkkkiaaDoorBytesOf
import Derived.Deep.RegionHeld3
import Derived.OrdersHeld
import Derived.Test.YtmfkgnifkkkkiaaDoorAppSeen
import Derived.Deep.RegionWith
import Derived.Deep.DeepCutAuto
import Derived.Test.YtmfkgnifkkkkiaaDoorMem
import Derived.Test.YtmfkgnifkkkkiaaDoorBytSeen
namespace Go.Proofs.YtmfkgnifkkkkiaaDoor
open Go.RowKit

/-- A header's seven cells. -/
def hd7 (xs : List Int) : Array Value := #[.int .u8 (xs.getD 0 0), .int .u8 (xs.getD 1 0), .int .u8 (xs.getD 2 0), .int .u8 (xs.getD 3 0), .int .i64 (xs.getD 4 0), .int .i64 (getN ((xs.drop 6).take 2)), .int .i64 (getN ((xs.drop 8).take 4))]

theorem arrayAt_four (w : World) (a : Addr) (cap : Nat) : (Instr.arrayAt 60 (.slice (some a) 4 cap)).run Tryd.prog w = .ok (.pointer (some a)) w := by
  first | kernel_rfl | rfl | simp [Instr.arrayAt, go_sem]

theorem row_range {w : World} {b : Nat} {cs : List Value} {t : TypeId} (h : w.heap[b]? = some (.cells cs.toArray t (0, 0))) (o n : Nat) : w.rangeAt b o ((cs.drop o).take n) := by
  intro j v hj
  rw [List.getElem?_take] at hj
  split at hj
  · rw [List.getElem?_drop] at hj
    simp [World.cell?, h, hj]
  · cases hj

end Go.Proofs.YtmfkgnifkkkkiaaDoor

namespace Go.Proofs.YtmfkgnifkkkkiaaDoor
section
variable {P : Program} {md : Region.Mode} {ops : Array Oper} {Q : Exit → Act → World → Prop} {S : World → Prop}

/-! The same with a condition that is kept throughout. -/
theorem held_region (S : World → Prop) {id : Nat} {a : Act} {w : World} (hm : P.follows .mixedOrders = true)
    (h : wpAnyH P .any ops (NoPanic Q) S ops.size (Array.replicate ops.size false) a w.drew) : (Code.region id ops true).wp P Q a w :=
  wp_region_noPanic (wp_region_any hm (wpAny_of_held _ _ _ _ h))

theorem held_take (i : Nat) {oi : Oper} (v : Value) {fuel : Nat} {listed : Array Bool} {a : Act} {w : World} (hi : ops[i]? = some oi)
    (hs : Region.noSelect ops = true) (hf : Region.free md ops listed i = true) (hr : (Region.ready md ops listed).contains i = true)
    (hQ : ∀ c a w, Q (.panic c) (a.put oi.dst v) w → Q (.panic c) a w) (hy : YieldsIf P ops S oi v a) (hS : S w)
    (h : wpAnyH P md ops Q S fuel (listed.setIfInBounds i true) (a.put oi.dst v) w) : wpAnyH P md ops Q S (fuel + 1) listed a w :=
  wpAnyH_take hi hs hf hr hQ hy hS h

theorem held_one (i : Nat) {o : Oper} {fuel : Nat} {listed : Array Bool} {a : Act} {w : World} (hi : ops[i]? = some o) (hw : o.guard = none) (hr : Region.ready md ops listed = [i])
    (h : o.wp P a w (fun a' w' => S w' ∧ wpAnyH P md ops Q S fuel (listed.setIfInBounds i true) a' w') Q) : wpAnyH P md ops Q S (fuel + 1) listed a w := by
  refine ⟨fun h0 => (by rw [hr] at h0; cases h0), fun j hj => ?_⟩
  rw [hr] at hj
  obtain rfl := List.mem_singleton.1 hj
  unfold wpOp
  simp only [hi]
  rw [if_pos (by simp [Region.wanted, hw])]
  exact .inl h

/-- Two are ready: either comes first. -/
theorem held_two (i j : Nat) {o o' : Oper} {fuel : Nat} {listed : Array Bool} {a : Act} {w : World} (hi : ops[i]? = some o) (hw : o.guard = none) (hj : ops[j]? = some o') (hw' : o'.guard = none) (hr : Region.ready md ops listed = [i, j])
    (h : o.wp P a w (fun a' w' => S w' ∧ wpAnyH P md ops Q S fuel (listed.setIfInBounds i true) a' w') Q)
    (h' : o'.wp P a w (fun a' w' => S w' ∧ wpAnyH P md ops Q S fuel (listed.setIfInBounds j true) a' w') Q) : wpAnyH P md ops Q S (fuel + 1) listed a w := by
  refine ⟨fun h0 => (by rw [hr] at h0; cases h0), fun k hk => ?_⟩
  rw [hr] at hk
  simp only [List.mem_cons, List.not_mem_nil, or_false] at hk
  rcases hk with rfl | rfl
  · unfold wpOp
    simp only [hi]
    rw [if_pos (by simp [Region.wanted, hw])]
    exact .inl h
  · unfold wpOp
    simp only [hj]
    rw [if_pos (by simp [Region.wanted, hw'])]
    exact .inl h'

theorem held_done {listed : Array Bool} {a : Act} {w : World} (hr : Region.ready md ops listed = []) (h : Q .normal a w) : wpAnyH P md ops Q S 0 listed a w := ⟨hr, h⟩
end
section
variable {P : Program} {md : Region.Mode} {ops : Array Oper} {Q : Exit → Act → World → Prop} {S : World → Prop}
/-- One is ready, and is wanted. -/
theorem held_oneG (i : Nat) {o : Oper} {fuel : Nat} {listed : Array Bool} {a : Act} {w : World} (hi : ops[i]? = some o) (hw : Region.wanted o (yielded ops a.tmps) = true) (hr : Region.ready md ops listed = [i])
    (h : o.wp P a w (fun a' w' => S w' ∧ wpAnyH P md ops Q S fuel (listed.setIfInBounds i true) a' w') Q) : wpAnyH P md ops Q S (fuel + 1) listed a w := by
  refine ⟨fun h0 => (by rw [hr] at h0; cases h0), fun j hj => ?_⟩
  rw [hr] at hj
  obtain rfl := List.mem_singleton.1 hj
  unfold wpOp
  simp only [hi]
  rw [if_pos hw]
  exact .inl h
end

end Go.Proofs.YtmfkgnifkkkkiaaDoor

namespace Go.Proofs.YtmfkgnifkkkkiaaDoor
open Go.RowKit

theorem results_bhe {P : Program} {fn : Func} {p1 p2 p3 : Tmp} {t1 t2 : TypeId} {w : World} {tmps : Array Value} {a1 a2 : Addr} {v1 v2 v3 : Value} (h : fn.results = #[.cell p1 t1, .cell p2 t2, .tmp p3]) (h1 : tmps.getD p1 undef = .pointer (some a1)) (h2 : tmps.getD p2 undef = .pointer (some a2)) (h3 : tmps.getD p3 undef = v3)
    (hl1 : (loadVar t1 a1).run P w = .ok v1 w) (hl2 : (loadVar t2 a2).run P w = .ok v2 w) : (results fn tmps).run P w = .ok (.tuple #[v1, v2, v3]) w := by
  have h1' : tmps[p1]?.getD undef = .pointer (some a1) := by simpa using h1
  have h2' : tmps[p2]?.getD undef = .pointer (some a2) := by simpa using h2
  have h3' : tmps[p3]?.getD undef = v3 := by simpa using h3
  simp only [results, h]
  simp [asAddr, h1', h2', h3', hl1, hl2]

/-- The cells of a block. -/
def Blk (L : List Value) : Prop := L.length = 64 ∧ ∀ v ∈ L, v.oneCell' = true

abbrev z7 : List Value := [.int .u8 0, .int .u8 0, .int .u8 0, .int .u8 0, .int .i64 0, .int .i64 0, .int .i64 0]

end Go.Proofs.YtmfkgnifkkkkiaaDoor

namespace Go.Proofs.YtmfkgnifkkkkiaaDoor
open Go.RowKit

theorem OwnB.nothing (w : World) (N : Nat) (e : TypeId) : OwnB w N e (.slice none 0 0) [] := ⟨rfl, Or.inl ⟨rfl, rfl⟩⟩
theorem alloc_two (w : World) (o1 o2 : Obj) : ((w.alloc o1).alloc o2).heap[w.heap.size]? = some o1 := (alloc2 w o1 o2).2.1
theorem alloc_twoN (w : World) (o1 o2 : Obj) : ((w.alloc o1).alloc o2).heap[w.heap.size + 1]? = some o2 := (alloc2 w o1 o2).2.2
theorem trio {w : World} {s : Nat} {a b c : Value} {t : TypeId} (h : w.heap[s]? = some (.cells #[a, b, c] t (0, 0))) :
    w.cell? ⟨s, 0, none⟩ = some a ∧ w.cell? ⟨s, 1, none⟩ = some b ∧ w.cell? ⟨s, 2, none⟩ = some c := by
  simp [World.cell?, h]

end Go.Proofs.YtmfkgnifkkkkiaaDoor

namespace Go.Proofs.YtmfkgnifkkkkiaaDoor
open Go.RowKit

/-- What begun answers. -/
def begL (h0 h1 h2 h3 kd it sq : Int) : List Int := [h0, h1, h2, h3, kd, 0] ++ putN it 2 ++ putN sq 4 ++ List.replicate 52 0

set_option maxRecDepth 20000 in
set_option maxHeartbeats 2000000 in
theorem begun_calls (w : World) (h0 h1 h2 h3 kd it sq : Int) (hk0 : 0 ≤ kd) (hk1 : kd < 256) (hi : it ≤ 9223372036854775807) (hq : sq ≤ 9223372036854775807) (hi2 : (putN it 2).length = 2) (hq4 : (putN sq 4).length = 4) :
    Calls Tryd.prog 50 #[.agg #[.int .u8 h0, .int .u8 h1, .int .u8 h2, .int .u8 h3, .int .i64 kd, .int .i64 it, .int .i64 sq]] w fun e w' => e = .returned (.agg ((begL h0 h1 h2 h3 kd it sq).map (Value.int .u8)).toArray) ∧ Chg 0 0 w w' := by
  have Hi2 : Hid _ := hi2
  have Hq4 : Hid _ := hq4
  clear hi2 hq4
  have HB0 : Hid (Beg w (((w.alloc (.cells #[.int .u8 h0, .int .u8 h1, .int .u8 h2, .int .u8 h3, .int .i64 kd, .int .i64 it, .int .i64 sq] 62)).alloc (.cells Z64.toArray 58)).alloc (.cells Z64.toArray 58)) (.cells #[.int .u8 h0, .int .u8 h1, .int .u8 h2, .int .u8 h3, .int .i64 kd, .int .i64 it, .int .i64 sq] 62 (0, 0)) (Z64)) := by
    show Beg _ _ _ _
    have e1 : (w.alloc (.cells #[.int .u8 h0, .int .u8 h1, .int .u8 h2, .int .u8 h3, .int .i64 kd, .int .i64 it, .int .i64 sq] 62)).heap.size = w.heap.size + 1 := by simp
    obtain ⟨z1, z2, z3⟩ := alloc2 (w.alloc (.cells #[.int .u8 h0, .int .u8 h1, .int .u8 h2, .int .u8 h3, .int .i64 kd, .int .i64 it, .int .i64 sq] 62)) (.cells Z64.toArray 58) (.cells Z64.toArray 58)
    rw [e1] at z1 z2 z3
    refine ⟨?_, z2, z3, ((Chg.alloc (Chg.refl 0 0 w) _).alloc _).alloc _⟩
    have c2 : Chg 0 0 (w.alloc (.cells #[.int .u8 h0, .int .u8 h1, .int .u8 h2, .int .u8 h3, .int .i64 kd, .int .i64 it, .int .i64 sq] 62)) (((w.alloc (.cells #[.int .u8 h0, .int .u8 h1, .int .u8 h2, .int .u8 h3, .int .i64 kd, .int .i64 it, .int .i64 sq] 62)).alloc (.cells Z64.toArray 58)).alloc (.cells Z64.toArray 58)) := (Chg.alloc (Chg.refl 0 0 _) _).alloc _
    exact (c2.block w.heap.size (by omega) (by omega)).trans (heap_new w _)
  go_enter Tryd.func50, Tryd.ntmps50
  go_upto_region 2 with fail
  simp only [Z64_eq]
  generalize (((w.alloc (.cells #[.int .u8 h0, .int .u8 h1, .int .u8 h2, .int .u8 h3, .int .i64 kd, .int .i64 it, .int .i64 sq] 62)).alloc (.cells Z64.toArray 58)).alloc (.cells Z64.toArray 58)) = wa at *
  go_cut [7] (fun _ wx => Beg w wx (.cells #[.int .u8 h0, .int .u8 h1, .int .u8 h2, .int .u8 h3, .int .i64 kd, .int .i64 it, .int .i64 sq] 62 (0, 0)) (splice Z64 0 [.int .u8 h0, .int .u8 h1, .int .u8 h2, .int .u8 h3]))
  case first =>
    have HS0 : Hid _ := trivial
    refine held_region (fun _ : World => True) (by kernel_rfl) ?_
    refine held_take 0 (.slice (some ⟨w.heap.size + 1 + 1, 0, none⟩) 4 64) rfl (by kernel_rfl) (by kernel_rfl) (by kernel_rfl) (fun _ _ _ h => h) (.inl ⟨by kernel_rfl, fun w' hw' => by go_simp⟩) HS0.out ?_
    go_simp
    refine held_take 1 (.pointer (some ⟨w.heap.size, 0, none⟩)) rfl (by kernel_rfl) (by kernel_rfl) (by kernel_rfl) (fun _ _ _ h => h) (.inl ⟨by kernel_rfl, fun w' hw' => by go_simp⟩) HS0.out ?_
    go_simp
    refine held_take 2 (.slice (some ⟨w.heap.size, 0, none⟩) 4 4) rfl (by kernel_rfl) (by kernel_rfl) (by kernel_rfl) (fun _ _ _ h => h) (.inl ⟨by kernel_rfl, fun w' hw' => by go_simp⟩) HS0.out ?_
    go_simp
    have HB1 : Hid _ := HB0.out.chg (Chg.drew (Chg.refl 0 0 wa))
    refine held_one 3 rfl rfl (by kernel_rfl) ?_
    refine wp_copy_row (.tmp 4) (.tmp 6) 24 24 rfl 5 Tryd.underlying24 (by kernel_rfl) (w.heap.size + 1 + 1) 0 4 64 ⟨w.heap.size, 0, none⟩ 4 4 rfl rfl Z64 58 HB1.out.b2 [.int .u8 h0, .int .u8 h1, .int .u8 h2, .int .u8 h3] rfl ?_ (by rw [Z64_length]; simp) (by simp [Value.oneCell']) ?_
    · intro j v hj
      have hb := HB1.out.b0
      have hj4 : j < 4 := by have := (List.getElem?_eq_some_iff.1 hj).1; simpa using this
      rcases j with _ | _ | _ | _ | j
      all_goals first | omega | (simp at hj; subst hj; simp [World.cell?, Addr.add, hb])
    intro w1 hb1 hc1
    have HB2 : Hid _ := HB1.out.put hc1 hb1.out
    refine ⟨trivial, ?_⟩
    clear hb1 hc1
    go_simp
    refine held_done (by kernel_rfl) (NoPanic.normal ?_)
    go_wp2
    go_meet
    exact HB2.out
  case rest =>
    have HB3 : Hid _ := hcut
    have hb0 := HB3.out.b0
    have k4 : wc.cell? ⟨w.heap.size, 4, none⟩ = some (.int .i64 kd) := by simp [World.cell?, hb0]
    have hb2 := HB3.out.b2
    have e4 : (splice Z64 0 [.int .u8 h0, .int .u8 h1, .int .u8 h2, .int .u8 h3])[4]? = some (.int .u8 0) := by unfold Z64 splice; rfl
    have k5 : wc.cell? ⟨w.heap.size + 1 + 1, 4, none⟩ = some (.int .u8 0) := by simp only [World.cell?, hb2, List.getElem?_toArray, e4]; rfl
    have f5 : wc.frozen? ⟨w.heap.size + 1 + 1, 4, none⟩ = false := by simp [World.frozen?, hb2]
    have HBn : Hid (Beg w (wc.setCell ⟨w.heap.size + 1 + 1, 4, none⟩ (.int .u8 kd)) (.cells #[.int .u8 h0, .int .u8 h1, .int .u8 h2, .int .u8 h3, .int .i64 kd, .int .i64 it, .int .i64 sq] 62 (0, 0)) ((splice Z64 0 [.int .u8 h0, .int .u8 h1, .int .u8 h2, .int .u8 h3]).set 4 (.int .u8 kd))) := by
      show Beg _ _ _ _
      refine HB3.out.put (Chg.setCell (p := ⟨w.heap.size + 1 + 1, 4, none⟩) (Chg.refl _ _ wc) (Or.inl ⟨Nat.le_refl _, Nat.lt_succ_self _⟩) _) ?_
      have hlt := HB3.out.lt
      simp [World.setCell, hb2, Array.getElem?_modify]
    clear hb0 hb2 e4 HB3 HB0 hcut
    go_upto_region 4 with fail
    generalize wc.setCell ⟨w.heap.size + 1 + 1, 4, none⟩ (.int .u8 kd) = wd at *
    clear k4 k5 f5
    go_cut [16] (fun _ wx => Beg w wx (.cells #[.int .u8 h0, .int .u8 h1, .int .u8 h2, .int .u8 h3, .int .i64 kd, .int .i64 it, .int .i64 sq] 62 (0, 0)) (splice ((splice Z64 0 [.int .u8 h0, .int .u8 h1, .int .u8 h2, .int .u8 h3]).set 4 (.int .u8 kd)) 6 ((putN it 2).map (Value.int .u8))))
    case first =>
      have HB1 : Hid _ := HBn.out.chg (Chg.drew (Chg.refl 0 0 wd))
      have HS0 : Hid ((fun w' : World => w'.cell? ⟨w.heap.size, 5, none⟩ = some (.int .i64 it)) wd.drew) := by
        have hb := HB1.out.b0
        show _ = _
        simp [World.cell?, hb]
      refine held_region (fun w' : World => w'.cell? ⟨w.heap.size, 5, none⟩ = some (.int .i64 it)) (by kernel_rfl) ?_
      refine held_take 0 (.slice (some ⟨w.heap.size + 1 + 1, 6, none⟩) 2 58) rfl (by kernel_rfl) (by kernel_rfl) (by kernel_rfl) (fun _ _ _ h => h) (.inl ⟨by kernel_rfl, fun w' hw' => by go_simp⟩) HS0.out ?_
      go_simp
      refine held_take 1 (.pointer (some ⟨w.heap.size, 5, none⟩)) rfl (by kernel_rfl) (by kernel_rfl) (by kernel_rfl) (fun _ _ _ h => h) (.inl ⟨by kernel_rfl, fun w' hw' => by go_simp⟩) HS0.out ?_
      go_simp
      refine held_take 2 (.int .i64 it) rfl (by kernel_rfl) (by kernel_rfl) (by kernel_rfl) (fun _ _ _ h => h) (.inl ⟨by kernel_rfl, fun w' hw' => by have h4 : w'.cell? _ = _ := hw'; go_simp⟩) HS0.out ?_
      go_simp
      generalize wd.drew = x1 at *
      have hlt := HB1.out.lt
      have hN := implPut_calls x1 it 2 (by omega)
      refine held_one 3 rfl rfl (by kernel_rfl) ?_
      refine wp_enter 47 #[.int .i64 it, .int .i64 2] (by first | kernel_rfl | go_simp) hN ?_
      rintro e x2 ⟨r, rfl, o2, c2⟩
      have HB2 : Hid _ := HB1.out.chg c2
      have HS2 : Hid _ := c2.cell HS0.out (by omega)
      obtain ⟨g, gc, rfl, hcell⟩ : ∃ g gc, r = .slice (some ⟨g, 0, none⟩) 2 gc ∧ ∀ i, i < 2 → x2.cell? ⟨g, i, none⟩ = some (.int .u8 ((putN it 2).getD i 0)) := by
        have hv := o2.view (hi := x2.heap.size) (by rw [Hi2.out]; omega) (fun g hg => (o2.lt g hg).2)
        rcases o2.2 with ⟨_, h0⟩ | ⟨g, gc, cur, rfl, _⟩
        · rw [Hi2.out] at h0; omega
        · refine ⟨g, gc, by rw [Hi2.out], fun i hi => hv.cellAt' i (by rw [Hi2.out]; exact hi)⟩
      refine ⟨_, rfl, HS2.out, ?_⟩
      have Hcell : Hid _ := hcell
      clear hN o2 c2 hcell
      go_simp
      refine held_one 4 rfl rfl (by kernel_rfl) ?_
      refine wp_copy_row (.tmp 12) (.tmp 15) 24 24 rfl 5 Tryd.underlying24 (by kernel_rfl) (w.heap.size + 1 + 1) 6 2 58 ⟨g, 0, none⟩ 2 gc rfl rfl ((splice Z64 0 [.int .u8 h0, .int .u8 h1, .int .u8 h2, .int .u8 h3]).set 4 (.int .u8 kd)) 58 HB2.out.b2 ((putN it 2).map (Value.int .u8)) (by rw [List.length_map, Hi2.out]; rfl) ?_ (by rw [List.length_map, Hi2.out]; simp [splice, Z64_length]) (ints_oneCell _ _) ?_
      · intro j v hj
        have hj4 : j < 2 := by have := (List.getElem?_eq_some_iff.1 hj).1; rwa [List.length_map, Hi2.out] at this
        have hjl : j < (putN it 2).length := by rw [Hi2.out]; exact hj4
        rw [Addr.add_mid, Nat.zero_add, Hcell.out j hj4, ← hj]
        simp [List.getD_eq_getElem?_getD, hjl]
      intro x3 hb3 hc3
      have HB4 : Hid _ := HB2.out.put hc3 hb3.out
      have HS3 : Hid _ := hc3.cell HS2.out (by omega)
      refine ⟨HS3.out, ?_⟩
      clear hb3 hc3
      go_simp
      refine held_done (by kernel_rfl) (NoPanic.normal ?_)
      go_wp2
      go_meet
      exact HB4.out
    case rest =>
      have HBn : Hid _ := hcut
      generalize wc = we at *
      clear hcut
      go_upto_region 5 with fail
      go_cut [21] (fun _ wx => Beg w wx (.cells #[.int .u8 h0, .int .u8 h1, .int .u8 h2, .int .u8 h3, .int .i64 kd, .int .i64 it, .int .i64 sq] 62 (0, 0)) (splice (splice ((splice Z64 0 [.int .u8 h0, .int .u8 h1, .int .u8 h2, .int .u8 h3]).set 4 (.int .u8 kd)) 6 ((putN it 2).map (Value.int .u8))) 8 ((putN sq 4).map (Value.int .u8))))
      case first =>
        have HB1 : Hid _ := HBn.out.chg (Chg.drew (Chg.refl 0 0 we))
        have HS0 : Hid ((fun w' : World => w'.cell? ⟨w.heap.size, 6, none⟩ = some (.int .i64 sq)) we.drew) := by
          have hb := HB1.out.b0
          show _ = _
          simp [World.cell?, hb]
        refine held_region (fun w' : World => w'.cell? ⟨w.heap.size, 6, none⟩ = some (.int .i64 sq)) (by kernel_rfl) ?_
        refine held_take 0 (.slice (some ⟨w.heap.size + 1 + 1, 8, none⟩) 4 56) rfl (by kernel_rfl) (by kernel_rfl) (by kernel_rfl) (fun _ _ _ h => h) (.inl ⟨by kernel_rfl, fun w' hw' => by go_simp⟩) HS0.out ?_
        go_simp
        refine held_take 1 (.pointer (some ⟨w.heap.size, 6, none⟩)) rfl (by kernel_rfl) (by kernel_rfl) (by kernel_rfl) (fun _ _ _ h => h) (.inl ⟨by kernel_rfl, fun w' hw' => by go_simp⟩) HS0.out ?_
        go_simp
        refine held_take 2 (.int .i64 sq) rfl (by kernel_rfl) (by kernel_rfl) (by kernel_rfl) (fun _ _ _ h => h) (.inl ⟨by kernel_rfl, fun w' hw' => by have h4 : w'.cell? _ = _ := hw'; go_simp⟩) HS0.out ?_
        go_simp
        generalize we.drew = x1 at *
        have hlt := HB1.out.lt
        have hN := implPut_calls x1 sq 4 (by omega)
        refine held_one 3 rfl rfl (by kernel_rfl) ?_
        refine wp_enter 47 #[.int .i64 sq, .int .i64 4] (by first | kernel_rfl | go_simp) hN ?_
        rintro e x2 ⟨r, rfl, o2, c2⟩
        have HB2 : Hid _ := HB1.out.chg c2
        have HS2 : Hid _ := c2.cell HS0.out (by omega)
        obtain ⟨g, gc, rfl, hcell⟩ : ∃ g gc, r = .slice (some ⟨g, 0, none⟩) 4 gc ∧ ∀ i, i < 4 → x2.cell? ⟨g, i, none⟩ = some (.int .u8 ((putN sq 4).getD i 0)) := by
          have hv := o2.view (hi := x2.heap.size) (by rw [Hq4.out]; omega) (fun g hg => (o2.lt g hg).2)
          rcases o2.2 with ⟨_, h0⟩ | ⟨g, gc, cur, rfl, _⟩
          · rw [Hq4.out] at h0; omega
          · refine ⟨g, gc, by rw [Hq4.out], fun i hi => hv.cellAt' i (by rw [Hq4.out]; exact hi)⟩
        refine ⟨_, rfl, HS2.out, ?_⟩
        have Hcell : Hid _ := hcell
        clear hN o2 c2 hcell
        go_simp
        refine held_one 4 rfl rfl (by kernel_rfl) ?_
        refine wp_copy_row (.tmp 17) (.tmp 20) 24 24 rfl 5 Tryd.underlying24 (by kernel_rfl) (w.heap.size + 1 + 1) 8 4 56 ⟨g, 0, none⟩ 4 gc rfl rfl (splice ((splice Z64 0 [.int .u8 h0, .int .u8 h1, .int .u8 h2, .int .u8 h3]).set 4 (.int .u8 kd)) 6 ((putN it 2).map (Value.int .u8))) 58 HB2.out.b2 ((putN sq 4).map (Value.int .u8)) (by rw [List.length_map, Hq4.out]; rfl) ?_ (by rw [List.length_map, Hq4.out]; simp [splice, Z64_length, Hi2.out]) (ints_oneCell _ _) ?_
        · intro j v hj
          have hj4 : j < 4 := by have := (List.getElem?_eq_some_iff.1 hj).1; rwa [List.length_map, Hq4.out] at this
          have hjl : j < (putN sq 4).length := by rw [Hq4.out]; exact hj4
          rw [Addr.add_mid, Nat.zero_add, Hcell.out j hj4, ← hj]
          simp [List.getD_eq_getElem?_getD, hjl]
        intro x3 hb3 hc3
        have HB4 : Hid _ := HB2.out.put hc3 hb3.out
        have HS3 : Hid _ := hc3.cell HS2.out (by omega)
        refine ⟨HS3.out, ?_⟩
        clear hb3 hc3
        go_simp
        refine held_done (by kernel_rfl) (NoPanic.normal ?_)
        go_wp2
        go_meet
        exact HB4.out
      case rest =>
        have HBm : Hid _ := hcut
        generalize wc = wf at *
        clear hcut HBn
        have hF : splice (splice ((splice Z64 0 [.int .u8 h0, .int .u8 h1, .int .u8 h2, .int .u8 h3]).set 4 (.int .u8 kd)) 6 ((putN it 2).map (Value.int .u8))) 8 ((putN sq 4).map (Value.int .u8)) = (begL h0 h1 h2 h3 kd it sq).map (Value.int .u8) := by
          unfold begL
          match h2' : putN it 2, Hi2.out, h4' : putN sq 4, Hq4.out with
          | [a, b], _, [c, d, e, f], _ => unfold Z64 splice; rfl
        rw [hF] at HBm
        have hln : ((begL h0 h1 h2 h3 kd it sq).map (Value.int .u8)).length = 64 := by
          rw [List.length_map]; unfold begL; simp [Hi2.out, Hq4.out]
        obtain ⟨cs, hcs⟩ : ∃ cs, cs = (begL h0 h1 h2 h3 kd it sq).map (Value.int .u8) := ⟨_, rfl⟩
        have HV2 : Hid (∀ v ∈ cs, v.oneCell' = true) := by show ∀ v ∈ cs, v.oneCell' = true; rw [hcs]; exact ints_oneCell _ _
        rw [← hcs] at HBm hln
        have Hcs : Hid _ := hcs
        have hics : (Tryd.prog.info? 58).map (·.size) = some cs.length := by rw [hln]; kernel_rfl
        have Hln : Hid _ := hln
        have u44 := Tryd.underlying58
        have HR : Hid _ := row_rng HBm.out.b2
        have hlt := HBm.out.lt
        clear hF hln hcs
        go_wp2_with (first
          | (refine wpList_load_mid rfl 58 (.tmp 3) rfl (w.heap.size + 1 + 1) 0 rfl cs _ HR.out u44 rfl hics ?_)
          | (refine wpList_store_row rfl 58 (.tmp 2) (.tmp 22) rfl rfl (w.heap.size + 1) rfl cs Z64 58 rfl HBm.out.b1 (by rw [Z64_length]; exact Hln.out) hics HV2.out ?_; intro wg hbg hcg))
        have HCg : Hid _ := HBm.out.ch.step hcg (by omega)
        have hl1 : (loadVar 58 ⟨w.heap.size + 1, 0, none⟩).run Tryd.prog wg = .ok (.agg cs.toArray) wg := run_loadVar_mid _ _ _ _ cs _ (row_rng hbg) u44 rfl hics
        go_wp2
        exact bodyPost_ret (v := .agg cs.toArray) (results_one Tryd.results50 rfl hl1) rfl ⟨by rw [Hcs.out], HCg.out⟩

end Go.Proofs.YtmfkgnifkkkkiaaDoor

namespace Go.Proofs.YtmfkgnifkkkkiaaDoor
open Go.RowKit

/-- What lies in memory while a block is encoded: what is encoded, the block that is told, the block that is written. -/
structure Enc (w x : World) (B : Nat) (hd : Obj) (cur : List Value) : Prop where
  b0 : x.heap[w.heap.size]? = some hd
  b1 : x.heap[w.heap.size + 1]? = some (.cells Z64.toArray 58 (0, 0))
  b2 : x.heap[B]? = some (.cells cur.toArray 58 (0, 0))
  lo : w.heap.size + 1 < B
  ch : Chg 0 0 w x

theorem Enc.lt {w x : World} {B : Nat} {hd : Obj} {cur : List Value} (h : Enc w x B hd cur) : B < x.heap.size := (Array.getElem?_eq_some_iff.1 h.b2).1
theorem Enc.chg {w x y : World} {B : Nat} {hd : Obj} {cur : List Value} (h : Enc w x B hd cur) (c : Chg 0 0 x y) : Enc w y B hd cur :=
  have := h.lt
  have := h.lo
  ⟨(c.block _ (by omega) (by omega)).trans h.b0, (c.block _ (by omega) (by omega)).trans h.b1, (c.block _ (by omega) (by omega)).trans h.b2, h.lo, h.ch.trans c⟩
theorem Enc.put {w x y : World} {B : Nat} {hd : Obj} {cur cur' : List Value} (h : Enc w x B hd cur) (c : Chg B (B + 1) x y) (hb : y.heap[B]? = some (.cells cur'.toArray 58 (0, 0))) : Enc w y B hd cur' :=
  have := h.lt
  have := h.lo
  ⟨(c.block _ (by omega) (by omega)).trans h.b0, (c.block _ (by omega) (by omega)).trans h.b1, hb, h.lo, h.ch.step c (by omega)⟩

theorem begL_length {h0 h1 h2 h3 kd it sq : Int} (hi2 : (putN it 2).length = 2) (hq4 : (putN sq 4).length = 4) : (begL h0 h1 h2 h3 kd it sq).length = 64 := by
  unfold begL; simp [hi2, hq4]

end Go.Proofs.YtmfkgnifkkkkiaaDoor
