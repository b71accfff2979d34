/- Several short texts in one: SpecCrc, Cells2, RowZ, CopyRow. -/
import Derived.Test.YtkkbaedlfijlmaaGreatDoorSteps
import Derived.Test.YtkkbaedlfijlmaaGreatDoorWeak
import Derived.Deep.MidRow
import Derived.Laws.CopyOwn
namespace Go.Proofs.YtkkbaedlfijlmaaGreatDoor
open Go.RowKit

set_option maxHeartbeats 400000 in
theorem l2Step_calls (w : World) (x b : Nat) (hx : x < 4294967296) (hb : b < 2) :
    Calls Tryz.prog 50 #[.int .i64 x, .int .i64 b] w fun e w' => e = .returned (.int .i64 (stp x b : Nat)) ∧ w' = w := by
  by_cases h1 : (x + b) % 2 = 1
  · have HX : Hid (((stp x b : Nat) : Int) = bits .xor .i64 ((x : Int) / 2) 2197175160) := by
      show _ = _
      rw [xor_taps' x hx]; unfold stp; rw [if_pos h1]
    have hc : (((x : Int) + b) % 2 == 1) = true := by rw [show ((x : Int) + b) % 2 = 1 by omega]; rfl
    rw [HX.out]
    go_enter Tryz.func50, Tryz.ntmps50
    go_wp2
    go_ret
    exact ⟨rfl, rfl⟩
  · have HX : Hid (((stp x b : Nat) : Int) = (x : Int) / 2) := by
      show _ = _
      unfold stp; rw [if_neg h1]; omega
    have hc : (((x : Int) + b) % 2 == 1) = false := by rw [show ((x : Int) + b) % 2 = 0 by omega]; rfl
    rw [HX.out]
    go_enter Tryz.func50, Tryz.ntmps50
    go_wp2
    go_ret
    exact ⟨rfl, rfl⟩

set_option maxHeartbeats 1000000 in
theorem l2Reg_some (w : World) (x : Nat) (hx : x < 4294967296) (xs : List Int) (b off cap : Nat) (hB : Byt xs) (hl : xs.length ≤ 9223372036854775807)
    (h1 : ∀ i, i < xs.length → w.cell? ⟨b, off + i, none⟩ = some (.int .u8 (xs.getD i 0))) :
    Calls Tryz.prog 46 #[.int .i64 x, .slice (some ⟨b, off, none⟩) xs.length cap] w fun e w' => e = .returned (.int .i64 (reg x (nb xs) : Nat)) ∧ w' = w := by
  have HB : Hid (Byt xs) := hB
  have HG : Hid (∀ i, i < xs.length → w.cell? ⟨b, off + i, none⟩ = some (.int .u8 (xs.getD i 0))) := h1
  clear hB h1
  go_enter Tryz.func46, Tryz.ntmps46
  go_wp2
  go_loop [0, 5] (fun y i => ∃ k : Nat, k ≤ xs.length ∧ i = .int .i64 k ∧ y = .int .i64 (reg x (nb (xs.take k)) : Nat)) (fun _ i => xs.length - (intOf i).toNat)
  case atStart => exact ⟨0, Nat.zero_le _, rfl, rfl⟩
  case round =>
    obtain ⟨k, hk, rfl, rfl⟩ := hrel
    by_cases hlt : k < xs.length
    · have c1 := HG.out k hlt
      have b3 := HB.out.getD k
      have hi : (k : Int) < (xs.length : Int) := by omega
      have b1 := reg_lt (nb (xs.take k)) x hx
      have HE : Hid (reg x (nb (xs.take (k + 1))) = regK 8 (reg x (nb (xs.take k))) (xs.getD k 0).toNat) := reg_take_succ x xs k hlt
      generalize reg x (nb (xs.take k)) = y at *
      obtain ⟨d, hd⟩ : ∃ d : Nat, xs.getD k 0 = (d : Int) := ⟨(xs.getD k 0).toNat, by omega⟩
      have HD : Hid (xs.getD k 0 = (d : Int)) := hd
      rw [hd] at c1 b3
      clear hd
      go_wp2
      go_loop [0, 6, 7] (fun z v j => ∃ m : Nat, m ≤ 8 ∧ j = .int .i64 m ∧ v = .int .i64 (d / 2 ^ m : Nat) ∧ z = .int .i64 (regK m y d : Nat)) (fun _ _ j => 8 - (intOf j).toNat)
      case atStart => exact ⟨0, Nat.zero_le _, rfl, by simp, rfl⟩
      case round =>
        obtain ⟨m, hm, rfl, rfl, rfl⟩ := hrel
        have b2 := regK_lt m y d b1
        by_cases hm8 : m < 8
        · have HN : Hid (regK (m + 1) y d = stp (regK m y d) (d / 2 ^ m % 2)) := regK_next m y d
          have HV : Hid (d / 2 ^ (m + 1) = d / 2 ^ m / 2) := by show _ = _; rw [Nat.pow_succ, Nat.div_div_eq_div_mul]
          have hle : d / 2 ^ m ≤ d := Nat.div_le_self _ _
          generalize regK m y d = z at *
          generalize d / 2 ^ m = v at *
          have hm' : (m : Int) < 8 := by omega
          have E2 : Hid ((v : Int) % 2 = ((v % 2 : Nat) : Int)) := by show _ = _; omega
          go_wp2_with fail
          rw [E2.out]
          refine (l2Step_calls _ z (v % 2) b2 (by omega)).mono ?_
          rintro e w1 ⟨rfl, rfl⟩
          clear E2
          go_wp2
          go_round
          case rel => exact ⟨m + 1, by omega, by go_num, by rw [HV.out]; go_num, by rw [HN.out]⟩
          case measure => simp [intOf]; omega
        · obtain rfl : m = 8 := by omega
          have HE' : Hid (reg x (nb (xs.take (k + 1))) = regK 8 y d) := by show _ = _; rw [HE.out, HD.out]; rfl
          clear HE
          generalize regK 8 y d = z at *
          go_wp2
          go_round
          case rel => exact ⟨k + 1, by omega, by go_num, by rw [HE'.out]⟩
          case measure => simp [intOf]; omega
    · obtain rfl : k = xs.length := by omega
      rw [List.take_length]
      go_wp2
      go_ret
      exact ⟨rfl, rfl⟩

set_option maxHeartbeats 400000 in
theorem l2Reg_none (w : World) (x : Nat) (ao : Option Addr) (cap : Nat) :
    Calls Tryz.prog 46 #[.int .i64 x, .slice ao 0 cap] w fun e w' => e = .returned (.int .i64 (x : Nat)) ∧ w' = w := by
  go_enter Tryz.func46, Tryz.ntmps46
  go_wp2
  refine wp_loop_rounds 1 ?_; rw [rounds_succ]
  go_wp2
  go_ret
  exact ⟨rfl, rfl⟩

theorem l2Reg_calls (w : World) (x : Nat) (hx : x < 4294967296) {lo hi : Nat} {a : Value} {xs : List Int} (hB : Byt xs) (h1 : View w lo hi .u8 a xs) :
    Calls Tryz.prog 46 #[.int .i64 x, a] w fun e w' => e = .returned (.int .i64 (reg x (nb xs) : Nat)) ∧ w' = w := by
  obtain ⟨ao, cap, rfl, hl, _, h1⟩ := h1
  rcases h1 with rfl | ⟨g, off, rfl, _, _, h1⟩
  · exact l2Reg_none w x ao cap
  · exact l2Reg_some w x hx xs g off cap hB hl h1

set_option maxHeartbeats 400000 in
theorem specCrc_calls (w : World) {lo hi : Nat} {a : Value} {xs : List Int} (hB : Byt xs) (h1 : View w lo hi .u8 a xs) :
    Calls Tryz.prog 42 #[a] w fun e w' => e = .returned (.int .i64 (crcV xs)) ∧ w' = w := by
  have hlt := reg_lt (nb xs) 4294967295 (by omega)
  have HV : Hid (crcV xs = 4294967295 - (reg 4294967295 (nb xs) : Nat)) := rfl
  rw [HV.out]
  go_enter Tryz.func42, Tryz.ntmps42
  go_wp2_with fail
  refine (l2Reg_calls _ 4294967295 (by omega) hB h1).mono ?_
  rintro e w1 ⟨rfl, rfl⟩
  generalize hr : reg 4294967295 (nb xs) = r at *
  have HR : Hid (reg 4294967295 (nb xs) = r) := hr
  clear hr
  go_wp2
  go_ret
  exact ⟨by rw [HR.out]; rfl, rfl⟩

end Go.Proofs.YtkkbaedlfijlmaaGreatDoor

namespace Go.Proofs.YtkkbaedlfijlmaaGreatDoor
open Go.RowKit

theorem wpList_store_row {P : Program} {ops : Array Oper} {rest : List Oper} {op : Oper} {a : Act} {w : World} {Q : Exit → Act → World → Prop} (hgd : op.guard = none) (T : TypeId) (x y : Operand) (ho : op.op = .store T x y) (hd : op.dst = none) (g : Nat) (hx : a.eval x = .pointer (some ⟨g, 0, none⟩))
    (full L : List Value) (t : TypeId) (hy : a.eval y = .agg full.toArray) (hg : w.heap[g]? = some (.cells L.toArray t (0, 0))) (hl : full.length = L.length) (hi : (P.info? T).map (·.size) = some full.length) (h1 : ∀ v ∈ full, v.oneCell' = true)
    (h : ∀ w', w'.heap[g]? = some (.cells full.toArray t (0, 0)) → Chg g (g + 1) w w' → wpList P ops Q rest a w') : wpList P ops Q (op :: rest) a w :=
  wpList_plain hgd fun _ hK => wp_store_row T x y ho hd g hx full L t hy hg hl hi h1 (fun w' h2 h3 => hK _ _ (h w' h2 h3))

end Go.Proofs.YtkkbaedlfijlmaaGreatDoor

namespace Go.Proofs.YtkkbaedlfijlmaaGreatDoor
open Go.RowKit

theorem row_view {w : World} {b : Nat} {xs : List Int} {t : TypeId} (h : w.heap[b]? = some (.cells (xs.map (Value.int .u8)).toArray t (0, 0))) (o n cap : Nat) (hn : o + n ≤ xs.length) (hl : xs.length ≤ 1048576) (hc : n ≤ cap) : View w b (b + 1) .u8 (.slice (some ⟨b, o, none⟩) n cap) ((xs.drop o).take n) := by
  have hlen : ((xs.drop o).take n).length = n := by rw [List.length_take, List.length_drop]; omega
  refine ⟨_, cap, by rw [hlen], by rw [hlen]; omega, ⟨by rw [hlen]; exact hc, by simp⟩, Or.inr ⟨b, o, rfl, Nat.le_refl _, Nat.lt_succ_self _, fun i hi => ?_⟩⟩
  rw [hlen] at hi
  simp only [World.cell?, h, List.getElem?_toArray, List.getElem?_map, List.getD_eq_getElem?_getD, List.getElem?_take, List.getElem?_drop, if_pos hi]
  rw [List.getElem?_eq_getElem (show o + i < xs.length by omega)]
  rfl

theorem row_rng {w : World} {b : Nat} {cs : List Value} {t : TypeId} (h : w.heap[b]? = some (.cells cs.toArray t (0, 0))) : w.rangeAt b 0 cs := by
  intro j v hj
  rw [Nat.zero_add]
  simp [World.cell?, h, hj]

/-- 64 cells that bear 0, kept closed. -/
def Z64 : List Value := [.int .u8 0, .int .u8 0, .int .u8 0, .int .u8 0, .int .u8 0, .int .u8 0, .int .u8 0, .int .u8 0, .int .u8 0, .int .u8 0, .int .u8 0, .int .u8 0, .int .u8 0, .int .u8 0, .int .u8 0, .int .u8 0, .int .u8 0, .int .u8 0, .int .u8 0, .int .u8 0, .int .u8 0, .int .u8 0, .int .u8 0, .int .u8 0, .int .u8 0, .int .u8 0, .int .u8 0, .int .u8 0, .int .u8 0, .int .u8 0, .int .u8 0, .int .u8 0, .int .u8 0, .int .u8 0, .int .u8 0, .int .u8 0, .int .u8 0, .int .u8 0, .int .u8 0, .int .u8 0, .int .u8 0, .int .u8 0, .int .u8 0, .int .u8 0, .int .u8 0, .int .u8 0, .int .u8 0, .int .u8 0, .int .u8 0, .int .u8 0, .int .u8 0, .int .u8 0, .int .u8 0, .int .u8 0, .int .u8 0, .int .u8 0, .int .u8 0, .int .u8 0, .int .u8 0, .int .u8 0, .int .u8 0, .int .u8 0, .int .u8 0, .int .u8 0]

theorem Z64_eq : (#[.int .u8 0, .int .u8 0, .int .u8 0, .int .u8 0, .int .u8 0, .int .u8 0, .int .u8 0, .int .u8 0, .int .u8 0, .int .u8 0, .int .u8 0, .int .u8 0, .int .u8 0, .int .u8 0, .int .u8 0, .int .u8 0, .int .u8 0, .int .u8 0, .int .u8 0, .int .u8 0, .int .u8 0, .int .u8 0, .int .u8 0, .int .u8 0, .int .u8 0, .int .u8 0, .int .u8 0, .int .u8 0, .int .u8 0, .int .u8 0, .int .u8 0, .int .u8 0, .int .u8 0, .int .u8 0, .int .u8 0, .int .u8 0, .int .u8 0, .int .u8 0, .int .u8 0, .int .u8 0, .int .u8 0, .int .u8 0, .int .u8 0, .int .u8 0, .int .u8 0, .int .u8 0, .int .u8 0, .int .u8 0, .int .u8 0, .int .u8 0, .int .u8 0, .int .u8 0, .int .u8 0, .int .u8 0, .int .u8 0, .int .u8 0, .int .u8 0, .int .u8 0, .int .u8 0, .int .u8 0, .int .u8 0, .int .u8 0, .int .u8 0, .int .u8 0] : Array Value) = Z64.toArray := by unfold Z64; rfl

theorem Z64_length : Z64.length = 64 := by unfold Z64; rfl

theorem Z64_one : ∀ v ∈ Z64, v.oneCell' = true := by
  intro v hv
  have : v = .int .u8 0 := by
    have h : Z64 = List.replicate 64 (.int .u8 0) := by unfold Z64; rfl
    rw [h] at hv
    exact List.eq_of_mem_replicate hv
  rw [this]; rfl

/-- What lies in memory while a block is begun: the header, the block that is told, the block that is written. -/
structure Beg (w x : World) (hd : Obj) (cur : List Value) : Prop where
  b0 : x.heap[w.heap.size]? = some hd
  b1 : x.heap[w.heap.size + 1]? = some (.cells Z64.toArray 82 (0, 0))
  b2 : x.heap[w.heap.size + 1 + 1]? = some (.cells cur.toArray 82 (0, 0))
  ch : Chg 0 0 w x

theorem Beg.lt {w x : World} {hd : Obj} {cur : List Value} (h : Beg w x hd cur) : w.heap.size + 1 + 1 < x.heap.size := (Array.getElem?_eq_some_iff.1 h.b2).1

theorem Beg.chg {w x y : World} {hd : Obj} {cur : List Value} (h : Beg w x hd cur) (c : Chg 0 0 x y) : Beg w y hd cur :=
  have := h.lt
  ⟨(c.block _ (by omega) (by omega)).trans h.b0, (c.block _ (by omega) (by omega)).trans h.b1, (c.block _ (by omega) (by omega)).trans h.b2, h.ch.trans c⟩

theorem Beg.put {w x y : World} {hd : Obj} {cur cur' : List Value} (h : Beg w x hd cur) (c : Chg (w.heap.size + 1 + 1) (w.heap.size + 1 + 1 + 1) x y) (hb : y.heap[w.heap.size + 1 + 1]? = some (.cells cur'.toArray 82 (0, 0))) : Beg w y hd cur' :=
  have := h.lt
  ⟨(c.block _ (by omega) (by omega)).trans h.b0, (c.block _ (by omega) (by omega)).trans h.b1, hb, h.ch.step c (by omega)⟩

theorem View.cellAt' {w : World} {lo hi g n cap : Nat} {xs : List Int} (h : View w lo hi .u8 (.slice (some ⟨g, 0, none⟩) n cap) xs) (i : Nat) (hi : i < xs.length) : w.cell? ⟨g, i, none⟩ = some (.int .u8 (xs.getD i 0)) := by
  obtain ⟨_, _, e, _, _, h⟩ := h
  simp only [Value.slice.injEq] at e
  rcases h with h | ⟨b, off, ha, _, _, h3⟩
  · rw [h] at hi; simp at hi
  · rw [← e.1] at ha
    cases ha
    have := h3 i hi
    rwa [Nat.zero_add] at this

theorem results_one {P : Program} {fn : Func} {p : Tmp} {ty : TypeId} {w : World} {tmps : Array Value} {a : Addr} {v : Value} (h : fn.results = #[.cell p ty]) (ht : tmps.getD p undef = .pointer (some a)) (hl : (loadVar ty a).run P w = .ok v w) :
    (results fn tmps).run P w = .ok v w := by
  have ht' : tmps[p]?.getD undef = .pointer (some a) := by simpa using ht
  simp only [results, h]
  simp [asAddr, ht', hl]

end Go.Proofs.YtkkbaedlfijlmaaGreatDoor

namespace Go.Proofs.YtkkbaedlfijlmaaGreatDoor
open Go.RowKit

theorem wp_copy_row {P : Program} {o : Oper} {a : Act} {w : World} {K : Act → World → Prop} {Q : Exit → Act → World → Prop} (d s : Operand) (dT sT : TypeId)
    (ho : o.op = .call { callee := .builtin .copy, args := #[d, s], argTypes := #[dT, sT] }) (elem : TypeId) (hu : P.underlying dT = some (.slice elem)) (hsz : (P.info? elem).map (·.size) = some 1)
    (g off dLen dCap : Nat) (ad : Addr) (sLen sCap : Nat) (hd : a.eval d = .slice (some ⟨g, off, none⟩) dLen dCap) (hs : a.eval s = .slice (some ad) sLen sCap)
    (cur : List Value) (t : TypeId) (hg : w.heap[g]? = some (.cells cur.toArray t (0, 0))) (cs : List Value) (hn : cs.length = Nat.min sLen dLen)
    (hsrc : ∀ j v, cs[j]? = some v → w.cell? (ad.add j) = some v) (hfit : off + cs.length ≤ cur.length) (h1 : ∀ v ∈ cs, v.oneCell' = true)
    (h : ∀ w', Hid (w'.heap[g]? = some (.cells (splice cur off cs).toArray t (0, 0))) → Chg g (g + 1) w w' → K (a.put o.dst (goInt cs.length)) w') :
    Oper.wp P o a w K Q := by
  have hrun := run_copy_row (P := P) w dT sT o.type elem g off dLen dCap ad sLen sCap cur.toArray t cs hu hsz hg hn hsrc (by simpa using hfit) h1
  unfold Oper.wp
  simp [execOp, ho, resolve, invoke, builtin, hd, hs, hrun, Result.andThen]
  exact h _ (show _ = _ by simpa [splice] using setRow_heap w g _ _ t _ hg) (Chg.setRow _ _ _)

end Go.Proofs.YtkkbaedlfijlmaaGreatDoor
