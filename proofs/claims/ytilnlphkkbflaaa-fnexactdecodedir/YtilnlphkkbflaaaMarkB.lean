/- Several short texts in one: MarkText, EntMark, EqB, MarkB. -/
import Derived.Test.YtilnlphkkbflaaaViewPart
import Derived.Deep.DeepCutAuto
import Derived.Test.YtilnlphkkbflaaaHeld
import Derived.Test.YtilnlphkkbflaaaRows
import Derived.Test.YtilnlphkkbflaaaMem
import Derived.Deep.RegionWith
namespace Go.Proofs.Ytilnlphkkbflaaa
open Go.RowKit

def mtGo : Nat → Nat → ByteArray → ByteArray
  | 0, _, s => s
  | n + 1, m, s => if m = 0 then s else mtGo n (m / 10) (strOfNums [48 + (m : Int) % 10] ++ s)
/-- The text that marks with k. -/
def mtext (k : Nat) : ByteArray := (⟨#[109]⟩ : ByteArray) ++ mtGo k k ⟨#[]⟩

theorem strOfNums_one (d : Int) : (strOfNums [d]).size = 1 := by simp [strOfNums, ByteArray.size]

set_option maxRecDepth 20000 in
set_option maxHeartbeats 400000 in
theorem markText_calls (w : World) (k : Nat) (hk : 0 < k) (hb : k ≤ 10000000) :
    Calls Try.prog 27 #[.int .i64 k] w fun e w' => e = .returned (.string (mtext k)) ∧ Chg 0 0 w w' := by
  have h0 : ¬ ((k : Int) ≤ 0) := by omega
  have HM : Hid (mtext k = (⟨#[109]⟩ : ByteArray) ++ mtGo k k ⟨#[]⟩) := rfl
  go_enter Try.func27, Try.ntmps27
  go_wp2
  go_loopw [0, 3] (fun x o wr => Chg 0 0 w wr ∧ ∃ (m n : Nat) (s : ByteArray), x = .int .i64 m ∧ m ≤ n ∧ s.size + m ≤ k ∧ o = .string s ∧ mtGo k k ⟨#[]⟩ = mtGo n m s) (fun x _ _ => (intOf x).toNat)
  case atStart => exact ⟨Chg.refl _ _ _, k, k, _, rfl, Nat.le_refl _, by show 0 + k ≤ k; omega, rfl, rfl⟩
  case round =>
    obtain ⟨hch, m, n, s, rfl, hmn, hm, rfl, hR⟩ := hrel
    by_cases hlt : 0 < m
    · have hi : (0 : Int) < (m : Int) := by omega
      have hd : 48 + (m : Int) % 10 < 256 := by omega
      have hcv : ∀ d, (convert 22 9 (.slice (some ⟨wr.heap.size, 0, none⟩) 1 1)).run Try.prog (wr.alloc (.cells #[.int .u8 d] 5)) = .ok (.string (strOfNums [d])) (wr.alloc (.cells #[.int .u8 d] 5)) := by
        intro d
        have hV : View (wr.alloc (.cells #[.int .u8 d] 5)) 0 (wr.alloc (.cells #[.int .u8 d] 5)).heap.size .u8 (.slice (some ⟨wr.heap.size, 0, none⟩) 1 1) [d] := by
          refine ⟨_, 1, rfl, by simp, ⟨by simp, by simp⟩, Or.inr ⟨wr.heap.size, 0, rfl, Nat.zero_le _, by simp, fun i hi => ?_⟩⟩
          obtain rfl : i = 0 := by simpa using hi
          have hh := heap_new wr (.cells #[.int .u8 d] 5)
          simp only [World.cell?, hh]; rfl
        exact hV.str
      obtain ⟨n', rfl⟩ : ∃ n', n = n' + 1 := ⟨n - 1, by omega⟩
      have hR' : mtGo k k ⟨#[]⟩ = mtGo n' (m / 10) (strOfNums [48 + (m : Int) % 10] ++ s) := by
        rw [hR]; show (if m = 0 then s else _) = _; rw [if_neg (by omega)]
      have Hn : Hid (mtGo k k ⟨#[]⟩ = mtGo n' (m / 10) (strOfNums [48 + (m : Int) % 10] ++ s)) := hR'
      have hz := strOfNums_one (48 + (m : Int) % 10)
      have Hz : Hid ((strOfNums [48 + (m : Int) % 10] ++ s).size = 1 + s.size) := by show _ = _; rw [ByteArray.size_append, hz]
      have hsz : (strOfNums [48 + (m : Int) % 10]).size + s.size ≤ 10000000 := by omega
      have HC : Hid (Chg 0 0 w (wr.alloc (.cells #[.int .u8 (48 + (m : Int) % 10)] 5))) := hch.alloc _
      clear hR hR' hz hch
      go_wp2
      go_roundw
      case rel => exact ⟨HC.out, m / 10, n', _, by go_num, by omega, by rw [Hz.out]; omega, rfl, Hn.out⟩
      case measure => simp [intOf]; omega
    · obtain rfl : m = 0 := by omega
      have hR' : mtGo k k ⟨#[]⟩ = s := by
        rw [hR]
        cases n with
        | zero => rfl
        | succ n => show (if 0 = 0 then s else _) = s; rw [if_pos rfl]
      have Hn : Hid (mtext k = (⟨#[109]⟩ : ByteArray) ++ s) := by show _ = _; rw [HM.out, hR']
      have hsz : s.size ≤ 10000000 := by omega
      have hsz1 : (⟨#[109]⟩ : ByteArray).size + s.size ≤ 10000001 := by show 1 + s.size ≤ _; omega
      clear hR hR'
      go_wp2
      go_ret
      exact ⟨by rw [Hn.out]; rfl, hch⟩

end Go.Proofs.Ytilnlphkkbflaaa

namespace Go.Proofs.Ytilnlphkkbflaaa
open Go.RowKit

/-- Entries that are marks. -/
def mkE (k0 n : Nat) : List Ent := (List.range n).map fun i => (((k0 + 2 * i : Nat) : Int), mtext (k0 + 2 * i + 1))
theorem mkE_len (k0 n : Nat) : (mkE k0 n).length = n := by simp [mkE]
theorem mkE_succ (k0 n : Nat) : mkE k0 (n + 1) = mkE k0 n ++ [(((k0 + 2 * n : Nat) : Int), mtext (k0 + 2 * n + 1))] := by simp [mkE, List.range_succ]
theorem mkE_getD (k0 n i : Nat) (h : i < n) : (mkE k0 n).getD i Ent.none = (((k0 + 2 * i : Nat) : Int), mtext (k0 + 2 * i + 1)) := by simp [mkE, List.getD_eq_getElem?_getD, h]
theorem mkE_set (k0 k : Nat) (ts : List Ent) (h : k < ts.length) : (mkE k0 k ++ ts.drop k).set k (((k0 + 2 * k : Nat) : Int), mtext (k0 + 2 * k + 1)) = mkE k0 (k + 1) ++ ts.drop (k + 1) := by
  rw [List.set_append, mkE_len, if_neg (by omega), Nat.sub_self, List.drop_eq_getElem_cons h, List.set_cons_zero, mkE_succ, List.append_assoc]; rfl

set_option maxRecDepth 20000 in
set_option maxHeartbeats 1000000 in
theorem markEntryS_some (w : World) (base : Nat) (e : TypeId) (ts : List Ent) (k0 g cap : Nat) (hl : ts.length ≤ 1048576) (hk0 : 0 < k0) (hk1 : k0 ≤ 1048576) (h1 : OwnE w base e (.slice (some ⟨g, 0, none⟩) ts.length cap) ts) :
    Calls Try.prog 16 #[.slice (some ⟨g, 0, none⟩) ts.length cap, .int .i64 k0] w fun r w' => r = .returned (.int .i64 ((k0 + 2 * ts.length : Nat) : Int)) ∧ OwnE w' base e (.slice (some ⟨g, 0, none⟩) ts.length cap) (mkE k0 ts.length) ∧ Chg g (g + 1) w w' := by
  have hg0 := (h1.lt g rfl).2
  go_enter Try.func16, Try.ntmps16
  go_wp2
  go_loopw [1, 5] (fun q i wr => ∃ k : Nat, k ≤ ts.length ∧ i = .int .i64 k ∧ q = .int .i64 ((k0 + 2 * k : Nat) : Int) ∧ OwnE wr base e (.slice (some ⟨g, 0, none⟩) ts.length cap) (mkE k0 k ++ ts.drop k) ∧ Chg g (g + 1) w wr) (fun _ i _ => ts.length - (intOf i).toNat)
  case atStart => exact ⟨0, Nat.zero_le _, rfl, by simp, by simpa [mkE] using h1, Chg.refl _ _ _⟩
  case round =>
    obtain ⟨k, hk, rfl, rfl, hown, hch⟩ := hrel
    clear h1
    have hlen : (mkE k0 k ++ ts.drop k).length = ts.length := by simp [mkE_len]; omega
    by_cases hlt : k < ts.length
    · have hrow : wr.ownsRow base e 2 (.slice (some ⟨g, 0, none⟩) ts.length cap) ts.length (cellsE (mkE k0 k ++ ts.drop k)) := by
        have := hown; unfold OwnE at this; rw [hlen] at this; exact this
      have hcl := hrow.1
      obtain ⟨u0, c0⟩ : ∃ u, wr.cell? ⟨g, k * 2, none⟩ = some u := ⟨_, (World.ownsRow.cellAt hrow (k * 2) (by omega)).trans (List.getElem?_eq_getElem (by omega))⟩
      obtain ⟨u1, c1⟩ : ∃ u, wr.cell? ⟨g, k * 2 + 1, none⟩ = some u := ⟨_, (World.ownsRow.cellAt hrow (k * 2 + 1) (by omega)).trans (List.getElem?_eq_getElem (by omega))⟩
      have f0 := World.ownsRow.frozenAt hrow (k * 2)
      have f1 := World.ownsRow.frozenAt hrow (k * 2 + 1)
      have hi : (k : Int) < (ts.length : Int) := by omega
      obtain ⟨Q, HQ⟩ : ∃ Q : Nat, Hid (k0 + 2 * k = Q) := ⟨_, rfl⟩
      have hQb : Q ≤ 10000000 - 1 := by have := HQ.out; omega
      have hQ0 : 0 < Q := by have := HQ.out; omega
      have sz := hch.size
      have hfin : ∀ w2 : World, Chg 0 0 (wr.setCell ⟨g, k * 2, none⟩ (.int .i64 (Q : Int))) w2 → OwnE (w2.setCell ⟨g, k * 2 + 1, none⟩ (.string (mtext (Q + 1)))) base e (.slice (some ⟨g, 0, none⟩) ts.length cap) (mkE k0 (k + 1) ++ ts.drop (k + 1)) ∧ Chg g (g + 1) w (w2.setCell ⟨g, k * 2 + 1, none⟩ (.string (mtext (Q + 1)))) ∧ (∃ u, w2.cell? ⟨g, k * 2 + 1, none⟩ = some u) ∧ w2.frozen? ⟨g, k * 2 + 1, none⟩ = false := by
        intro w2 hs
        have st := (World.ownsRow.stored hrow (k * 2) (.int .i64 (Q : Int))).1
        have st2 : w2.ownsRow base e 2 (.slice (some ⟨g, 0, none⟩) ts.length cap) ts.length ((cellsE (mkE k0 k ++ ts.drop k)).set (k * 2) (.int .i64 (Q : Int))) := by
          obtain ⟨a1, a2⟩ := st
          refine ⟨a1, ?_⟩
          rcases a2 with a2 | ⟨g', cap', cur, hv, hg, hh, r⟩
          · exact Or.inl a2
          · refine Or.inr ⟨g', cap', cur, hv, hg, ?_, r⟩
            rw [hs.block g' (Array.getElem?_eq_some_iff.1 hh).1 (by omega)]; exact hh
        have st3 := (World.ownsRow.stored st2 (k * 2 + 1) (.string (mtext (Q + 1)))).1
        refine ⟨?_, ?_, ⟨_, (World.ownsRow.cellAt st2 (k * 2 + 1) (by omega)).trans (List.getElem?_eq_getElem (by rw [List.length_set]; omega))⟩, World.ownsRow.frozenAt st2 (k * 2 + 1)⟩
        · unfold OwnE
          rw [show (mkE k0 (k + 1) ++ ts.drop (k + 1)).length = ts.length by simp [mkE_len]; omega, ← mkE_set k0 k ts hlt, ← cellsE_set _ k _ (by rw [hlen]; exact hlt), HQ.out]
          exact st3
        · exact ((hch.setCell (Or.inl ⟨Nat.le_refl _, Nat.lt_succ_self _⟩) _).step hs (by omega)).setCell (Or.inl ⟨Nat.le_refl _, Nat.lt_succ_self _⟩) _
      have Hfin : Hid (∀ w2 : World, Chg 0 0 (wr.setCell ⟨g, k * 2, none⟩ (.int .i64 (Q : Int))) w2 → OwnE (w2.setCell ⟨g, k * 2 + 1, none⟩ (.string (mtext (Q + 1)))) base e (.slice (some ⟨g, 0, none⟩) ts.length cap) (mkE k0 (k + 1) ++ ts.drop (k + 1)) ∧ Chg g (g + 1) w (w2.setCell ⟨g, k * 2 + 1, none⟩ (.string (mtext (Q + 1)))) ∧ (∃ u, w2.cell? ⟨g, k * 2 + 1, none⟩ = some u) ∧ w2.frozen? ⟨g, k * 2 + 1, none⟩ = false) := hfin
      have hN := markText_calls (wr.setCell ⟨g, k * 2, none⟩ (.int .i64 (Q : Int))) (Q + 1) (by omega) (by omega)
      rw [show ((Q + 1 : Nat) : Int) = (Q : Int) + 1 by omega] at hN
      rw [HQ.out]
      clear hfin hown hrow hcl hlen hch
      go_wp2_with fail
      refine hN.mono ?_
      rintro r w2 ⟨rfl, hs⟩
      obtain ⟨t1, t2, ⟨u2, c2⟩, f2⟩ := Hfin.out w2 hs
      have T1 : Hid (OwnE (w2.setCell ⟨g, k * 2 + 1, none⟩ (.string (mtext (Q + 1)))) base e (.slice (some ⟨g, 0, none⟩) ts.length cap) (mkE k0 (k + 1) ++ ts.drop (k + 1))) := t1
      have T2 : Hid (Chg g (g + 1) w (w2.setCell ⟨g, k * 2 + 1, none⟩ (.string (mtext (Q + 1))))) := t2
      clear t1 t2 hs hN c0 c1 f0 f1 Hfin
      go_wp2
      go_roundw
      case rel => exact ⟨k + 1, by omega, by go_num, by have := HQ.out; congr 1; omega, T1.out, T2.out⟩
      case measure => simp [intOf]; omega
    · obtain rfl : k = ts.length := by omega
      have HR : Hid (OwnE wr base e (.slice (some ⟨g, 0, none⟩) ts.length cap) (mkE k0 ts.length)) := by
        have := hown; rw [List.drop_length, List.append_nil] at this; exact this
      clear hown hlen
      go_wp2
      go_ret
      exact ⟨ret_int (by omega), HR.out, hch⟩

set_option maxRecDepth 20000 in
set_option maxHeartbeats 400000 in
theorem markEntryS_none (w : World) (ao : Option Addr) (k0 cap : Nat) :
    Calls Try.prog 16 #[.slice ao 0 cap, .int .i64 k0] w fun r w' => r = .returned (.int .i64 (k0 : Int)) ∧ w' = w := by
  go_enter Try.func16, Try.ntmps16
  go_wp2
  refine wp_loop_rounds 1 ?_; rw [rounds_succ]
  go_wp2
  go_ret
  exact ⟨rfl, rfl⟩

theorem markEntryS_calls (w : World) (base : Nat) (e : TypeId) (v : Value) (ts : List Ent) (k0 lo hi : Nat) (hl : ts.length ≤ 1048576) (hk0 : 0 < k0) (hk1 : k0 ≤ 1048576) (h1 : OwnE w base e v ts) (hb : ∀ g, v.ownBlock = some g → lo ≤ g ∧ g < hi) :
    Calls Try.prog 16 #[v, .int .i64 k0] w fun r w' => r = .returned (.int .i64 ((k0 + 2 * ts.length : Nat) : Int)) ∧ OwnE w' base e v (mkE k0 ts.length) ∧ Chg lo hi w w' := by
  have h0 := h1
  obtain ⟨_, h2⟩ := h1
  rcases h2 with ⟨rfl, hn⟩ | ⟨g, cap, cur, rfl, _⟩
  · obtain rfl : ts = [] := List.eq_nil_of_length_eq_zero hn
    refine (markEntryS_none w none k0 0).mono ?_
    rintro r w' ⟨rfl, rfl⟩
    exact ⟨by simp, by simpa [mkE] using h0, Chg.refl _ _ _⟩
  · refine (markEntryS_some w base e ts k0 g cap hl hk0 hk1 h0).mono ?_
    rintro r w' ⟨rfl, ho, hc⟩
    have := hb g rfl
    exact ⟨rfl, ho, hc.widen (Or.inl this.1) (Or.inl (by omega))⟩

set_option maxRecDepth 20000 in
set_option maxHeartbeats 1000000 in
theorem heldEntryS_some (w : World) (K k0 : Nat) (b off cap : Nat) (hl : K ≤ 1048576) (hk0 : 0 < k0) (hk1 : k0 ≤ 1048576)
    (h1 : ∀ i, i < K → EAt w b (off + i * 2) (((k0 + 2 * i : Nat) : Int), mtext (k0 + 2 * i + 1))) :
    Calls Try.prog 17 #[.slice (some ⟨b, off, none⟩) K cap, .int .i64 k0] w fun e w' => e = .returned (.int .i64 ((k0 + 2 * K : Nat) : Int)) ∧ Chg 0 0 w w' := by
  go_enter Try.func17, Try.ntmps17
  go_wp2
  go_loopw [1, 5] (fun q i wr => Chg 0 0 w wr ∧ ∃ k : Nat, k ≤ K ∧ i = .int .i64 k ∧ q = .int .i64 ((k0 + 2 * k : Nat) : Int)) (fun _ i _ => K - (intOf i).toNat)
  case atStart => exact ⟨Chg.refl _ _ _, 0, Nat.zero_le _, rfl, by simp⟩
  case round =>
    obtain ⟨hch, k, hk, rfl, rfl⟩ := hrel
    by_cases hlt : k < K
    · obtain ⟨c0, c1⟩ := h1 k hlt
      have c0 := hch.cell c0 (by omega)
      have c1 := hch.cell c1 (by omega)
      have hi : (k : Int) < (K : Int) := by omega
      obtain ⟨Q, HQ⟩ : ∃ Q : Nat, Hid (k0 + 2 * k = Q) := ⟨_, rfl⟩
      rw [HQ.out] at c0 c1 ⊢
      have c0 : wr.cell? ⟨b, off + k * 2, none⟩ = some (.int .i64 (Q : Int)) := c0
      have c1 : wr.cell? ⟨b, off + k * 2 + 1, none⟩ = some (.string (mtext (Q + 1))) := c1
      have hQb : Q ≤ 10000000 - 1 := by have := HQ.out; omega
      have n0 : ((Q : Int) != (Q : Int)) = false := by simp
      have hN := markText_calls wr.drew (Q + 1) (by omega) (by omega)
      rw [show ((Q + 1 : Nat) : Int) = (Q : Int) + 1 by omega] at hN
      clear h1
      go_wp2
      go_region_with (go_at_call 27; refine hN.mono ?_; rintro e w2 ⟨rfl, hs⟩; have c2 := hs.cell (show wr.drew.cell? ⟨b, off + k * 2 + 1, none⟩ = _ from c1) (by omega))
      all_goals
        have HC : Hid (Chg 0 0 w w2) := hch.drew.trans hs
        clear hs hN hch
        go_wp2
        go_roundw
        case rel => exact ⟨HC.out, k + 1, by omega, by go_num, by have := HQ.out; congr 1; omega⟩
        case measure => simp [intOf]; omega
    · obtain rfl : k = K := by omega
      clear h1
      go_wp2
      go_ret
      exact ⟨ret_int (by omega), hch⟩

set_option maxRecDepth 20000 in
set_option maxHeartbeats 400000 in
theorem heldEntryS_none (w : World) (ao : Option Addr) (k0 cap : Nat) :
    Calls Try.prog 17 #[.slice ao 0 cap, .int .i64 k0] w fun e w' => e = .returned (.int .i64 (k0 : Int)) ∧ w' = w := by
  go_enter Try.func17, Try.ntmps17
  go_wp2
  refine wp_loop_rounds 1 ?_; rw [rounds_succ]
  go_wp2
  go_ret
  exact ⟨rfl, rfl⟩

theorem heldEntryS_calls (w : World) {lo hi : Nat} {a : Value} (k0 K : Nat) (hl : K ≤ 1048576) (hk0 : 0 < k0) (hk1 : k0 ≤ 1048576) (h1 : EView w lo hi a (mkE k0 K)) :
    Calls Try.prog 17 #[a, .int .i64 k0] w fun e w' => e = .returned (.int .i64 ((k0 + 2 * K : Nat) : Int)) ∧ Chg 0 0 w w' := by
  obtain ⟨ao, cap, rfl, _, _, h1⟩ := h1
  rw [mkE_len] at *
  rcases h1 with h1 | ⟨x, off, rfl, _, _, h1⟩
  · obtain rfl : K = 0 := by have := congrArg List.length h1; simpa [mkE_len] using this
    exact (heldEntryS_none w ao k0 cap).mono fun _ _ ⟨he, hw⟩ => ⟨by simpa using he, by rw [hw]; exact Chg.refl _ _ _⟩
  · exact heldEntryS_some w K k0 x off cap hl hk0 hk1 (fun i hi => by rw [← mkE_getD k0 K i hi]; exact h1 i hi)

end Go.Proofs.Ytilnlphkkbflaaa

namespace Go.Proofs.Ytilnlphkkbflaaa
open Go.RowKit

set_option maxHeartbeats 400000 in
theorem eqByteS_some (w : World) (xs : List Int) (b off b' off' cap cap' : Nat) (hl : xs.length ≤ 9223372036854775807)
    (h1 : ∀ i, i < xs.length → w.cell? ⟨b, off + i, none⟩ = some (.int .u8 (xs.getD i 0)))
    (h2 : ∀ i, i < xs.length → w.cell? ⟨b', off' + i, none⟩ = some (.int .u8 (xs.getD i 0))) :
    Calls Try.prog 8 #[.slice (some ⟨b, off, none⟩) xs.length cap, .slice (some ⟨b', off', none⟩) xs.length cap'] w fun e w' => e = .returned (.bool true) ∧ Same w w' := by
  have hne : ((xs.length : Int) != (xs.length : Int)) = false := by simp
  go_enter Try.func8, Try.ntmps8
  go_wp2
  go_loopw [5] (fun i wr => Same w wr ∧ ∃ k : Nat, k ≤ xs.length ∧ i = .int .i64 k) (fun i _ => xs.length - (intOf i).toNat)
  case atStart => exact ⟨Same.refl _, 0, Nat.zero_le _, rfl⟩
  case round =>
    obtain ⟨hal, k, hk, rfl⟩ := hrel
    have e1 : ∀ a, wr.cell? a = w.cell? a := fun a => hal.cell a
    by_cases hlt : k < xs.length
    · have c1 : wr.cell? ⟨b, off + k, none⟩ = some (.int .u8 (xs.getD k 0)) := (e1 _).trans (h1 k hlt)
      have c2 : wr.cell? ⟨b', off' + k, none⟩ = some (.int .u8 (xs.getD k 0)) := (e1 _).trans (h2 k hlt)
      clear e1
      have hi : (k : Int) < (xs.length : Int) := by omega
      go_wp2
      go_quiet (fail)
      go_wp2
      go_roundw
      case rel => exact ⟨hal.drewN _, k + 1, by omega, by go_num⟩
      case measure => simp [intOf]; omega
    · clear e1
      go_wp2
      go_ret
      exact ⟨rfl, hal⟩

set_option maxHeartbeats 400000 in
theorem eqByteS_none (w : World) (ao bo : Option Addr) (cap cap' : Nat) :
    Calls Try.prog 8 #[.slice ao 0 cap, .slice bo 0 cap'] w fun e w' => e = .returned (.bool true) ∧ Same w w' := by
  go_enter Try.func8, Try.ntmps8
  go_wp2
  refine wp_loop_rounds 1 ?_; rw [rounds_succ]
  go_wp2
  go_ret
  exact ⟨rfl, Same.refl _⟩

theorem eqByteS_calls (w : World) {lo hi lo' hi' : Nat} {a b : Value} {xs : List Int} (h1 : View w lo hi .u8 a xs) (h2 : View w lo' hi' .u8 b xs) :
    Calls Try.prog 8 #[a, b] w fun e w' => e = .returned (.bool true) ∧ Same w w' := by
  obtain ⟨ao, cap, rfl, hl, _, h1⟩ := h1
  obtain ⟨bo, cap', rfl, _, _, h2⟩ := h2
  rcases h1 with rfl | ⟨x, off, rfl, _, _, h1⟩
  · exact eqByteS_none w ao bo cap cap'
  · rcases h2 with rfl | ⟨y, off', rfl, _, _, h2⟩
    · exact eqByteS_none w _ bo cap cap'
    · exact eqByteS_some w xs x off y off' cap cap' hl h1 h2

end Go.Proofs.Ytilnlphkkbflaaa

namespace Go.Proofs.Ytilnlphkkbflaaa
open Go.RowKit

set_option maxRecDepth 20000 in
set_option maxHeartbeats 400000 in
theorem markByteS_some (w : World) (base : Nat) (e : TypeId) (xs : List Int) (k0 g cap : Nat) (hl : xs.length ≤ 140737488355328) (hk0 : k0 ≤ 140737488355328)
    (h1 : OwnB w base e (.slice (some ⟨g, 0, none⟩) xs.length cap) xs) :
    Calls Try.prog 9 #[.slice (some ⟨g, 0, none⟩) xs.length cap, .int .i64 k0] w fun r w' => r = .returned (.int .i64 ((k0 + xs.length : Nat) : Int)) ∧
      OwnB w' base e (.slice (some ⟨g, 0, none⟩) xs.length cap) (marks k0 xs.length) ∧ Chg g (g + 1) w w' := by
  go_enter Try.func9, Try.ntmps9
  go_wp2
  go_loopw [1, 5] (fun q i wr => ∃ k : Nat, k ≤ xs.length ∧ i = .int .i64 k ∧ q = .int .i64 ((k0 + k : Nat) : Int) ∧ OwnB wr base e (.slice (some ⟨g, 0, none⟩) xs.length cap) (marks k0 k ++ xs.drop k) ∧ Chg g (g + 1) w wr) (fun _ i _ => xs.length - (intOf i).toNat)
  case atStart => exact ⟨0, Nat.zero_le _, rfl, rfl, by simpa [marks] using h1, Chg.refl _ _ _⟩
  case round =>
    obtain ⟨k, hk, rfl, rfl, hown, hch⟩ := hrel
    clear h1
    have hlen : (marks k0 k ++ xs.drop k).length = xs.length := by simp [marks_length]; omega
    have hown' : wr.ownsRow base e 1 (.slice (some ⟨g, 0, none⟩) xs.length cap) xs.length ((marks k0 k ++ xs.drop k).map (Value.int .u8)) := by
      have := hown; unfold OwnB at this; rw [hlen] at this; exact this
    by_cases hlt : k < xs.length
    · have c1 : ∃ u, wr.cell? ⟨g, k, none⟩ = some u := by
        have := World.ownsRow.cellAt hown' k (by omega)
        rw [this]
        exact ⟨_, List.getElem?_eq_getElem (by rw [List.length_map, hlen]; exact hlt)⟩
      obtain ⟨u, c1⟩ := c1
      have f1 : wr.frozen? ⟨g, k, none⟩ = false := World.ownsRow.frozenAt hown' k
      have hst := World.ownsRow.stored hown' k (.int .u8 (((k0 + k : Nat) : Int) % 256))
      rw [marks_set _ _ _ hlt] at hst
      have hlen2 : (marks k0 (k + 1) ++ xs.drop (k + 1)).length = xs.length := by simp [marks_length]; omega
      have hi : (k : Int) < (xs.length : Int) := by omega
      have R : OwnB (wr.setCell ⟨g, k, none⟩ (.int .u8 (((k0 + k : Nat) : Int) % 256))) base e (.slice (some ⟨g, 0, none⟩) xs.length cap) (marks k0 (k + 1) ++ xs.drop (k + 1)) := by
        unfold OwnB; rw [hlen2]; exact hst.1
      have R2 : Chg g (g + 1) w (wr.setCell ⟨g, k, none⟩ (.int .u8 (((k0 + k : Nat) : Int) % 256))) := hch.setCell (Or.inl ⟨Nat.le_refl _, Nat.lt_succ_self _⟩) _
      have HR : Hid (OwnB (wr.setCell ⟨g, k, none⟩ (.int .u8 (((k0 + k : Nat) : Int) % 256))) base e (.slice (some ⟨g, 0, none⟩) xs.length cap) (marks k0 (k + 1) ++ xs.drop (k + 1))) := R
      clear hst hown hown' hlen hlen2 R hch
      go_wp2
      go_roundw
      case rel => exact ⟨k + 1, by omega, by go_num, by go_num, HR.out, R2⟩
      case measure => simp [intOf]; omega
    · obtain rfl : k = xs.length := by omega
      have HR : Hid (OwnB wr base e (.slice (some ⟨g, 0, none⟩) xs.length cap) (marks k0 xs.length)) := by
        have := hown; rw [List.drop_length, List.append_nil] at this; exact this
      clear hown hown' hlen
      go_wp2
      go_ret
      exact ⟨ret_int (by omega), HR.out, hch⟩

set_option maxRecDepth 20000 in
set_option maxHeartbeats 400000 in
theorem markByteS_none (w : World) (ao : Option Addr) (k0 cap : Nat) :
    Calls Try.prog 9 #[.slice ao 0 cap, .int .i64 k0] w fun r w' => r = .returned (.int .i64 (k0 : Int)) ∧ w' = w := by
  go_enter Try.func9, Try.ntmps9
  go_wp2
  refine wp_loop_rounds 1 ?_; rw [rounds_succ]
  go_wp2
  go_ret
  exact ⟨rfl, rfl⟩

/-- Behind markByteS the slice's own row bears the marks; nothing else has turned. -/
theorem markByteS_calls (w : World) (base : Nat) (e : TypeId) (v : Value) (xs : List Int) (k0 lo hi : Nat) (hl : xs.length ≤ 140737488355328) (hk0 : k0 ≤ 140737488355328)
    (h1 : OwnB w base e v xs) (hb : ∀ g, v.ownBlock = some g → lo ≤ g ∧ g < hi) :
    Calls Try.prog 9 #[v, .int .i64 k0] w fun r w' => r = .returned (.int .i64 ((k0 + xs.length : Nat) : Int)) ∧ OwnB w' base e v (marks k0 xs.length) ∧ Chg lo hi w w' ∧ (∀ g, v.ownBlock = some g → Chg g (g + 1) w w') ∧ (v.ownBlock = none → w' = w) := by
  have h0 := h1
  obtain ⟨_, h2⟩ := h1
  rcases h2 with ⟨rfl, hn⟩ | ⟨g, cap, cur, rfl, _⟩
  · obtain rfl : xs = [] := List.eq_nil_of_length_eq_zero hn
    refine (markByteS_none w none k0 0).mono ?_
    rintro r w' ⟨rfl, rfl⟩
    exact ⟨rfl, h0, Chg.refl _ _ _, fun _ _ => Chg.refl _ _ _, fun _ => rfl⟩
  · refine (markByteS_some w base e xs k0 g cap hl hk0 h0).mono ?_
    rintro r w' ⟨rfl, ho, hc⟩
    have := hb g rfl
    exact ⟨rfl, ho, hc.widen (Or.inl this.1) (Or.inl (by omega)), fun g' hg' => by cases hg'; exact hc, fun h => by cases h⟩

end Go.Proofs.Ytilnlphkkbflaaa
