/- Bytes cut into pieces of 16, of the program: as a function to range over that may be left. -/
import Derived.Test.YtdcigibcckphoaaSeqKit
namespace Go.Proofs.Ytdcigibcckphoaa
open Go.RowKit Go.Shelf
attribute [local go_sem] Oper.semAt_some

/-- Piece i of 16 bytes. -/
def encP16 (b off cap : Nat) {K : Nat} (x : Fin K) : Array Value := #[.slice (some ⟨b, off + 16 * x.val, none⟩) 16 (cap - 16 * x.val)]

set_option maxRecDepth 100000 in
set_option maxHeartbeats 2000000 in
theorem pieces16_stops (m : Nat) (_ : 1 ≤ m) (Bd Bn b off cap K : Nat) (ao : Option Addr) (hao : K = 0 ∨ ao = some ⟨b, off, none⟩) (w : World) (hK : K ≤ 4096) (hcap : 16 * K ≤ cap) (hc2 : cap ≤ 9223372036854775807)
    (hd : w.cell? ⟨Bd, 0, none⟩ = some (.slice ao (16 * K) cap)) (hn : w.cell? ⟨Bn, 0, none⟩ = some (.int .i64 16)) :
    SeqStopsK Fence.wide m Try.prog 32 #[.pointer (some ⟨Bd, 0, none⟩), .pointer (some ⟨Bn, 0, none⟩)] (encP16 b off cap (K := K)) (KeepK fun k => k = Bd ∨ k = Bn)
      (fun xs => xs.map Fin.val = List.range K) (fun pre => pre.map Fin.val = List.range pre.length) K w := fun l J Jx W hW hJ hJx hY h0 => by
  have hd2 : W.cell? ⟨Bd, 0, none⟩ = some (.slice ao (16 * K) cap) := (hW.cell (p := ⟨Bd, 0, none⟩) (lt_of_cell hd)).trans hd
  have hn2 : W.cell? ⟨Bn, 0, none⟩ = some (.int .i64 16) := (hW.cell (p := ⟨Bn, 0, none⟩) (lt_of_cell hn)).trans hn
  clear hd hn hW hJ hJx
  refine callsIn_of_wp Try.func32 rfl trivial ?_ rfl
  simp only [Try.ntmps32, List.size_toArray, List.length_cons, List.length_nil, Nat.reduceAdd, Nat.reduceSub, Array.replicate_succ, Array.replicate_zero, List.push_toArray, List.append_toArray, List.nil_append, List.cons_append]
  gi_wp2
  gi_loopw [4] (fun x wr => ∃ (i : Nat) (pre : List (Fin K)), x = .int .i64 ((16 * i : Nat) : Int) ∧ i ≤ K ∧ pre.map Fin.val = List.range i ∧ wr.cell? ⟨Bd, 0, none⟩ = some (.slice ao (16 * K) cap) ∧ wr.cell? ⟨Bn, 0, none⟩ = some (.int .i64 16) ∧ J pre wr)
    (fun x _ => 16 * K - (intOf x).toNat)
  case atStart => exact ⟨0, [], rfl, Nat.zero_le _, rfl, hd2, hn2, h0⟩
  case round =>
    clear hd2 hn2 h0
    obtain ⟨i, pre, rfl, hi, hpre, hd, hn, hJp⟩ := hrel
    have hplen : pre.length = i := by have := congrArg List.length hpre; simpa using this
    by_cases hlt : i < K
    · obtain rfl : ao = some ⟨b, off, none⟩ := hao.resolve_left (by omega)
      obtain ⟨fn, tmps, assign, body, hy, hR⟩ := hY pre ⟨i, hlt⟩ wr hJp (by omega)
      unfold encP16 at hy
      simp only at hy
      have Hpre : Hid (pre.map Fin.val = List.range i) := hpre
      obtain ⟨q, hq⟩ : ∃ q, q = 16 * i := ⟨_, rfl⟩
      obtain ⟨L, hL⟩ : ∃ L, L = 16 * K := ⟨_, rfl⟩
      have Hq : Hid (q = 16 * i) := hq
      have HLq : Hid (L = 16 * K) := hL
      have hqL : q + 16 ≤ L := by omega
      have hLb : L ≤ 262144 := by omega
      rw [← hq] at hy ⊢
      rw [← hL] at hd hcap
      have e1 : (q : Int) < (L : Int) := by omega
      have e2 : (q : Int) + 16 ≤ (L : Int) := by omega
      have e3 : (q : Int) + 16 ≤ (cap : Int) := by omega
      clear hY hpre hq hL hi hplen hao
      gi_wp2
      refine hR.mono ?_
      rintro e V (⟨rfl, hJ3, hkp⟩ | ⟨rfl, hJx3⟩)
      · have hd3 : V.cell? ⟨Bd, 0, none⟩ = some (.slice (some ⟨b, off, none⟩) L cap) := (hkp.cell (p := ⟨Bd, 0, none⟩) (Or.inl rfl)).trans hd
        have hn3 : V.cell? ⟨Bn, 0, none⟩ = some (.int .i64 16) := (hkp.cell (p := ⟨Bn, 0, none⟩) (Or.inr rfl)).trans hn
        clear hR hy hd hn hkp hJp
        gi_wp2
        go_roundw
        case rel => exact ⟨i + 1, pre ++ [⟨i, hlt⟩], by have := Hq.out; congr 1; omega, hlt, by rw [List.map_append, Hpre.out, List.range_succ]; rfl, by rw [← HLq.out]; exact hd3, hn3, hJ3⟩
        case measure => have := HLq.out; simp [intOf]; omega
      · gi_wp2
        refine bodyPost_ret (results_none rfl _ _ _) rfl ?_
        refine ⟨⟨_, rfl⟩, .inr ⟨pre ++ [⟨i, hlt⟩], ?_, hJx3⟩⟩
        have hl : pre.length = i := by have := congrArg List.length Hpre.out; simpa using this
        rw [List.map_append, Hpre.out, List.length_append, hl]
        exact List.range_succ.symm
    · obtain rfl : i = K := by omega
      have Hpre : Hid (pre.map Fin.val = List.range i) := hpre
      have e1 : ¬ (((16 * i : Nat) : Int) < ((16 * i : Nat) : Int)) := by omega
      generalize 16 * i = L at *
      clear hY hpre hplen hao
      gi_wp2
      go_end0
      exact ⟨⟨_, rfl⟩, .inl ⟨pre, Hpre.out, hJp⟩⟩

end Go.Proofs.Ytdcigibcckphoaa
