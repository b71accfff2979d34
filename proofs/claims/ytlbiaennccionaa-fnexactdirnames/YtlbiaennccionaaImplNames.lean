/- DirNames of the program. -/
import Derived.Test.YtlbiaennccionaaSortMath
import Derived.Test.YtlbiaennccionaaShelfSort
namespace Go.Proofs.Ytlbiaennccionaa
open Go.RowKit Go.Sort

theorem Try.infoTx : (Try.prog.info? 9).map (fun i => (i.zero, i.size, i.bytes)) = some (some (.string ⟨#[]⟩), 1, 16) := by kernel_rfl
theorem made_text (n : Nat) : (madeCells #[.string ⟨#[]⟩] (n * 1)).toList = (List.replicate n noText).map Value.string := by
  rw [List.map_replicate]
  refine List.ext_getElem? fun j => ?_
  by_cases hj : j < n
  · simp [madeCells, hj, Nat.mod_one, noText]
  · rw [List.getElem?_eq_none (by simp [madeCells]; omega), List.getElem?_eq_none (by simp; omega)]
theorem nms_set (ts : List Ent) {k : Nat} (h : k < ts.length) : (nms ts k ++ List.replicate (ts.length - k) noText).set k (ts.getD k Ent.none).2 = nms ts (k + 1) ++ List.replicate (ts.length - (k + 1)) noText := by
  have e : ts.length - k = (ts.length - (k + 1)) + 1 := by omega
  have hl := nms_len ts (Nat.le_of_lt h)
  rw [e, List.replicate_succ, List.set_append, if_neg (by omega), hl, Nat.sub_self, List.set_cons_zero, nms_succ ts h, List.append_assoc]
  rfl

set_option maxRecDepth 20000 in
set_option maxHeartbeats 2000000 in
theorem implNames_in (w : World) (ts : List Ent) (ao : Option Addr) (cap : Nat) (hl : ts.length ≤ 1000)
    (h1 : ts = [] ∨ ∃ b off, ao = some ⟨b, off, none⟩ ∧ ∀ i, i < ts.length → EAt w b (off + i * 2) (ts.getD i Ent.none)) :
    Calls Try.prog 7 #[.slice ao ts.length cap] w fun e w' => ∃ v, e = .returned v ∧ OwnS w' w.heap.size 9 v (sortTo (nms ts ts.length) ts.length) ∧ Chg 0 0 w w' := by
  obtain ⟨ii, hii, hz0, hz1, hz2⟩ := info_parts Try.infoTx
  have e0 : ¬ (1000 : Int) < (ts.length : Int) := by omega
  go_enter Try.func7, Try.ntmps7
  go_wp2_with (at_make; refine wpList_make_full _ rfl _ _ 24 rfl w.heap.size 9 ii (.string ⟨#[]⟩) 1 Try.underlying24 hii hz0 hz1 _ _ _ _ ts.length rfl rfl rfl rfl (by rw [hz2]; omega) (by unfold maxLen; omega) (by simp) ?_)
  intro w1 hown hgrow
  have hch : Chg 0 0 w w1 := Chg.ofGrown hgrow (by simp)
  have hO : OwnS w1 w.heap.size 9 (.slice (some ⟨w.heap.size, 0, none⟩) ts.length ts.length) (nms ts 0 ++ List.replicate (ts.length - 0) noText) := by
    unfold OwnS
    have hm := made_text ts.length
    rw [Nat.mul_one] at hm
    rw [show nms ts 0 = [] from rfl, List.nil_append, Nat.sub_zero, List.length_replicate, ← hm]
    exact hown
  clear hown hgrow
  go_wp2
  go_loopw [14] (fun i wr => ∃ k : Nat, k ≤ ts.length ∧ i = .int .i64 k ∧ OwnS wr w.heap.size 9 (.slice (some ⟨w.heap.size, 0, none⟩) ts.length ts.length) (nms ts k ++ List.replicate (ts.length - k) noText) ∧ Chg 0 0 w wr) (fun i _ => ts.length - (intOf i).toNat)
  case atStart => exact ⟨0, Nat.zero_le _, rfl, hO, hch⟩
  case round =>
    obtain ⟨k, hk, rfl, ho, hc⟩ := hrel
    clear hO hch
    have hlen : (nms ts k ++ List.replicate (ts.length - k) noText).length = ts.length := by rw [List.length_append, nms_len ts hk, List.length_replicate]; omega
    by_cases hlt : k < ts.length
    · obtain ⟨b, off, rfl, hce⟩ := h1.resolve_left (fun h => by rw [h] at hlt; exact absurd hlt (Nat.not_lt_zero k))
      obtain ⟨c1, c2⟩ := (hce k hlt).chg hc (by omega)
      have hi : (k : Int) < (ts.length : Int) := by omega
      have HP := nms_set ts hlt
      generalize ts.getD k Ent.none = t at *
      have CA : Chg 0 0 wr (wr.alloc (.cells #[.int .i64 t.1, .string t.2] 36)) := Chg.alloc (Chg.refl 0 0 wr) _
      have hoA := ho.chg CA (by intro g _; omega)
      have hnew := heap_new wr (.cells #[.int .i64 t.1, .string t.2] 36)
      have hcA := hc.trans CA
      obtain ⟨u1, f1⟩ := hoA.cell hlen k hlt
      have hp := hoA.put hlen k t.2
      rw [HP] at hp
      have e2 : (wr.alloc (.cells #[.int .i64 t.1, .string t.2] 36)).cell? ⟨wr.heap.size, 1, none⟩ = some (.string t.2) := by simp only [World.cell?, hnew]; rfl
      have HR : Hid (OwnS ((wr.alloc (.cells #[.int .i64 t.1, .string t.2] 36)).setCell ⟨w.heap.size, k, none⟩ (.string t.2)) w.heap.size 9 (.slice (some ⟨w.heap.size, 0, none⟩) ts.length ts.length) (nms ts (k + 1) ++ List.replicate (ts.length - (k + 1)) noText)) := hp
      have HR2 : Hid (Chg 0 0 w ((wr.alloc (.cells #[.int .i64 t.1, .string t.2] 36)).setCell ⟨w.heap.size, k, none⟩ (.string t.2))) := hcA.setCell (Or.inr (Nat.le_refl _)) _
      clear hp ho hoA hc hcA CA hnew HP hlen hce h1
      go_wp2
      go_roundw
      case rel => exact ⟨k + 1, by omega, by go_num, HR.out, HR2.out⟩
      case measure => simp [intOf]; omega
    · obtain rfl : k = ts.length := by omega
      rw [Nat.sub_self, List.replicate_zero, List.append_nil] at ho hlen
      have HSo : Hid ((((nms ts ts.length).map tl).mergeSort fun x y => decide (x ≤ y)) = (sortTo (nms ts ts.length) ts.length).map tl) := by
        show _ = _
        rw [merge_sort, hlen]
      obtain ⟨ns, hns⟩ : ∃ ns, ns = nms ts ts.length := ⟨_, rfl⟩
      have Hns : Hid (nms ts ts.length = ns) := hns.symm
      rw [← hns] at ho hlen HSo
      clear hns
      rcases ho.2 with ⟨h0, _⟩ | ⟨g, cp, cur, hv, hg, hb, q1, q2, q3, q4⟩
      · cases h0
      obtain ⟨rfl, rfl⟩ : g = w.heap.size ∧ cp = ts.length := by
        injection hv with hv1 hv2 hv3
        injection hv1 with hv1
        injection hv1 with hv1 _
        exact ⟨hv1.symm, hv3.symm⟩
      have hzl : (ns.map tl).length = ts.length := by rw [List.length_map]; exact hlen
      have hH : Holds encStr wr w.heap.size 0 (ns.map tl).toArray := holds_of_block hb (by rw [enc_tl, hzl]; rw [Nat.mul_one, hlen] at q4; exact q4)
      have hN := sort_calls w.heap.size 0 ts.length (ns.map tl) wr hH (Array.getElem?_eq_some_iff.1 hb).1 (by omega)
      rw [hzl, HSo.out] at hN
      have HF : Hid (∀ (nn : Nat) (os : Array Obj), OwnS (grow (putRow encStr (Sort.ahead wr nn) w.heap.size 0 ((sortTo ns ts.length).map tl).toArray) os) w.heap.size 9 (.slice (some ⟨w.heap.size, 0, none⟩) ts.length ts.length) (sortTo ns ts.length) ∧ Chg 0 0 w (grow (putRow encStr (Sort.ahead wr nn) w.heap.size 0 ((sortTo ns ts.length).map tl).toArray) os)) := fun nn os => by
        have h := ownsRow_sorted (n := nn) (os := os) (ss := ns.map tl) (ts := (sortTo ns ts.length).map tl) (by rw [hzl, List.length_map, sortTo_len]) hg hb (by rw [hzl]; exact Nat.le_refl _) q2 q3
        rw [hzl, enc_tl] at h
        refine ⟨?_, hc.step (Chg.ofGrown (lo := w.heap.size) (hi := w.heap.size + 1) (grownBy_sorted _) (fun k e _ => by cases e; omega)) (by omega)⟩
        unfold OwnS
        rw [sortTo_len]
        exact h
      clear ho hb q1 q2 q3 q4 hH hc h1 HSo hzl hlen hv hg
      go_wp2_with (go_at_call 16; refine hN.mono ?_; clear hN; rintro e w2 ⟨rfl, nn, os, hw2⟩; have hF := HF.out nn os; rw [← hw2] at hF; clear hw2 HF)
      go_ret
      refine ⟨.slice (some ⟨w.heap.size, 0, none⟩) ts.length ts.length, rfl, ?_, hF.2⟩
      rw [Hns.out]
      exact hF.1

set_option maxRecDepth 20000 in
set_option maxHeartbeats 400000 in
theorem implNames_long (w : World) (n : Nat) (ao : Option Addr) (cap : Nat) (hn : 1000 < n) (_hl : n ≤ 1048576) :
    Calls Try.prog 7 #[.slice ao n cap] w fun e w' => ∃ v, e = .returned v ∧ OwnS w' w.heap.size 9 v [] ∧ Chg 0 0 w w' := by
  have e0 : (1000 : Int) < (n : Int) := by omega
  go_enter Try.func7, Try.ntmps7
  go_wp2
  go_ret
  exact ⟨_, rfl, ⟨rfl, Or.inl ⟨rfl, rfl⟩⟩, Chg.refl _ _ _⟩

theorem implDirNames_calls (w : World) {lo hi : Nat} {a : Value} {ts : List Ent} (hl : ts.length ≤ 1048576) (h1 : EView w lo hi a ts) :
    Calls Try.prog 7 #[a] w fun e w' => ∃ v, e = .returned v ∧ OwnS w' w.heap.size 9 v (namesD ts) ∧ Chg 0 0 w w' := by
  obtain ⟨ao, cap, rfl, _, _, h1⟩ := h1
  by_cases hn : 1000 < ts.length
  · rw [show namesD ts = [] from by unfold namesD; rw [if_pos hn]]
    exact implNames_long w ts.length ao cap hn hl
  · rw [show namesD ts = sortTo (nms ts ts.length) ts.length from by unfold namesD; rw [if_neg hn]]
    refine implNames_in w ts ao cap (by omega) ?_
    rcases h1 with h1 | ⟨x, off, hao, _, _, h1⟩
    · exact Or.inl h1
    · exact Or.inr ⟨x, off, hao, h1⟩

end Go.Proofs.Ytlbiaennccionaa
