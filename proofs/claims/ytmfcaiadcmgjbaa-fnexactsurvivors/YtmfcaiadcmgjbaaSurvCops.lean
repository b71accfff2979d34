/- What survives, in the program: lastCopies. -/
import Derived.Test.YtmfcaiadcmgjbaaSurvRevs
namespace Go.Proofs.Ytmfcaiadcmgjbaa
open Go.RowKit

/-- What the map of copies holds. -/
abbrev rC : Value → Option (DataW Value × List MemPlace) := fun v => some (.held v, [])
/-- What a lookup yields where there is none. -/
abbrev zC : DataW Value := .held (.agg #[.int .i64 0, .slice none 0 0])
abbrev Cp := Nat × Value × List Int
abbrev cpD (c : Cp) : DataW Value := .held (.agg #[.int .i64 (c.1 : Nat), c.2.1])
/-- A map of copies that is one's own: f says for each block its place, its data's value, and what these are. -/
structure CopM (w : World) (w' : World) (lo hi m N : Nat) (f : Int → Option Cp) (g : Int → Option (Nat × List Int)) : Prop where
  own : ∃ n D, w'.ownsMap Try.prog 2 rC m n D ∧ n ≤ N ∧ SaysF zC D (fun x => (f x).map cpD)
  says : ∀ x, (f x).map (fun c => (c.1, c.2.2)) = g x
  seen : ∀ x c, f x = some c → View w lo hi .u8 c.2.1 c.2.2

/-- The last copies, part of a transaction on. -/
def copsAt (ts : List Tx) (k : Nat) (hs : List Wr) (x : Int) : Option (Nat × List Int) := ((lastL hs x).map fun d => (k, d)).or (copsL ts x)
theorem copsAt_snoc (ts : List Tx) (k : Nat) (hs : List Wr) (p : Wr) (x : Int) : copsAt ts k (hs ++ [p]) x = if x = p.1 then some (k, p.2) else copsAt ts k hs x := by
  unfold copsAt
  rw [lastL_snoc]
  by_cases h : p.1 = x
  · rw [if_pos h, if_pos h.symm]; rfl
  · rw [if_neg h, if_neg (fun e => h e.symm)]
theorem CopM.put {w w1 w' : World} {lo hi m N k : Nat} {f : Int → Option Cp} {g g' : Int → Option (Nat × List Int)} (h : CopM w w1 lo hi m N f g) {q : Int} {dv : Value} {xs : List Int} (v : View w lo hi .u8 dv xs) (hg : ∀ x, g' x = if x = q then some (k, xs) else g x)
    {n : Nat} {D : DataW Value} (hm : w'.ownsMap Try.prog 2 rC m (n + 1) (D.put (kI q) (.held (.agg #[.int .i64 (k : Nat), dv])))) (hn : n ≤ N) (hs : SaysF zC D (fun x => (f x).map cpD)) :
    CopM w w' lo hi m (N + 1) (fun x => if x = q then some (k, dv, xs) else f x) g' := by
  refine ⟨⟨n + 1, _, hm, by omega, (hs.put q _).congr fun x => ?_⟩, fun x => ?_, fun x c hc => ?_⟩
  · by_cases e : x = q
    · rw [if_pos e, if_pos e]; rfl
    · rw [if_neg e, if_neg e]
  · rw [hg x]
    by_cases e : x = q
    · rw [if_pos e, if_pos e]; rfl
    · rw [if_neg e, if_neg e]; exact h.says x
  · by_cases e : x = q
    · rw [if_pos e] at hc; rw [← Option.some.inj hc]; exact v
    · rw [if_neg e] at hc; exact h.seen x c hc

set_option maxRecDepth 20000 in
set_option maxHeartbeats 4000000 in
theorem lastCopies_some (w : World) (ts : List Tx) (lo hi b off cap : Nat) (hn : numT ts ≤ 10000) (hL : ts.length ≤ 512) (hbw : b < w.heap.size) (hwf : ∀ i, i < ts.length → ∀ p ∈ (ts.getD i Tx.none).homes, (Lit.int .i64 p.1).wf = true) (h1 : ∀ i, i < ts.length → TAt w lo hi b (off + i * 3) (ts.getD i Tx.none)) :
    Calls Try.prog 18 #[.slice (some ⟨b, off, none⟩) ts.length cap] w fun e w' => e = .returned (.map (some w.heap.size)) ∧ (∃ f, CopM w w' lo hi w.heap.size 20000 f (copsL ts)) ∧ Chg 0 0 w w' := by
  have K := Maps.int_keyed (P := Try.prog) (k := 2) Try.underlying2
  have H1 : Hid (∀ i, i < ts.length → TAt w lo hi b (off + i * 3) (ts.getD i Tx.none)) := h1
  have HW : Hid (∀ i, i < ts.length → ∀ p ∈ (ts.getD i Tx.none).homes, (Lit.int .i64 p.1).wf = true) := hwf
  have hmk : ∀ x : World, (Instr.makeMap 47 none).run Try.prog x = .ok (.map (some x.heap.size)) (x.alloc (.map #[] 0)) := fun _ => rfl
  have hM0 := World.ownsMap_made w Try.prog 2 rC
  have hC0 : Chg 0 0 w (w.alloc (.map #[] 0)) := Chg.alloc (Chg.refl 0 0 w) _
  have hs0 : w.heap.size < (w.alloc (.map #[] 0)).heap.size := by simp
  clear h1 hwf
  go_enter Try.func18, Try.ntmps18
  go_wp2
  generalize w.alloc (.map #[] 0) = w1 at *
  go_loopw [11, 4, 5, 7] (fun x _ _ _ wr => ∃ (k : Nat) (f : Int → Option Cp), k ≤ ts.length ∧ x = .int .i64 k ∧ CopM w wr lo hi w.heap.size (numT (ts.take k)) f (copsL (ts.take k)) ∧ w.heap.size < wr.heap.size ∧ Chg 0 0 w wr) (fun x _ _ _ _ => ts.length - (RowKit.intOf x).toNat)
  case atStart => exact ⟨0, fun _ => none, Nat.zero_le _, rfl, ⟨⟨0, _, hM0, Nat.zero_le _, SaysF.nil _⟩, fun _ => rfl, fun _ _ h => (by cases h)⟩, hs0, hC0⟩
  case round =>
    clear hM0 hC0 hs0
    obtain ⟨k, f, hk, rfl, hcm, hsz, hch⟩ := hrel
    by_cases hlt : k < ts.length
    · have hi' : (k : Int) < (ts.length : Int) := by omega
      obtain ⟨hv, rv, c0, c1, c2, p1, v1⟩ := H1.out k hlt
      replace c0 := hch.cell c0 (by omega)
      replace c1 := hch.cell c1 (by omega)
      replace c2 := hch.cell c2 (by omega)
      have hwr := HW.out k hlt
      have HU : Hid (numT (ts.take (k + 1)) = numT (ts.take k) + ((ts.getD k Tx.none).homes.length + (ts.getD k Tx.none).revs.length)) := numT_succ ts k hlt
      have hb1 : numT (ts.take k) + ((ts.getD k Tx.none).homes.length + (ts.getD k Tx.none).revs.length) ≤ 10000 := by have := numT_le ts (k + 1); rw [HU.out] at this; omega
      have HT : Hid (∀ x, copsAt (ts.take k) k (ts.getD k Tx.none).homes x = copsL (ts.take (k + 1)) x) := by
        intro x
        have e := copsL_snoc (ts.take k) (ts.getD k Tx.none) x
        rw [List.length_take, Nat.min_eq_left hk] at e
        unfold copsAt
        rw [← e, List.take_succ_eq_append_getElem hlt, List.getD_eq_getElem?_getD, List.getElem?_eq_getElem hlt]; rfl
      obtain ⟨pa, pc, rfl, _, _, p1⟩ := p1
      obtain ⟨va, vc, rfl, _⟩ := v1
      generalize (ts.getD k Tx.none).homes = hs at *
      generalize (ts.getD k Tx.none).revs = rs at *
      generalize (ts.getD k Tx.none).seq = sq at *
      generalize numT (ts.take k) = nn at *
      have hgw : b < wr.heap.size := by have := hch.size; omega
      have CA : Chg 0 0 wr (wr.alloc (.cells #[.int .i64 sq, .slice pa hs.length pc, .slice va rs.length vc] 39)) := Chg.alloc (Chg.refl 0 0 wr) _
      have HA : Hid (CopM w (wr.alloc (.cells #[.int .i64 sq, .slice pa hs.length pc, .slice va rs.length vc] 39)) lo hi w.heap.size nn f (copsL (ts.take k))) := by
        obtain ⟨⟨n, D, hm, hn', hs'⟩, h2, h3⟩ := hcm
        exact ⟨⟨n, D, hm.alloc _, hn', hs'⟩, h2, h3⟩
      have hcA := hch.trans CA
      have hsA : w.heap.size < (wr.alloc (.cells #[.int .i64 sq, .slice pa hs.length pc, .slice va rs.length vc] 39)).heap.size := by have := CA.size; omega
      clear hcm hch CA
      go_wp2
      generalize wr.alloc (.cells #[.int .i64 sq, .slice pa hs.length pc, .slice va rs.length vc] 39) = wA at *
      go_loopw [19, 7] (fun x _ w3 => ∃ (j : Nat) (f : Int → Option Cp), j ≤ hs.length ∧ x = .int .i64 j ∧ CopM w w3 lo hi w.heap.size (nn + j) f (copsAt (ts.take k) k (hs.take j)) ∧ w.heap.size < w3.heap.size ∧ Chg 0 0 w w3) (fun x _ _ => hs.length - (RowKit.intOf x).toNat)
      case atStart => exact ⟨0, f, Nat.zero_le _, rfl, HA.out, hsA, hcA⟩
      case round =>
        clear HA hcA hsA c0 c1 c2
        obtain ⟨j, f2, hj, rfl, hcm, hz2, hch2⟩ := hrel
        by_cases hlt2 : j < hs.length
        · have hj' : (j : Int) < (hs.length : Int) := by omega
          obtain ⟨pb, po, rfl, _, _, pce⟩ := p1.resolve_left (fun h => by rw [h] at hlt2; exact absurd hlt2 (Nat.not_lt_zero j))
          obtain ⟨dv, d0, d1, dvw⟩ := pce j hlt2
          have hpw : pb < wr.heap.size := by have := lt_of_cell d0; have := hch2.size; omega
          replace d0 := hch2.cell d0 (by omega)
          replace d1 := hch2.cell d1 (by omega)
          have hwx := hwr (hs.getD j (0, [])) (by rw [List.getD_eq_getElem?_getD, List.getElem?_eq_getElem hlt2]; exact List.getElem_mem hlt2)
          have HF : Hid (hs.take (j + 1) = hs.take j ++ [hs.getD j (0, [])]) := by
            show _ = _
            rw [List.take_succ_eq_append_getElem hlt2, List.getD_eq_getElem?_getD, List.getElem?_eq_getElem hlt2]; rfl
          generalize hs.getD j (0, []) = p at *
          obtain ⟨q, xs⟩ := p
          simp only at d0 d1 dvw hwx HF
          have HV : Hid (View w lo hi .u8 dv xs) := dvw
          obtain ⟨da, dc, rfl, _⟩ := dvw
          obtain ⟨n2, D2, hm2, hn2, hs2⟩ := hcm.own
          have HCM : Hid (CopM w wr lo hi w.heap.size (nn + j) f2 (copsAt (ts.take k) k (hs.take j))) := hcm
          have HS2 : Hid (SaysF zC D2 (fun x => (f2 x).map cpD)) := hs2
          have HM : Hid ((wr.alloc (.cells #[.int .i64 q, .slice da xs.length dc] 44)).ownsMap Try.prog 2 rC w.heap.size n2 D2) := hm2.alloc _
          have HC : Hid (Chg 0 0 w (wr.alloc (.cells #[.int .i64 q, .slice da xs.length dc] 44))) := hch2.alloc _
          have HG : Hid (∀ x, copsAt (ts.take k) k (hs.take (j + 1)) x = if x = q then some (k, xs) else copsAt (ts.take k) k (hs.take j) x) := by intro x; rw [HF.out]; exact copsAt_snoc _ _ _ _ x
          have hzA : w.heap.size < (wr.alloc (.cells #[.int .i64 q, .slice da xs.length dc] 44)).heap.size := by simp; omega
          clear hm2 hs2 hch2 pce hcm HF
          go_wp2_with (first
            | (at_mapUpdate; refine wpList_mapUpdate_own _ rfl _ _ _ 47 rfl 2 52 K Try.underlying47 _ w.heap.size n2 D2 rfl HM.out (by unfold maxLen; omega) _ _ (kI q) rfl rfl (kI_of hwx) (.held (.agg #[.int .i64 (k : Nat), .slice da xs.length dc])) [] rfl ?_))
          intro w5 hm5 hg5
          have HC5 : Hid (Chg 0 0 w w5) := ⟨hg5.os.trans HC.out.os, hg5.tape.trans HC.out.tape, hg5.output.trans HC.out.output, Nat.le_trans HC.out.size hg5.size, fun i hi _ => (hg5.block i (Nat.lt_of_lt_of_le hi HC.out.size) (by intro e; injection e with e; omega)).trans (HC.out.block i hi (by omega))⟩
          have HM5 : Hid (CopM w w5 lo hi w.heap.size (nn + j + 1) (fun x => if x = q then some (k, .slice da xs.length dc, xs) else f2 x) (copsAt (ts.take k) k (hs.take (j + 1)))) := HCM.out.put HV.out HG.out hm5 hn2 HS2.out
          have hz5 : w.heap.size < w5.heap.size := by have := hg5.size; omega
          clear hm5 hg5 d0 d1 hzA
          go_wp2
          go_roundw
          case rel => exact ⟨j + 1, _, by omega, by go_num, HM5.out, hz5, HC5.out⟩
          case measure => simp [RowKit.intOf]; omega
        · obtain rfl : j = hs.length := by omega
          rw [List.take_length] at hcm
          have HM : Hid (CopM w wr lo hi w.heap.size (numT (ts.take (k + 1))) f2 (copsL (ts.take (k + 1)))) := by
            obtain ⟨⟨n, D, hm, hn', hs'⟩, h2, h3⟩ := hcm
            exact ⟨⟨n, D, hm, by rw [HU.out]; omega, hs'⟩, fun x => (h2 x).trans (HT.out x), h3⟩
          have HC : Hid (Chg 0 0 w wr) := hch2
          have hj' : ¬ ((hs.length : Int) < (hs.length : Int)) := by omega
          clear hcm hch2
          go_wp2
          go_roundw
          case rel => exact ⟨k + 1, f2, by omega, by go_num, HM.out, hz2, HC.out⟩
          case measure => simp [RowKit.intOf]; omega
    · obtain rfl : k = ts.length := by omega
      rw [List.take_length] at hcm
      have HM : Hid (∃ f, CopM w wr lo hi w.heap.size 20000 f (copsL ts)) := by
        obtain ⟨⟨n, D, hm, hn', hs'⟩, h2, h3⟩ := hcm
        exact ⟨f, ⟨n, D, hm, by omega, hs'⟩, h2, h3⟩
      have HC : Hid (Chg 0 0 w wr) := hch
      have hi' : ¬ ((ts.length : Int) < (ts.length : Int)) := by omega
      clear hcm hch
      go_wp2
      go_ret
      exact ⟨rfl, HM.out, HC.out⟩

theorem lastCopies_none (w : World) (lo hi : Nat) (ao : Option Addr) (cap : Nat) :
    Calls Try.prog 18 #[.slice ao 0 cap] w fun e w' => e = .returned (.map (some w.heap.size)) ∧ (∃ f, CopM w w' lo hi w.heap.size 20000 f (copsL [])) ∧ Chg 0 0 w w' := by
  have hmk : ∀ x : World, (Instr.makeMap 47 none).run Try.prog x = .ok (.map (some x.heap.size)) (x.alloc (.map #[] 0)) := fun _ => rfl
  have HM0 : Hid (∃ f, CopM w (w.alloc (.map #[] 0)) lo hi w.heap.size 20000 f (copsL [])) := ⟨fun _ => none, ⟨0, _, World.ownsMap_made w Try.prog 2 rC, by omega, SaysF.nil _⟩, fun _ => rfl, fun _ _ h => (by cases h)⟩
  have HC0 : Hid (Chg 0 0 w (w.alloc (.map #[] 0))) := Chg.alloc (Chg.refl 0 0 w) _
  go_enter Try.func18, Try.ntmps18
  go_wp2
  go_loopw [11, 4, 5, 7] (fun x _ _ _ wr => x = .int .i64 0 ∧ wr = w.alloc (.map #[] 0)) (fun _ _ _ _ _ => 0)
  case atStart => exact ⟨rfl, rfl⟩
  case round =>
    obtain ⟨rfl, rfl⟩ := hrel
    go_wp2
    go_ret
    exact ⟨rfl, HM0.out, HC0.out⟩
/-- lastCopies of the program. -/
theorem lastCopies_calls (w : World) {lo hi : Nat} {a : Value} {ts : List Tx} (hn : numT ts ≤ 10000) (hL : ts.length ≤ 512) (hwf : ∀ i, i < ts.length → ∀ p ∈ (ts.getD i Tx.none).homes, (Lit.int .i64 p.1).wf = true) (h1 : TSView w lo hi a ts) :
    Calls Try.prog 18 #[a] w fun e w' => e = .returned (.map (some w.heap.size)) ∧ (∃ f, CopM w w' lo hi w.heap.size 20000 f (copsL ts)) ∧ Chg 0 0 w w' := by
  obtain ⟨ao, cap, rfl, _, _, h1⟩ := h1
  rcases h1 with rfl | ⟨b, off, rfl, _, _, h1⟩
  · exact lastCopies_none w lo hi ao cap
  · by_cases h0 : ts = []
    · subst h0; exact lastCopies_none w lo hi _ cap
    · have hpos : 0 < ts.length := List.length_pos_iff.2 h0
      obtain ⟨_, _, c0, _⟩ := h1 0 hpos
      exact lastCopies_some w ts lo hi b off cap hn hL (lt_of_cell c0) hwf h1

end Go.Proofs.Ytmfcaiadcmgjbaa
