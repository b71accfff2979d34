/- partsOf of the program: the parts of a path, as a function to range over. -/
import Derived.Test.YtlepbhekcpdddaaPathSpec
import Derived.Test.YtlepbhekcpdddaaRunes
import Derived.Test.YtlepbhekcpdddaaSeqKit
namespace Go.Proofs.Ytlepbhekcpdddaa
open Go.RowKit Go.Shelf
attribute [local go_sem] Oper.semAt_some

theorem cutGo_out (s : ByteArray) (c : Nat) : ∀ n k f out, cutGo s c n k f out = out ++ cutGo s c n k f []
  | 0, _, _, out => rfl
  | n + 1, k, f, out => by
    unfold cutGo
    split
    · rw [cutGo_out s c n (k + 1) (k + 1) (out ++ [s.extract f k]), cutGo_out s c n (k + 1) (k + 1) ([] ++ [s.extract f k])]
      simp
    · exact cutGo_out s c n (k + 1) f out
theorem cutGo_skip (s : ByteArray) (c : Nat) (m f : Nat) (out : List ByteArray) : ∀ n k, (∀ j, j < n → chr s (k + j) ≠ c) → cutGo s c (n + m) k f out = cutGo s c m (k + n) f out
  | 0, k, _ => by rw [Nat.zero_add]; rfl
  | n + 1, k, h => by
    rw [show n + 1 + m = (n + m) + 1 by omega]
    show (if chr s k = c then _ else cutGo s c (n + m) (k + 1) f out) = _
    rw [if_neg (show ¬ chr s k = c from h 0 (by omega)), cutGo_skip s c m f out n (k + 1) (fun j hj => by rw [show k + 1 + j = k + (j + 1) by omega]; exact h (j + 1) (by omega))]
    rw [show k + 1 + n = k + (n + 1) by omega]
theorem chr_ext (s : ByteArray) (k : Nat) (h : k + 1 < s.size) : chr (s.extract 1 s.size) k = chr s (k + 1) := by
  have hk : k < (s.extract 1 s.size).size := by rw [ByteArray.size_extract]; omega
  rw [chr_lt hk, chr_lt h]
  congr 1
  rw [ByteArray.getElem_extract]
  congr 1
  omega
theorem ext_ext (s : ByteArray) (f k : Nat) (h : k + 1 ≤ s.size) : (s.extract 1 s.size).extract f k = s.extract (f + 1) (k + 1) := by
  rw [ByteArray.extract_extract]
  congr 1 <;> omega
theorem cutGo_ext (s : ByteArray) (c : Nat) : ∀ n k f out, k + n + 1 = s.size → cutGo (s.extract 1 s.size) c n k f out = cutGo s c n (k + 1) (f + 1) out
  | 0, k, f, out, h => by
    unfold cutGo
    rw [show (s.extract 1 s.size).size = k by rw [ByteArray.size_extract]; omega, ext_ext s f k (by omega), show k + 1 = s.size by omega]
  | n + 1, k, f, out, h => by
    unfold cutGo
    rw [chr_ext s k (by omega), ext_ext s f k (by omega), cutGo_ext s c n (k + 1) (k + 1) _ (by omega), cutGo_ext s c n (k + 1) f _ (by omega)]
/-- The parts, as the program finds them. -/
def partsL (s : ByteArray) : List ByteArray := cutGo s 47 (s.size - 1) 1 1 []
theorem parts_cut (s : ByteArray) (h : 1 ≤ s.size) : cutD (s.extract 1 s.size) 47 = partsL s := by
  unfold cutD partsL
  rw [show (s.extract 1 s.size).size = s.size - 1 by rw [ByteArray.size_extract]; omega]
  exact cutGo_ext s 47 (s.size - 1) 0 0 [] (by omega)

def encPt (x : ByteArray) : Array Value := #[.string x]
/-- What a round keeps: the path's variable, and the iterators. -/
structure KeepPt (Bp : Nat) (W W' : World) : Prop where
  var : W'.heap[Bp]? = W.heap[Bp]?
  walks : KeepsWalks W W'
theorem KeepPt.trans {Bp : Nat} {A B C : World} (h : KeepPt Bp A B) (k : KeepPt Bp B C) : KeepPt Bp A C := ⟨k.var.trans h.var, h.walks.trans k.walks⟩
theorem KeepPt.put {Bp : Nat} {w : World} (hb : Bp < w.heap.size) (W : World) (l : Nat) (o o' : Obj) (hl : w.heap.size ≤ l) (h : W.heap[l]? = some o) (_ : o.isCells = false) (hw : o.isWalk = false) : KeepPt Bp W (W.putObj l o') :=
  ⟨World.putObj_heap_other (by omega), KeepsWalks.putObj o' h hw⟩

set_option maxRecDepth 100000 in
set_option maxHeartbeats 2000000 in
theorem parts_stops (m : Nat) (_ : 1 ≤ m) (Bp : Nat) (s : ByteArray) (hl : s.size ≤ 1048576) (h1s : 1 ≤ s.size) (h47 : chr s 0 = 47) (w : World)
    (h1 : w.cell? ⟨Bp, 0, none⟩ = some (.string s)) :
    SeqStopsK Fence.wide m Try.prog 22 #[.pointer (some ⟨Bp, 0, none⟩)] encPt (KeepPt Bp)
      (fun xs => xs = partsL s) (fun pre => pre <+: partsL s) (partsL s).length w := fun l J Jx W hW hJ hJx hY h0 => by
  have a1 : W.cell? ⟨Bp, 0, none⟩ = some (.string s) := (hW.cell (p := ⟨Bp, 0, none⟩) (lt_of_cell h1)).trans h1
  obtain ⟨R, HR⟩ : ∃ R, Hid (partsL s = R) := ⟨_, rfl⟩
  rw [HR.out] at hY ⊢
  have hI0 := World.iter_heap W s 0
  have hC0 : Chg 0 0 W (W.iter s 0) := Chg.alloc (Chg.refl 0 0 W) _
  have a2 := hC0.cell a1 (by omega)
  have h02 := hJ [] W (W.iter s 0) none h0 ⟨hC0.os, hC0.tape, hC0.output, hC0.size, fun k hk _ => hC0.block k hk (by omega)⟩ (by simp)
  clear h1 hW h0
  refine callsIn_of_wp Try.func22 rfl trivial ?_ rfl
  simp only [Try.ntmps22, List.size_toArray, List.length_cons, List.length_nil, Nat.reduceAdd, Nat.reduceSub, Array.replicate_succ, Array.replicate_zero, List.push_toArray, List.append_toArray, List.nil_append, List.cons_append]
  gi_wp2
  generalize W.iter s 0 = W1 at *
  gi_loopw [3] (fun x wr => ∃ (pre : List ByteArray) (f k : Nat), x = .int .i64 f ∧ k ≤ s.size ∧ f ≤ max k 1 ∧ 1 ≤ f ∧ R = cutGo s 47 (s.size - max k 1) (max k 1) f pre ∧ wr.heap[W.heap.size]? = some (.stringIter s k) ∧ wr.cell? ⟨Bp, 0, none⟩ = some (.string s) ∧ J pre wr)
    (fun _ wr => s.size - (match wr.heap[W.heap.size]? with | some (.stringIter _ k) => k | _ => 0))
  case atStart => exact ⟨[], 1, 0, rfl, Nat.zero_le _, Nat.le_refl _, Nat.le_refl _, HR.out.symm, hI0, a2, h02⟩
  case round =>
    clear a1 a2 h02 HR hI0 hC0
    obtain ⟨pre, f, k, rfl, hk, hf, hf1, hRp, hb, a1, hJp⟩ := hrel
    have hbl : W.heap.size < wr.heap.size := (Array.getElem?_eq_some_iff.1 hb).1
    have hBp := lt_of_cell a1
    have hBne : Bp ≠ W.heap.size := by
      intro e
      subst e
      simp [World.cell?, hb] at a1
    by_cases hlt : k < s.size
    · have hnx := run_next_at (P := Try.prog) wr W.heap.size s k 0 hb hlt
      have hJ2 := fun o => hJ pre wr (wr.putObj W.heap.size o) (some W.heap.size) hJp (grownBy_putObj' wr W.heap.size o) (fun r e => by cases e; exact ⟨Nat.le_refl _, _, hb, rfl⟩)
      have hI2 := fun o => World.putObj_heap_same (w := wr) (o := o) hbl
      have a2 := fun o => (Chg.putObj wr W.heap.size o).cell a1 (by omega)
      have Hb : Hid (wr.heap[W.heap.size]? = some (.stringIter s k)) := hb
      by_cases hk0 : k = 0
      · subst hk0
        obtain ⟨hr, hw⟩ := decode_low hlt (by omega)
        rw [hw] at hnx
        clear hr hw hY
        have HI := hI2 (.stringIter s (0 + 1))
        have HA := a2 (.stringIter s (0 + 1))
        have HJ := hJ2 (.stringIter s (0 + 1))
        clear hI2 a2 hJ2 hb
        generalize wr.putObj W.heap.size (.stringIter s (0 + 1)) = w2 at *
        generalize rune s 0 = c at *
        have HRp : Hid (R = cutGo s 47 (s.size - max 0 1) (max 0 1) f pre) := hRp
        clear hRp
        gi_wp2
        go_roundw
        case rel => exact ⟨pre, f, 1, rfl, h1s, by omega, hf1, HRp.out, HI, HA, HJ⟩
        case measure => rw [HI, Hb.out]; simp only; omega
      · rw [show max k 1 = k by omega] at hRp hf
        have e0 : ((k : Int) == 0) = false := by simp; omega
        by_cases h8 : chr s k < 128
        · obtain ⟨hr, hw⟩ := decode_low hlt h8
          rw [hw, hr] at hnx
          have HI := hI2 (.stringIter s (k + 1))
          have HA := a2 (.stringIter s (k + 1))
          have HJ := hJ2 (.stringIter s (k + 1))
          clear hI2 a2 hJ2 hb hr hw
          generalize wr.putObj W.heap.size (.stringIter s (k + 1)) = w2 at *
          rw [show s.size - k = (s.size - (k + 1)) + 1 by omega] at hRp
          by_cases hc : chr s k = 47
          · have HRp : Hid (R = cutGo s 47 (s.size - (k + 1)) (k + 1) (k + 1) (pre ++ [s.extract f k])) := by
              show _ = _
              rw [hRp]
              show (if chr s k = 47 then _ else _) = _
              rw [if_pos hc]
            have hpre : pre ++ [s.extract f k] <+: R := ⟨_, by rw [HRp.out]; exact (cutGo_out s 47 _ _ _ _).symm⟩
            obtain ⟨fn, tmps, assign, body, hy, hR⟩ := hY pre (s.extract f k) w2 HJ (by have := hpre.length_le; simp at this; omega)
            have he : encPt (s.extract f k) = #[.string (s.extract f k)] := rfl
            rw [he] at hy
            rw [hc] at hnx
            have q1 : (0 : Int) ≤ (f : Int) := by omega
            have q2 : (f : Int) ≤ (k : Int) := by omega
            have q3 : (k : Int) ≤ (s.size : Int) := by omega
            have Hpre : Hid (pre ++ [s.extract f k] <+: R) := hpre
            clear hRp hY he hc hpre
            gi_wp2
            refine hR.mono ?_
            rintro e W3 (⟨rfl, hJ3, hk3⟩ | ⟨rfl, hJx3⟩)
            · have d1 : W3.cell? ⟨Bp, 0, none⟩ = some (.string s) := (World.cell?_of_block hk3.var).trans HA
              have d2 := hk3.walks.same _ _ HI rfl
              gi_wp2
              go_roundw
              case rel => exact ⟨pre ++ [s.extract f k], k + 1, k + 1, by go_num, by omega, by omega, by omega, by rw [show max (k + 1) 1 = k + 1 by omega]; exact HRp.out, d2, d1, hJ3⟩
              case measure => rw [d2, Hb.out]; simp only; omega
            · gi_wp2
              refine bodyPost_ret (results_none rfl _ _ _) rfl ?_
              exact ⟨⟨_, rfl⟩, .inr ⟨pre ++ [s.extract f k], Hpre.out, hJx3⟩⟩
          · have HRp : Hid (R = cutGo s 47 (s.size - (k + 1)) (k + 1) f pre) := by
              show _ = _
              rw [hRp]
              show (if chr s k = 47 then _ else _) = _
              rw [if_neg hc]
            have e1 : ((chr s k : Int) == 47) = false := by simp; omega
            have e2 : ((chr s k : Int) != 47) = true := by simp; omega
            clear hRp hY hc
            generalize hcc : chr s k = c at *
            clear hcc
            gi_wp2
            go_roundw
            case rel => exact ⟨pre, f, k + 1, rfl, by omega, by omega, by omega, by rw [show max (k + 1) 1 = k + 1 by omega]; exact HRp.out, HI, HA, HJ⟩
            case measure => rw [HI, Hb.out]; simp only; omega
        · obtain ⟨hr1, hr2, hw1, hw2, hws⟩ := decode_high hlt (by omega)
          have HI := hI2 (.stringIter s (k + wide s k))
          have HA := a2 (.stringIter s (k + wide s k))
          have HJ := hJ2 (.stringIter s (k + wide s k))
          have HRp : Hid (R = cutGo s 47 (s.size - (k + wide s k)) (k + wide s k) f pre) := by
            show _ = _
            rw [hRp, show s.size - k = wide s k + (s.size - (k + wide s k)) by omega]
            refine cutGo_skip s 47 _ f pre (wide s k) k (fun j hj => ?_)
            by_cases h0 : j = 0
            · subst h0; have : chr s (k + 0) = chr s k := rfl; omega
            · have := hws j (by omega) hj; omega
          have e1 : ((rune s k : Int) == 47) = false := by simp; omega
          have e2 : ((rune s k : Int) != 47) = true := by simp; omega
          clear hI2 a2 hJ2 hb hRp hY hws
          generalize wr.putObj W.heap.size (.stringIter s (k + wide s k)) = w2 at *
          generalize rune s k = c at *
          generalize wide s k = u at *
          gi_wp2
          go_roundw
          case rel => exact ⟨pre, f, k + u, rfl, by omega, by omega, by omega, by rw [show max (k + u) 1 = k + u by omega]; exact HRp.out, HI, HA, HJ⟩
          case measure => rw [HI, Hb.out]; simp only; omega
    · obtain rfl : k = s.size := by omega
      have hnx := run_next_out (P := Try.prog) wr W.heap.size s s.size 0 hb hlt
      rw [show max s.size 1 = s.size by omega, Nat.sub_self] at hRp
      rw [show max s.size 1 = s.size by omega] at hf
      have HRp : Hid (R = pre ++ [s.extract f s.size]) := hRp
      obtain ⟨fn, tmps, assign, body, hy, hR⟩ := hY pre (s.extract f s.size) wr hJp (by rw [HRp.out]; simp)
      have he : encPt (s.extract f s.size) = #[.string (s.extract f s.size)] := rfl
      rw [he] at hy
      have q1 : (0 : Int) ≤ (f : Int) := by omega
      have q2 : (f : Int) ≤ (s.size : Int) := by omega
      clear hRp hY he hb
      gi_wp2
      refine hR.mono ?_
      rintro e W3 (⟨rfl, hJ3, hk3⟩ | ⟨rfl, hJx3⟩)
      · gi_wp2
        refine bodyPost_end (results_none rfl _ _ _) rfl ?_
        rw [HRp.out]
        exact ⟨⟨_, rfl⟩, .inl ⟨_, rfl, hJ3⟩⟩
      · gi_wp2
        refine bodyPost_end (results_none rfl _ _ _) rfl ?_
        rw [HRp.out]
        exact ⟨⟨_, rfl⟩, .inr ⟨_, List.prefix_refl _, hJx3⟩⟩

end Go.Proofs.Ytlepbhekcpdddaa
