/- Count: how many inodes and blocks nodes tell of; of the model. -/
import Derived.Test.YtccmeggnkeenoaaNodBase
import Derived.Test.YtccmeggnkeenoaaAppInts
import Derived.Test.YtccmeggnkeenoaaTxnSpec
import Derived.Test.YtccmeggnkeenoaaWeak
import Derived.Deep.DeepCutAuto
namespace Go.Proofs.Ytccmeggnkeenoaa
open Go.RowKit

/-- A node's blocks, as far as they count. -/
def bkN (b : Int) : Int := if 0 ≤ b ∧ b ≤ 2048 then b else 0
theorem bkN_bd (b : Int) : 0 ≤ bkN b ∧ bkN b ≤ 2048 := by unfold bkN; split <;> omega
/-- One node more. -/
def stepU (st : List Int × Int) (t : Nod) : List Int × Int := if t.i ∈ st.1 then st else (st.1 ++ [t.i], st.2 + bkN t.b)
def cuL (ts : List Nod) : List Int × Int := ts.foldl stepU ([], 0)
theorem cuL_succ (ts : List Nod) {k : Nat} (h : k < ts.length) : cuL (ts.take (k + 1)) = stepU (cuL (ts.take k)) (ts.getD k Nod.none) := by
  have e : ts.getD k Nod.none = ts[k] := by simp [List.getD_eq_getElem?_getD, h]
  unfold cuL
  rw [List.take_succ_eq_append_getElem h, List.foldl_append, e]
  rfl
theorem cuL_bd (ts : List Nod) : ∀ k, k ≤ ts.length → (cuL (ts.take k)).1.length ≤ k ∧ 0 ≤ (cuL (ts.take k)).2 ∧ (cuL (ts.take k)).2 ≤ 2048 * (k : Int)
  | 0, _ => by simp [cuL]
  | k + 1, h => by
    rw [cuL_succ ts (by omega)]
    obtain ⟨h1, h2, h3⟩ := cuL_bd ts k (by omega)
    have hb := bkN_bd (ts.getD k Nod.none).b
    unfold stepU
    split
    · omega
    · simp only [List.length_append, List.length_cons, List.length_nil]; omega
def cntU (ts : List Nod) : Int × Int := if 10000 < ts.length then (0, 0) else ((((cuL ts).1.length : Nat) : Int), (cuL ts).2)

set_option maxRecDepth 20000 in
set_option maxHeartbeats 1000000 in
theorem specCount_big (w : World) (n : Nat) (ao : Option Addr) (cap : Nat) (h : 10000 < n) (hl : n ≤ 9223372036854775807) :
    Calls Try.prog 5 #[.slice ao n cap] w fun e w' => e = .returned (.agg #[.int .i64 0, .int .i64 0]) ∧ Chg 0 0 w w' := by
  have h' : (10000 : Int) < (n : Int) := by omega
  have HC : ∀ o1 o2 o3, Chg 0 0 w (((w.alloc o1).alloc o2).alloc o3) := fun o1 o2 o3 => Chg.alloc (Chg.alloc (Chg.alloc (Chg.refl 0 0 w) _) _) _
  go_enter Try.func5, Try.ntmps5
  go_wp2
  exact bodyPost_ret (v := .agg #[.int .i64 0, .int .i64 0]) (by simp [results, Try.results5, go_sem, *]) rfl ⟨rfl, by first | exact HC _ _ _ | exact ((HC _ _ _).setCell (Or.inr (Nat.le_refl _)) _).setCell (Or.inr (Nat.le_refl _)) _⟩

theorem duoU {w : World} {b : Nat} {x y : Int} {T : TypeId} (h : w.heap[b]? = some (.cells #[.int .i64 x, .int .i64 y] T (0, 0))) :
    w.cell? ⟨b, 0, none⟩ = some (.int .i64 x) ∧ w.cell? ⟨b, 1, none⟩ = some (.int .i64 y) ∧ w.frozen? ⟨b, 0, none⟩ = false ∧ w.frozen? ⟨b, 1, none⟩ = false := by
  simp [World.cell?, World.frozen?, h]
theorem duoU_set0 {w : World} {b : Nat} {x y x' : Int} {T : TypeId} (h : w.heap[b]? = some (.cells #[.int .i64 x, .int .i64 y] T (0, 0))) : (w.setCell ⟨b, 0, none⟩ (.int .i64 x')).heap[b]? = some (.cells #[.int .i64 x', .int .i64 y] T (0, 0)) := by
  simp [World.setCell, Array.getElem?_modify, h]
theorem duoU_set1 {w : World} {b : Nat} {x y y' : Int} {T : TypeId} (h : w.heap[b]? = some (.cells #[.int .i64 x, .int .i64 y] T (0, 0))) : (w.setCell ⟨b, 1, none⟩ (.int .i64 y')).heap[b]? = some (.cells #[.int .i64 x, .int .i64 y'] T (0, 0)) := by
  simp [World.setCell, Array.getElem?_modify, h]
theorem OwnI.sl {w : World} {base : Nat} {e : TypeId} {v : Value} {xs : List Int} (h : OwnI w base e v xs) : ∃ a c, v = .slice a xs.length c := by
  rcases h.2 with ⟨h1, h0⟩ | ⟨g, cap, cur, hv, _⟩
  · rw [h0]; exact ⟨_, _, h1⟩
  · exact ⟨_, _, hv⟩

set_option maxRecDepth 20000 in
set_option maxHeartbeats 2000000 in
theorem specCount_in (w : World) (ts : List Nod) (ao : Option Addr) (cap : Nat) (hl : ts.length ≤ 10000)
    (h1 : ts = [] ∨ ∃ b off, ao = some ⟨b, off, none⟩ ∧ ∀ i, i < ts.length → NAt w b (off + i * 7) (ts.getD i Nod.none)) :
    Calls Try.prog 5 #[.slice ao ts.length cap] w fun e w' => e = .returned (.agg #[.int .i64 (cntU ts).1, .int .i64 (cntU ts).2]) ∧ Chg 0 0 w w' := by
  have HU : Hid (cntU ts = ((((cuL ts).1.length : Nat) : Int), (cuL ts).2)) := by show _ = _; unfold cntU; rw [if_neg (by omega)]
  have h' : ¬ (10000 : Int) < (ts.length : Int) := by omega
  obtain ⟨z3, a0, a1, a2⟩ := alloc3 w (.cells #[.int .i64 0, .int .i64 0] 25) (.cells #[.int .i64 0, .int .i64 0] 25) (.cells #[] 2)
  have HO0 := OwnI.none0 ((w.alloc (.cells #[.int .i64 0, .int .i64 0] 25)).alloc (.cells #[.int .i64 0, .int .i64 0] 25))
  have z2 : ((w.alloc (.cells #[.int .i64 0, .int .i64 0] 25)).alloc (.cells #[.int .i64 0, .int .i64 0] 25)).heap.size = w.heap.size + 2 := by simp
  rw [z2] at HO0
  have HC0 : Chg 0 0 w (((w.alloc (.cells #[.int .i64 0, .int .i64 0] 25)).alloc (.cells #[.int .i64 0, .int .i64 0] 25)).alloc (.cells #[] 2)) := Chg.alloc (Chg.alloc (Chg.alloc (Chg.refl 0 0 w) _) _) _
  go_enter Try.func5, Try.ntmps5
  go_wp2
  generalize (((w.alloc (.cells #[.int .i64 0, .int .i64 0] 25)).alloc (.cells #[.int .i64 0, .int .i64 0] 25)).alloc (.cells #[] 2)) = w1 at *
  go_loopw [4, 5] (fun sv x wr => ∃ k : Nat, k ≤ ts.length ∧ x = .int .i64 k ∧ OwnI wr (w.heap.size + 2) 2 sv (cuL (ts.take k)).1 ∧ wr.heap[w.heap.size + 1]? = some (.cells #[.int .i64 (((cuL (ts.take k)).1.length : Nat) : Int), .int .i64 (cuL (ts.take k)).2] 25 (0, 0)) ∧ wr.heap[w.heap.size]? = some (.cells #[.int .i64 0, .int .i64 0] 25 (0, 0)) ∧ Chg 0 0 w wr) (fun _ x _ => ts.length - (intOf x).toNat)
  case atStart => exact ⟨0, Nat.zero_le _, rfl, HO0, a1, a0, HC0⟩
  case round =>
    clear HO0 a0 a1 a2 HC0
    obtain ⟨k, hk, rfl, ho, hb, hr, hc⟩ := hrel
    by_cases hlt : k < ts.length
    · obtain ⟨b, off, rfl, hce⟩ := h1.resolve_left (fun h => by rw [h] at hlt; exact absurd hlt (Nat.not_lt_zero k))
      have hbw : b < w.heap.size := by have := ((hce k hlt).all).1; exact lt_of_cell this
      obtain ⟨_, _, c2, _, _, c5, _⟩ := ((hce k hlt).chg hc (by omega)).all
      have hi : (k : Int) < (ts.length : Int) := by omega
      have HS := cuL_succ ts hlt
      obtain ⟨bd1, bd2, bd3⟩ := cuL_bd ts k hk
      generalize ts.getD k Nod.none = t at *
      obtain ⟨va, vc, rfl⟩ := ho.sl
      obtain ⟨m0, m1, f0, f1⟩ := duoU hb
      have hC := l4Has_calls wr t.i (ho.view (by omega) (hi := wr.heap.size) (fun g hg => (ho.lt g hg).2))
      by_cases hin : t.i ∈ (cuL (ts.take k)).1
      · have HS2 : Hid (cuL (ts.take (k + 1)) = cuL (ts.take k)) := by show _ = _; rw [HS]; unfold stepU; rw [if_pos hin]
        rw [decide_eq_true hin] at hC
        have HO : Hid (OwnI wr (w.heap.size + 2) 2 (.slice va (cuL (ts.take k)).1.length vc) (cuL (ts.take k)).1) := ho
        clear hin HS hce h1
        go_wp2_with (go_at_call 11; refine hC.mono ?_; clear hC; rintro e w2 ⟨rfl, rfl⟩)
        go_roundw
        case rel => exact ⟨k + 1, by omega, by go_num, by rw [HS2.out]; exact HO.out, by rw [HS2.out]; exact hb, hr, hc⟩
        case measure => simp [intOf]; omega
      · have HS2 : Hid (cuL (ts.take (k + 1)) = ((cuL (ts.take k)).1 ++ [t.i], (cuL (ts.take k)).2 + bkN t.b)) := by show _ = _; rw [HS]; unfold stepU; rw [if_neg hin]
        rw [decide_eq_false hin] at hC
        clear hin HS hce h1 m0 m1 f0 f1
        generalize cuL (ts.take k) = st at *
        obtain ⟨S, B⟩ := st
        simp only at *
        have hlw := (Array.getElem?_eq_some_iff.1 hb).1
        have CA : Chg 0 0 wr (wr.alloc (.cells #[.int .i64 t.i] 2)) := Chg.alloc (Chg.refl 0 0 wr) _
        have sA : (wr.alloc (.cells #[.int .i64 t.i] 2)).heap.size = wr.heap.size + 1 := by simp
        have HOA : Hid (OwnI (wr.alloc (.cells #[.int .i64 t.i] 2)) (w.heap.size + 2) 2 (.slice va S.length vc) S) := ho.chg CA (by intro g _; omega)
        have HVA : Hid (View (wr.alloc (.cells #[.int .i64 t.i] 2)) 0 (wr.heap.size + 1) .i64 (.slice (some ⟨wr.heap.size, 0, none⟩) 1 1) [t.i]) := by
          refine ⟨_, 1, rfl, by simp, ⟨by simp, by simp⟩, Or.inr ⟨wr.heap.size, 0, rfl, Nat.zero_le _, by omega, fun j hj => ?_⟩⟩
          obtain rfl : j = 0 := by simpa using hj
          have hh := heap_new wr (.cells #[.int .i64 t.i] 2)
          simp only [World.cell?, hh]; rfl
        go_wp2_with (first
          | (go_at_call 11; refine hC.mono ?_; clear hC; rintro e w2 ⟨rfl, hw2⟩; obtain rfl := hw2.symm)
          | (at_builtin; refine wpList_app_ints rfl (.tmp 25) (.tmp 31) rfl (w.heap.size + 2) _ S rfl HOA.out (by rw [sA]; omega) _ _ _ [t.i] rfl HVA.out (by simp) (by simp; omega) ?_))
        intro v2 w2 o2 cc2
        clear HOA HVA
        have ca2 := (hc.trans CA).step cc2 (Or.inr (Or.inl (by omega)))
        have hb2 := (cc2.block _ (by rw [sA]; omega) (by omega)).trans ((CA.block _ hlw (by omega)).trans hb)
        have hr2 := (cc2.block w.heap.size (by rw [sA]; omega) (by omega)).trans ((CA.block _ (by omega) (by omega)).trans hr)
        have d5 := cc2.cell (CA.cell c5 (by omega)) (by omega)
        obtain ⟨m0, m1, f0, f1⟩ := duoU hb2
        obtain ⟨va2, vc2, rfl⟩ := o2.sl
        have hv2 : (S ++ [t.i]).length = S.length + 1 := by simp
        rw [hv2] at o2
        have hb3 := duoU_set0 (x' := (S.length : Int) + 1) hb2
        have hr3 : (w2.setCell ⟨w.heap.size + 1, 0, none⟩ (.int .i64 ((S.length : Int) + 1))).heap[w.heap.size]? = some (.cells #[.int .i64 0, .int .i64 0] 25 (0, 0)) := (Below.heap_setCell _ _ _ _ (by simp only; omega)).trans hr2
        have e5 : (w2.setCell ⟨w.heap.size + 1, 0, none⟩ (.int .i64 ((S.length : Int) + 1))).cell? ⟨b, off + k * 7 + 5, none⟩ = some (.int .i64 t.b) := (World.cell?_of_block (a := ⟨b, off + k * 7 + 5, none⟩) (Below.heap_setCell _ _ _ _ (by simp only; omega))).trans d5
        have ca3 : Chg 0 0 w (w2.setCell ⟨w.heap.size + 1, 0, none⟩ (.int .i64 ((S.length : Int) + 1))) := ca2.setCell (Or.inr (Nat.le_succ _)) _
        have o3 : OwnI (w2.setCell ⟨w.heap.size + 1, 0, none⟩ (.int .i64 ((S.length : Int) + 1))) (w.heap.size + 2) 2 (.slice va2 (S.length + 1) vc2) (S ++ [t.i]) := o2.chg (l := w.heap.size + 1) (r := w.heap.size + 1 + 1) (Chg.setCell (Chg.refl _ _ _) (p := ⟨w.heap.size + 1, 0, none⟩) (Or.inl ⟨Nat.le_refl _, Nat.lt_succ_self _⟩) _) (fun g hg => Or.inr (o2.lt g hg).1)
        clear o2 cc2 ca2 hb2 hr2 d5 ho hb hr CA c2 c5 hc
        obtain ⟨p0, p1, q0, q1⟩ := duoU hb3
        have HO3 : Hid (OwnI (w2.setCell ⟨w.heap.size + 1, 0, none⟩ (.int .i64 ((S.length : Int) + 1))) (w.heap.size + 2) 2 (.slice va2 (S.length + 1) vc2) (S ++ [t.i])) := o3
        have HB3 : Hid ((w2.setCell ⟨w.heap.size + 1, 0, none⟩ (.int .i64 ((S.length : Int) + 1))).heap[w.heap.size + 1]? = some (.cells #[.int .i64 ((S.length : Int) + 1), .int .i64 B] 25 (0, 0))) := hb3
        have HR3 : Hid ((w2.setCell ⟨w.heap.size + 1, 0, none⟩ (.int .i64 ((S.length : Int) + 1))).heap[w.heap.size]? = some (.cells #[.int .i64 0, .int .i64 0] 25 (0, 0))) := hr3
        have HC3 : Hid (Chg 0 0 w (w2.setCell ⟨w.heap.size + 1, 0, none⟩ (.int .i64 ((S.length : Int) + 1)))) := ca3
        clear o3 hb3 hr3 ca3 hv2
        have HL : Hid ((((S ++ [t.i]).length : Nat) : Int) = (S.length : Int) + 1) := by show _ = _; simp
        by_cases g1 : t.b < 0
        · have Hbk : Hid (bkN t.b = 0) := if_neg (by omega)
          go_wp2
          go_roundw
          case rel => exact ⟨k + 1, by omega, by go_num, by rw [HS2.out]; exact HO3.out, by rw [HS2.out, HL.out, Hbk.out, Int.add_zero]; exact HB3.out, HR3.out, HC3.out⟩
          case measure => simp [intOf]; omega
        · by_cases g2 : 2048 < t.b
          · have Hbk : Hid (bkN t.b = 0) := if_neg (by omega)
            go_wp2
            go_roundw
            case rel => exact ⟨k + 1, by omega, by go_num, by rw [HS2.out]; exact HO3.out, by rw [HS2.out, HL.out, Hbk.out, Int.add_zero]; exact HB3.out, HR3.out, HC3.out⟩
            case measure => simp [intOf]; omega
          · have Hbk : Hid (bkN t.b = t.b) := if_pos (by omega)
            have HF : Hid (OwnI ((w2.setCell ⟨w.heap.size + 1, 0, none⟩ (.int .i64 ((S.length : Int) + 1))).drew.setCell ⟨w.heap.size + 1, 1, none⟩ (.int .i64 (B + t.b))) (w.heap.size + 2) 2 (.slice va2 (S.length + 1) vc2) (S ++ [t.i]) ∧
                ((w2.setCell ⟨w.heap.size + 1, 0, none⟩ (.int .i64 ((S.length : Int) + 1))).drew.setCell ⟨w.heap.size + 1, 1, none⟩ (.int .i64 (B + t.b))).heap[w.heap.size + 1]? = some (.cells #[.int .i64 ((S.length : Int) + 1), .int .i64 (B + t.b)] 25 (0, 0)) ∧
                ((w2.setCell ⟨w.heap.size + 1, 0, none⟩ (.int .i64 ((S.length : Int) + 1))).drew.setCell ⟨w.heap.size + 1, 1, none⟩ (.int .i64 (B + t.b))).heap[w.heap.size]? = some (.cells #[.int .i64 0, .int .i64 0] 25 (0, 0)) ∧
                Chg 0 0 w ((w2.setCell ⟨w.heap.size + 1, 0, none⟩ (.int .i64 ((S.length : Int) + 1))).drew.setCell ⟨w.heap.size + 1, 1, none⟩ (.int .i64 (B + t.b)))) := by
              have o4 := HO3.out.chg (Chg.drew (Chg.refl 0 0 (w2.setCell ⟨w.heap.size + 1, 0, none⟩ (.int .i64 ((S.length : Int) + 1))))) (by intro g _; omega)
              refine ⟨o4.chg (l := w.heap.size + 1) (r := w.heap.size + 1 + 1) (Chg.setCell (Chg.refl _ _ _) (p := ⟨w.heap.size + 1, 1, none⟩) (Or.inl ⟨Nat.le_refl _, Nat.lt_succ_self _⟩) _) (fun g hg => Or.inr (o4.lt g hg).1), duoU_set1 HB3.out, (Below.heap_setCell _ _ _ _ (by simp only; omega)).trans HR3.out, HC3.out.drew.setCell (Or.inr (Nat.le_succ _)) _⟩
            have hwr : IntKind.i64.wrap (B + t.b) = B + t.b := by rw [IntKind.wrap_i64]; omega
            have u1 : (w2.setCell ⟨w.heap.size + 1, 0, none⟩ (.int .i64 ((S.length : Int) + 1))).drew.cell? ⟨w.heap.size + 1, 1, none⟩ = some (.int .i64 B) := p1
            have u5 : (w2.setCell ⟨w.heap.size + 1, 0, none⟩ (.int .i64 ((S.length : Int) + 1))).drew.cell? ⟨b, off + k * 7 + 5, none⟩ = some (.int .i64 t.b) := e5
            have ug : (w2.setCell ⟨w.heap.size + 1, 0, none⟩ (.int .i64 ((S.length : Int) + 1))).drew.frozen? ⟨w.heap.size + 1, 1, none⟩ = false := q1
            go_wp2
            generalize (w2.setCell ⟨w.heap.size + 1, 0, none⟩ (.int .i64 ((S.length : Int) + 1))) = w3 at *
            refine weak_region 9 (fun w' : World => w'.cell? ⟨w.heap.size + 1, 1, none⟩ = some (.int .i64 B) ∧ w'.cell? ⟨b, off + k * 7 + 5, none⟩ = some (.int .i64 t.b)) (by kernel_rfl) ?_
            generalize w3.drew = x1 at *
            have HS0 : Hid ((fun w' : World => w'.cell? ⟨w.heap.size + 1, 1, none⟩ = some (.int .i64 B) ∧ w'.cell? ⟨b, off + k * 7 + 5, none⟩ = some (.int .i64 t.b)) x1) := ⟨u1, u5⟩
            clear HO3 HB3 HR3 HC3 p0 p1 q0 q1 m0 m1 f0 f1 e5
            refine weak_take 0 (.pointer (some ⟨w.heap.size + 1, 1, none⟩)) rfl (by kernel_rfl) (by kernel_rfl) (by kernel_rfl) (by kernel_rfl) (fun _ _ _ h => h) (.inl ⟨by kernel_rfl, fun w' hw' => by go_simp⟩) HS0.out ?_
            go_simp
            refine weak_take 1 (.int .i64 B) rfl (by kernel_rfl) (by kernel_rfl) (by kernel_rfl) (by kernel_rfl) (fun _ _ _ h => h) (.inl ⟨by kernel_rfl, fun w' hw' => by have h1 := hw'.1; go_simp⟩) HS0.out ?_
            go_simp
            refine weak_take 2 (.slice (some ⟨b, off, none⟩) ts.length cap) rfl (by kernel_rfl) (by kernel_rfl) (by kernel_rfl) (by kernel_rfl) (fun _ _ _ h => h) (.inl ⟨by kernel_rfl, fun w' hw' => by go_simp⟩) HS0.out ?_
            go_simp
            refine weak_take 3 (.int .i64 k) rfl (by kernel_rfl) (by kernel_rfl) (by kernel_rfl) (by kernel_rfl) (fun _ _ _ h => h) (.inl ⟨by kernel_rfl, fun w' hw' => by go_simp⟩) HS0.out ?_
            go_simp
            refine weak_take 4 (.pointer (some ⟨b, off + k * 7, none⟩)) rfl (by kernel_rfl) (by kernel_rfl) (by kernel_rfl) (by kernel_rfl) (fun _ _ _ h => h) (.inl ⟨by kernel_rfl, fun w' hw' => by go_simp⟩) HS0.out ?_
            go_simp
            refine weak_take 5 (.pointer (some ⟨b, off + k * 7 + 5, none⟩)) rfl (by kernel_rfl) (by kernel_rfl) (by kernel_rfl) (by kernel_rfl) (fun _ _ _ h => h) (.inl ⟨by kernel_rfl, fun w' hw' => by go_simp⟩) HS0.out ?_
            go_simp
            refine weak_take 6 (.int .i64 t.b) rfl (by kernel_rfl) (by kernel_rfl) (by kernel_rfl) (by kernel_rfl) (fun _ _ _ h => h) (.inl ⟨by kernel_rfl, fun w' hw' => by have h1 := hw'.2; go_simp⟩) HS0.out ?_
            go_simp
            refine weak_take 7 (.int .i64 (B + t.b)) rfl (by kernel_rfl) (by kernel_rfl) (by kernel_rfl) (by kernel_rfl) (fun _ _ _ h => h) (.inl ⟨by kernel_rfl, fun w' hw' => by go_simp⟩) HS0.out ?_
            go_simp
            refine weak_take 8 (.pointer (some ⟨w.heap.size + 1, 1, none⟩)) rfl (by kernel_rfl) (by kernel_rfl) (by kernel_rfl) (by kernel_rfl) (fun _ _ _ h => h) (.inl ⟨by kernel_rfl, fun w' hw' => by go_simp⟩) HS0.out ?_
            go_simp
            refine weak_one 9 rfl rfl (by kernel_rfl) ?_
            go_simp
            refine weak_done (by kernel_rfl) (NoPanic.normal ?_)
            go_wp2
            go_roundw
            case rel => exact ⟨k + 1, by omega, by go_num, by rw [HS2.out]; exact HF.out.1, by rw [HS2.out, HL.out, Hbk.out]; exact HF.out.2.1, HF.out.2.2.1, HF.out.2.2.2⟩
            case measure => simp [intOf]; omega
    · obtain rfl : k = ts.length := by omega
      rw [List.take_length] at hb
      obtain ⟨m0, m1, f0, f1⟩ := duoU hb
      obtain ⟨n0, n1, g0, g1⟩ := duoU hr
      have HC : Hid (Chg 0 0 w wr) := hc
      clear h1 hc ho hb hr
      go_wp2
      exact bodyPost_ret (v := .agg #[.int .i64 (((cuL ts).1.length : Nat) : Int), .int .i64 (cuL ts).2]) (by simp [results, Try.results5, go_sem, *]) rfl ⟨by rw [HU.out], by first | exact HC.out | exact (HC.out.setCell (Or.inr (Nat.le_refl _)) _).setCell (Or.inr (Nat.le_refl _)) _⟩

theorem specCount_calls (w : World) {lo hi : Nat} {a : Value} {ts : List Nod} (h1 : NView w lo hi a ts) :
    Calls Try.prog 5 #[a] w fun e w' => e = .returned (.agg #[.int .i64 (cntU ts).1, .int .i64 (cntU ts).2]) ∧ Chg 0 0 w w' := by
  obtain ⟨ao, cap, rfl, hl, _, h1⟩ := h1
  by_cases h : 10000 < ts.length
  · rw [show cntU ts = (0, 0) from if_pos h]
    exact specCount_big w ts.length ao cap h hl
  · refine specCount_in w ts ao cap (by omega) ?_
    rcases h1 with h1 | ⟨b, off, hao, _, _, h1⟩
    · exact Or.inl h1
    · exact Or.inr ⟨b, off, hao, h1⟩

end Go.Proofs.Ytccmeggnkeenoaa
