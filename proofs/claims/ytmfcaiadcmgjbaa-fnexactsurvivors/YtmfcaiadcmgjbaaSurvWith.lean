/- What survives, in the model: l5With. (made by tools/mksurvwi.py) -/
import Derived.Test.YtmfcaiadcmgjbaaSurvRow
import Derived.BigQuiet
namespace Go.Proofs.Ytmfcaiadcmgjbaa
open Go.RowKit

def RowAt (w : World) (g k : Nat) (q : Int) (dv : Value) : Prop := w.cell? ⟨g, k * 2, none⟩ = some (.int .i64 q) ∧ w.cell? ⟨g, k * 2 + 1, none⟩ = some dv
theorem RowAt.chg {w w' : World} {g k l r : Nat} {q : Int} {dv : Value} (h : RowAt w g k q dv) (c : Chg l r w w') (d : g < l ∨ r ≤ g) : RowAt w' g k q dv := ⟨c.cell h.1 d, c.cell h.2 d⟩
theorem all_snoc {α : Type} {l : List (Int × α)} {q : Int} {e : Int × α} (h : ∀ p ∈ l, p.1 < q) (he : e.1 < q) : ∀ p ∈ l ++ [e], p.1 < q := by
  intro p hp
  rcases List.mem_append.1 hp with r | r
  · exact h p r
  · simp only [List.mem_cons, List.not_mem_nil, or_false] at r; rw [r]; exact he
theorem take_rises {α : Type} {l : List (Int × α)} (h : RisW l) {k : Nat} (hk : k < l.length) : ∀ p ∈ l.take k, p.1 < l[k].1 := by
  intro p hp
  obtain ⟨i, hi, rfl⟩ := List.mem_iff_getElem.1 hp
  rw [List.length_take] at hi
  rw [List.getElem_take]
  exact List.pairwise_iff_getElem.1 h i k (by omega) hk (by omega)
/-- Where l5With stands ahead of place k. -/
def WiSt (M : Nat) (es : List Hv) (q : Int) (xs : List Int) (k : Nat) (d : Bool) (ps : List Hv) (wr : World) : Prop :=
  (d = false ∧ ps = es.take k ∧ ∀ p ∈ es.take k, p.1 < q) ∨ (d = true ∧ ∃ dv, ps = wiL (es.take k) (q, dv, xs) ∧ (∃ p ∈ es.take k, q ≤ p.1) ∧ OwnB wr M 5 dv xs)

set_option maxRecDepth 20000 in
set_option maxHeartbeats 8000000 in
theorem l5With_calls (w : World) {lo g cp lx hx dc : Nat} {da : Option Addr} {es : List Hv} (q : Int) {xs : List Int} (hl : es.length ≤ 80000) (hxl : xs.length ≤ 1048576) (hR : RisW es) (h1 : OwnH w lo (.slice (some ⟨g, 0, none⟩) es.length cp) es) (hs : SeenH w lo es) (vx : View w lx hx .u8 (.slice da xs.length dc) xs) :
    Calls Try.prog 15 #[.slice (some ⟨g, 0, none⟩) es.length cp, .agg #[.int .i64 q, .slice da xs.length dc]] w fun e w' => ∃ g' cp' dv, e = .returned (.slice (some ⟨g', 0, none⟩) (wiL es (q, dv, xs)).length cp') ∧ OwnH w' w.heap.size (.slice (some ⟨g', 0, none⟩) (wiL es (q, dv, xs)).length cp') (wiL es (q, dv, xs)) ∧ OwnB w' w.heap.size 5 dv xs ∧ Chg 0 0 w w' := by
  have B0 := heap_new w (.cells #[.int .i64 q, .slice da xs.length dc] 44)
  have C0 : Chg 0 0 w (w.alloc (.cells #[.int .i64 q, .slice da xs.length dc] 44)) := Chg.alloc (Chg.refl 0 0 w) _
  have Z0 : (w.alloc (.cells #[.int .i64 q, .slice da xs.length dc] 44)).heap.size = w.heap.size + 1 := by simp
  have HZ : Hid ((w.alloc (.cells #[.int .i64 q, .slice da xs.length dc] 44)).heap.size = w.heap.size + 1) := Z0
  have HO0 : Hid (OwnH ((w.alloc (.cells #[.int .i64 q, .slice da xs.length dc] 44)).alloc (.cells #[] 44)) (w.heap.size + 1) (.slice (some ⟨w.heap.size + 1, 0, none⟩) 0 0) []) := by have := OwnH.nil (w.alloc (.cells #[.int .i64 q, .slice da xs.length dc] 44)); rw [Z0] at this; exact this
  have HC0 : Hid (Chg 0 0 w ((w.alloc (.cells #[.int .i64 q, .slice da xs.length dc] 44)).alloc (.cells #[] 44))) := C0.alloc _
  have HCB : Hid (((w.alloc (.cells #[.int .i64 q, .slice da xs.length dc] 44)).alloc (.cells #[] 44)).heap[w.heap.size]? = some (.cells #[.int .i64 q, .slice da xs.length dc] 44 (0, 0))) := ((Chg.alloc (Chg.refl 0 0 _) _ : Chg 0 0 _ _).block _ (by omega) (by omega)).trans B0
  have H1 : Hid (OwnH w lo (.slice (some ⟨g, 0, none⟩) es.length cp) es) := h1
  have HS' : Hid (SeenH w lo es) := hs
  have V0 : Hid (View w lx hx .u8 (.slice da xs.length dc) xs) := vx
  have HRi : Hid (RisW es) := hR
  have hgl := (h1.lt g rfl).2
  clear h1 hs vx hR B0 C0 Z0
  go_enter Try.func15, Try.ntmps15
  go_wp2
  go_loopw [5, 6, 7] (fun o dn x wr => ∃ (k g' cp' : Nat) (ps : List Hv) (d : Bool), k ≤ es.length ∧ ps.length ≤ k + 1 ∧ x = .int .i64 k ∧ o = .slice (some ⟨g', 0, none⟩) ps.length cp' ∧ dn = .bool d ∧ OwnH wr (w.heap.size + 1) (.slice (some ⟨g', 0, none⟩) ps.length cp') ps ∧ Chg 0 0 w wr ∧ wr.heap[w.heap.size]? = some (.cells #[.int .i64 q, .slice da xs.length dc] 44 (0, 0)) ∧ WiSt w.heap.size es q xs k d ps wr) (fun _ _ x _ => es.length - (RowKit.intOf x).toNat)
  case atStart =>
    exact ⟨0, _, _, [], false, Nat.zero_le _, Nat.zero_le _, rfl, rfl, rfl, HO0.out, HC0.out, HCB.out, .inl ⟨rfl, rfl, by simp⟩⟩
  case round =>
    obtain ⟨k, g', cp', ps, d, hk, hpk, rfl, rfl, rfl, ho, hch, hbx, hst⟩ := hrel
    have HC : Hid (Chg 0 0 w wr) := hch
    have HO : Hid (OwnH wr (w.heap.size + 1) (.slice (some ⟨g', 0, none⟩) ps.length cp') ps) := ho
    have sz := hch.size
    have hbw := (Array.getElem?_eq_some_iff.1 hbx).1
    have bx0 : wr.cell? ⟨w.heap.size, 0, none⟩ = some (.int .i64 q) := by simp [World.cell?, hbx]
    have bx1 : wr.cell? ⟨w.heap.size, 1, none⟩ = some (.slice da xs.length dc) := by simp [World.cell?, hbx]
    have HB : Hid (wr.heap[w.heap.size]? = some (.cells #[.int .i64 q, .slice da xs.length dc] 44 (0, 0))) := hbx
    by_cases hlt : k < es.length
    case neg =>
      obtain rfl : k = es.length := by omega
      have c0 : True := trivial
      have c1 : True := trivial
      have Howr := HO
      have Hcwr := HC
      clear ho hch hbx
      rcases hst with ⟨rfl, hps, hall⟩ | ⟨rfl, dv', hps, hex, hV⟩
      · rw [List.take_length] at hps hall
        have HP : Hid (ps = es) := hps
        clear hps
        have VX : Hid (View wr.drew lx hx .u8 (.slice da xs.length dc) xs) := (V0.out.chg Hcwr.out (by omega)).chg (Chg.drew (Chg.refl 0 0 wr)) (by omega)
        have HS : Hid ((fun w' : World => w'.cell? ⟨w.heap.size, 0, none⟩ = some (.int .i64 q) ∧ w'.cell? ⟨w.heap.size, 1, none⟩ = some (.slice da xs.length dc)) wr.drew) := ⟨bx0, bx1⟩
        clear c0 c1 bx0 bx1
        go_wp2
        refine held_region (fun w' : World => w'.cell? ⟨w.heap.size, 0, none⟩ = some (.int .i64 q) ∧ w'.cell? ⟨w.heap.size, 1, none⟩ = some (.slice da xs.length dc)) (by kernel_rfl) ?_
        refine held_take 0 (.slice (some ⟨g', 0, none⟩) ps.length cp') rfl (by kernel_rfl) (by kernel_rfl) (by kernel_rfl) (fun _ _ _ h => h) (.inl ⟨by kernel_rfl, fun w' hw' => by go_simp⟩) HS.out ?_
        go_simp
        refine held_take 1 (.pointer (some ⟨w.heap.size, 0, none⟩)) rfl (by kernel_rfl) (by kernel_rfl) (by kernel_rfl) (fun _ _ _ h => h) (.inl ⟨by kernel_rfl, fun w' hw' => by go_simp⟩) HS.out ?_
        go_simp
        refine held_take 2 (.int .i64 q) rfl (by kernel_rfl) (by kernel_rfl) (by kernel_rfl) (fun _ _ _ h => h) (.inl ⟨by kernel_rfl, fun w' hw' => by have h4 := hw'.1; go_simp⟩) HS.out ?_
        go_simp
        refine held_take 3 (.pointer (some ⟨w.heap.size, 1, none⟩)) rfl (by kernel_rfl) (by kernel_rfl) (by kernel_rfl) (fun _ _ _ h => h) (.inl ⟨by kernel_rfl, fun w' hw' => by go_simp⟩) HS.out ?_
        go_simp
        refine held_take 4 (.slice da xs.length dc) rfl (by kernel_rfl) (by kernel_rfl) (by kernel_rfl) (fun _ _ _ h => h) (.inl ⟨by kernel_rfl, fun w' hw' => by have h4 := hw'.2; go_simp⟩) HS.out ?_
        go_simp
        refine held_one 5 rfl rfl (by kernel_rfl) ?_
        refine wp_enter 30 #[.slice da xs.length dc] (by first | kernel_rfl | go_simp) (l1Copy_calls wr.drew hxl VX.out) ?_
        rintro e w5 ⟨v5, rfl, ho5, hc5'⟩
        obtain ⟨va, vl, vc, rfl⟩ := row_slice ho5
        refine ⟨_, rfl, ?_⟩
        have hc5 : Chg 0 0 wr w5 := (Chg.drew (Chg.refl 0 0 wr)).trans hc5'
        have HS5 : Hid ((fun w' : World => w'.cell? ⟨w.heap.size, 0, none⟩ = some (.int .i64 q) ∧ w'.cell? ⟨w.heap.size, 1, none⟩ = some (.slice da xs.length dc)) w5) := ⟨hc5'.cell HS.out.1 (by omega), hc5'.cell HS.out.2 (by omega)⟩
        have HC5 : Hid (Chg 0 0 wr w5) := hc5
        have s5 := hc5.size
        have HV5 : Hid (OwnB w5 w.heap.size 5 (.slice va vl vc) xs) := ho5.base (fun g2 hg2 => by have := (ho5.lt g2 hg2).1; have e : wr.drew.heap.size = wr.heap.size := rfl; omega)
        clear HS ho5 hc5 hc5'
        refine ⟨HS5.out, ?_⟩
        go_simp
        refine held_take 6 (.agg #[.int .i64 q, .slice va vl vc]) rfl (by kernel_rfl) (by kernel_rfl) (by kernel_rfl) (fun _ _ _ h => h) (.inl ⟨by kernel_rfl, fun w' hw' => by go_simp⟩) HS5.out ?_
        go_simp
        obtain ⟨ic, hic, hcz0, hcz1, hcz2⟩ := info_parts Try.infoH
        refine held_one 7 rfl rfl (by kernel_rfl) ?_
        refine wp_buildSlice 24 44 1 #[(0, .tmp 59)] rfl #[.int .i64 q, .slice va vl vc] ic _ Try.underlying24 hic hcz0 (by rw [hcz1]; decide) (by rw [hcz1]; decide) (by rw [hcz1, Array.toList_map]; refine fill2 _ ?_ _ _; simp) ?_
        have C6 : Chg 0 0 w5 (w5.alloc (.cells #[.int .i64 q, .slice va vl vc] 44)) := Chg.alloc (Chg.refl 0 0 w5) _
        have HS6 : Hid ((fun w' : World => w'.cell? ⟨w.heap.size, 0, none⟩ = some (.int .i64 q) ∧ w'.cell? ⟨w.heap.size, 1, none⟩ = some (.slice da xs.length dc)) (w5.alloc (.cells #[.int .i64 q, .slice va vl vc] 44))) := ⟨C6.cell HS5.out.1 (by omega), C6.cell HS5.out.2 (by omega)⟩
        refine ⟨HS6.out, ?_⟩
        go_simp
        refine held_one 8 rfl rfl (by kernel_rfl) ?_
        refine wp_app_h1 xs (.tmp 53) (.tmp 60) rfl (w.heap.size + 1) _ ps rfl (Howr.out.chg HC5.out (by omega)) (by omega) rfl (by omega) ⟨_, _, _, rfl⟩ ?_
        intro g8 cp8 w8 r8 ho8 hc8 hk8
        have How8 : Hid (OwnH w8 (w.heap.size + 1) (.slice (some ⟨g8, 0, none⟩) (ps.length + 1) cp8) (ps ++ [(q, .slice va vl vc, xs)])) := ho8
        have HS8 : Hid ((fun w' : World => w'.cell? ⟨w.heap.size, 0, none⟩ = some (.int .i64 q) ∧ w'.cell? ⟨w.heap.size, 1, none⟩ = some (.slice da xs.length dc)) w8) := ⟨hc8.cell HS6.out.1 (by omega), hc8.cell HS6.out.2 (by omega)⟩
        have c8 : Chg (w.heap.size + 1) r8 wr w8 := ((HC5.out.trans C6).widen (by omega) (by omega)).trans hc8
        have HVw8 : Hid (OwnB w8 w.heap.size 5 (.slice va vl vc) xs) := (HV5.out.chg C6 (fun _ _ => by omega)).keepH hk8
        have Hcw8 : Hid (Chg 0 0 w w8) := Hcwr.out.step c8 (by omega)
        clear ho8 hc8 hk8 C6 c8 HV5 HC5 HS5 HS6
        refine ⟨HS8.out, ?_⟩
        go_simp
        refine held_take 9 (.slice (some ⟨g8, 0, none⟩) (ps.length + 1) cp8) rfl (by kernel_rfl) (by kernel_rfl) (by kernel_rfl) (fun _ _ _ h => h) (.inl ⟨by kernel_rfl, fun w' hw' => by go_simp⟩) HS8.out ?_
        go_simp
        refine held_done (by kernel_rfl) (NoPanic.normal ?_)
        clear HS8
        have HF : Hid (ps ++ [(q, .slice va vl vc, xs)] = wiL es (q, .slice va vl vc, xs)) := by
          show _ = _
          rw [HP.out, wiL_all hall]
        clear hall
        go_wp2
        go_ret
        refine ⟨g8, cp8, .slice va vl vc, ?_, ?_, HVw8.out, Hcw8.out⟩
        · rw [← HF.out, List.length_append]; rfl
        · rw [← HF.out, List.length_append]; exact How8.out.low (by omega)
      · rw [List.take_length] at hps
        have HP : Hid (ps = wiL es (q, dv', xs)) := hps
        have HV : Hid (OwnB wr w.heap.size 5 dv' xs) := hV
        clear hps hex hV c0 c1 bx0 bx1
        go_wp2
        go_ret
        refine ⟨g', cp', dv', ?_, ?_, HV.out, HC.out⟩
        · rw [← HP.out]; rfl
        · rw [← HP.out]; exact HO.out.low (by omega)
    have hi : (k : Int) < (es.length : Int) := by omega
    have Hrwr0 := (H1.out.chg hch (by omega)).cells k hlt
    obtain ⟨ea, el, ec, hd⟩ := row_slice (HS'.out _ (List.getElem_mem hlt))
    have HT : Hid (es.take (k + 1) = es.take k ++ [es[k]]) := List.take_succ_eq_append_getElem hlt
    have HR2 : Hid (∀ p ∈ es.take k, p.1 < es[k].1) := take_rises HRi.out hlt
    obtain ⟨⟨q', dv, ys⟩, HE⟩ : ∃ e, es[k] = e := ⟨_, rfl⟩
    rw [HE] at Hrwr0 hd HT HR2
    clear HE
    simp only at Hrwr0 hd HT HR2
    subst hd
    have hgwr : g < wr.heap.size := by omega
    have hwwr : w.heap.size < wr.heap.size := hbw
    have Hbwr := HB
    have Howr := HO
    have Hcwr := HC
    have Hrwr : Hid (RowAt wr g k q' (.slice ea el ec)) := Hrwr0
    obtain ⟨c0, c1⟩ := Hrwr0
    clear ho hch hbx
    rcases hst with ⟨rfl, hps, hall⟩ | ⟨rfl, dv', hps, hex, hV⟩
    · have hpl : ps.length ≤ k := by rw [hps, List.length_take]; omega
      have HP : Hid (ps = es.take k) := hps
      have HA : Hid (∀ p ∈ es.take k, p.1 < q) := hall
      clear hps hall
      by_cases hge : q ≤ q'
      · have hdg : decide (q ≤ q') = true := by simpa using hge
        go_wp2
        go_quiet (fail)
        have cq : Chg 0 0 wr (wr.drewN nq) := Chg.drewN (Chg.refl 0 0 _) nq
        generalize wr.drewN nq = w2 at *
        have Hcw2 : Hid (Chg 0 0 w w2) := Hcwr.out.step cq (by omega)
        have How2 : Hid (OwnH w2 (w.heap.size + 1) (.slice (some ⟨g', 0, none⟩) ps.length cp') (ps)) := Howr.out.chg cq (by omega)
        have Hbw2 : Hid (w2.heap[w.heap.size]? = some (.cells #[.int .i64 q, .slice da xs.length dc] 44 (0, 0))) := (cq.block _ hwwr (by omega)).trans Hbwr.out
        have Hrw2 : Hid (RowAt w2 g k q' (.slice ea el ec)) := Hrwr.out.chg cq (by omega)
        have hww2 : w.heap.size < w2.heap.size := by have := cq.size; omega
        have hgw2 : g < w2.heap.size := by have := cq.size; omega
        clear cq c0 c1 bx0 bx1
        obtain ⟨c0, c1⟩ := Hrw2.out
        have bx0 : w2.cell? ⟨w.heap.size, 0, none⟩ = some (.int .i64 q) := by simp [World.cell?, Hbw2.out]
        have bx1 : w2.cell? ⟨w.heap.size, 1, none⟩ = some (.slice da xs.length dc) := by simp [World.cell?, Hbw2.out]
        have VX : Hid (View w2.drew lx hx .u8 (.slice da xs.length dc) xs) := (V0.out.chg Hcw2.out (by omega)).chg (Chg.drew (Chg.refl 0 0 w2)) (by omega)
        have HS : Hid ((fun w' : World => w'.cell? ⟨w.heap.size, 0, none⟩ = some (.int .i64 q) ∧ w'.cell? ⟨w.heap.size, 1, none⟩ = some (.slice da xs.length dc)) w2.drew) := ⟨bx0, bx1⟩
        clear c0 c1 bx0 bx1
        go_wp2
        refine held_region (fun w' : World => w'.cell? ⟨w.heap.size, 0, none⟩ = some (.int .i64 q) ∧ w'.cell? ⟨w.heap.size, 1, none⟩ = some (.slice da xs.length dc)) (by kernel_rfl) ?_
        refine held_take 0 (.slice (some ⟨g', 0, none⟩) ps.length cp') rfl (by kernel_rfl) (by kernel_rfl) (by kernel_rfl) (fun _ _ _ h => h) (.inl ⟨by kernel_rfl, fun w' hw' => by go_simp⟩) HS.out ?_
        go_simp
        refine held_take 1 (.pointer (some ⟨w.heap.size, 0, none⟩)) rfl (by kernel_rfl) (by kernel_rfl) (by kernel_rfl) (fun _ _ _ h => h) (.inl ⟨by kernel_rfl, fun w' hw' => by go_simp⟩) HS.out ?_
        go_simp
        refine held_take 2 (.int .i64 q) rfl (by kernel_rfl) (by kernel_rfl) (by kernel_rfl) (fun _ _ _ h => h) (.inl ⟨by kernel_rfl, fun w' hw' => by have h4 := hw'.1; go_simp⟩) HS.out ?_
        go_simp
        refine held_take 3 (.pointer (some ⟨w.heap.size, 1, none⟩)) rfl (by kernel_rfl) (by kernel_rfl) (by kernel_rfl) (fun _ _ _ h => h) (.inl ⟨by kernel_rfl, fun w' hw' => by go_simp⟩) HS.out ?_
        go_simp
        refine held_take 4 (.slice da xs.length dc) rfl (by kernel_rfl) (by kernel_rfl) (by kernel_rfl) (fun _ _ _ h => h) (.inl ⟨by kernel_rfl, fun w' hw' => by have h4 := hw'.2; go_simp⟩) HS.out ?_
        go_simp
        refine held_one 5 rfl rfl (by kernel_rfl) ?_
        refine wp_enter 30 #[.slice da xs.length dc] (by first | kernel_rfl | go_simp) (l1Copy_calls w2.drew hxl VX.out) ?_
        rintro e w5 ⟨v5, rfl, ho5, hc5'⟩
        obtain ⟨va, vl, vc, rfl⟩ := row_slice ho5
        refine ⟨_, rfl, ?_⟩
        have hc5 : Chg 0 0 w2 w5 := (Chg.drew (Chg.refl 0 0 w2)).trans hc5'
        have HS5 : Hid ((fun w' : World => w'.cell? ⟨w.heap.size, 0, none⟩ = some (.int .i64 q) ∧ w'.cell? ⟨w.heap.size, 1, none⟩ = some (.slice da xs.length dc)) w5) := ⟨hc5'.cell HS.out.1 (by omega), hc5'.cell HS.out.2 (by omega)⟩
        have HC5 : Hid (Chg 0 0 w2 w5) := hc5
        have s5 := hc5.size
        have HV5 : Hid (OwnB w5 w.heap.size 5 (.slice va vl vc) xs) := ho5.base (fun g2 hg2 => by have := (ho5.lt g2 hg2).1; have e : w2.drew.heap.size = w2.heap.size := rfl; omega)
        clear HS ho5 hc5 hc5'
        refine ⟨HS5.out, ?_⟩
        go_simp
        refine held_take 6 (.agg #[.int .i64 q, .slice va vl vc]) rfl (by kernel_rfl) (by kernel_rfl) (by kernel_rfl) (fun _ _ _ h => h) (.inl ⟨by kernel_rfl, fun w' hw' => by go_simp⟩) HS5.out ?_
        go_simp
        obtain ⟨ic, hic, hcz0, hcz1, hcz2⟩ := info_parts Try.infoH
        refine held_one 7 rfl rfl (by kernel_rfl) ?_
        refine wp_buildSlice 24 44 1 #[(0, .tmp 33)] rfl #[.int .i64 q, .slice va vl vc] ic _ Try.underlying24 hic hcz0 (by rw [hcz1]; decide) (by rw [hcz1]; decide) (by rw [hcz1, Array.toList_map]; refine fill2 _ ?_ _ _; simp) ?_
        have C6 : Chg 0 0 w5 (w5.alloc (.cells #[.int .i64 q, .slice va vl vc] 44)) := Chg.alloc (Chg.refl 0 0 w5) _
        have HS6 : Hid ((fun w' : World => w'.cell? ⟨w.heap.size, 0, none⟩ = some (.int .i64 q) ∧ w'.cell? ⟨w.heap.size, 1, none⟩ = some (.slice da xs.length dc)) (w5.alloc (.cells #[.int .i64 q, .slice va vl vc] 44))) := ⟨C6.cell HS5.out.1 (by omega), C6.cell HS5.out.2 (by omega)⟩
        refine ⟨HS6.out, ?_⟩
        go_simp
        refine held_one 8 rfl rfl (by kernel_rfl) ?_
        refine wp_app_h1 xs (.tmp 27) (.tmp 34) rfl (w.heap.size + 1) _ ps rfl (How2.out.chg HC5.out (by omega)) (by omega) rfl (by omega) ⟨_, _, _, rfl⟩ ?_
        intro g8 cp8 w8 r8 ho8 hc8 hk8
        have How8 : Hid (OwnH w8 (w.heap.size + 1) (.slice (some ⟨g8, 0, none⟩) (ps.length + 1) cp8) (ps ++ [(q, .slice va vl vc, xs)])) := ho8
        have HS8 : Hid ((fun w' : World => w'.cell? ⟨w.heap.size, 0, none⟩ = some (.int .i64 q) ∧ w'.cell? ⟨w.heap.size, 1, none⟩ = some (.slice da xs.length dc)) w8) := ⟨hc8.cell HS6.out.1 (by omega), hc8.cell HS6.out.2 (by omega)⟩
        have c8 : Chg (w.heap.size + 1) r8 w2 w8 := ((HC5.out.trans C6).widen (by omega) (by omega)).trans hc8
        have HVw8 : Hid (OwnB w8 w.heap.size 5 (.slice va vl vc) xs) := (HV5.out.chg C6 (fun _ _ => by omega)).keepH hk8
        have Hcw8 : Hid (Chg 0 0 w w8) := Hcw2.out.step c8 (by omega)
        have Hbw8 : Hid (w8.heap[w.heap.size]? = some (.cells #[.int .i64 q, .slice da xs.length dc] 44 (0, 0))) := (c8.block _ hww2 (by omega)).trans Hbw2.out
        have Hrw8 : Hid (RowAt w8 g k q' (.slice ea el ec)) := Hrw2.out.chg c8 (by omega)
        have hww8 : w.heap.size < w8.heap.size := by have := c8.size; omega
        have hgw8 : g < w8.heap.size := by have := c8.size; omega
        clear ho8 hc8 hk8 C6 c8 HV5 HC5 HS5 HS6
        refine ⟨HS8.out, ?_⟩
        go_simp
        refine held_take 9 (.slice (some ⟨g8, 0, none⟩) (ps.length + 1) cp8) rfl (by kernel_rfl) (by kernel_rfl) (by kernel_rfl) (fun _ _ _ h => h) (.inl ⟨by kernel_rfl, fun w' hw' => by go_simp⟩) HS8.out ?_
        go_simp
        refine held_done (by kernel_rfl) (NoPanic.normal ?_)
        clear HS8
        obtain ⟨c0, c1⟩ := Hrw8.out
        have bx0 : w8.cell? ⟨w.heap.size, 0, none⟩ = some (.int .i64 q) := by simp [World.cell?, Hbw8.out]
        have bx1 : w8.cell? ⟨w.heap.size, 1, none⟩ = some (.slice da xs.length dc) := by simp [World.cell?, Hbw8.out]
        by_cases hqe : q' = q
        · have hqb : (q' == q) = true := by rw [hqe]; simp
          go_wp2
          go_quiet (fail)
          have cq : Chg 0 0 w8 (w8.drewN nq) := Chg.drewN (Chg.refl 0 0 _) nq
          generalize w8.drewN nq = w3 at *
          have Hcw3 : Hid (Chg 0 0 w w3) := Hcw8.out.step cq (by omega)
          have How3 : Hid (OwnH w3 (w.heap.size + 1) (.slice (some ⟨g8, 0, none⟩) (ps.length + 1) cp8) (ps ++ [(q, Value.slice va vl vc, xs)])) := How8.out.chg cq (by omega)
          have HVw3 : Hid (OwnB w3 w.heap.size 5 (.slice va vl vc) xs) := HVw8.out.chg cq (fun _ _ => by omega)
          have Hbw3 : Hid (w3.heap[w.heap.size]? = some (.cells #[.int .i64 q, .slice da xs.length dc] 44 (0, 0))) := (cq.block _ hww8 (by omega)).trans Hbw8.out
          have Hrw3 : Hid (RowAt w3 g k q' (.slice ea el ec)) := Hrw8.out.chg cq (by omega)
          have hww3 : w.heap.size < w3.heap.size := by have := cq.size; omega
          have hgw3 : g < w3.heap.size := by have := cq.size; omega
          clear cq c0 c1 bx0 bx1
          have HF : Hid (ps ++ [(q, Value.slice va vl vc, xs)] = wiL (es.take (k + 1)) (q, Value.slice va vl vc, xs)) := by
            show _ = _
            rw [HT.out, HP.out, wiL_at HA.out hqe]
          go_wp2
          go_roundw
          case rel => exact ⟨k + 1, g8, cp8, ps ++ [(q, Value.slice va vl vc, xs)], true, by omega, by simp; omega, by go_num, by simp, rfl, by rw [List.length_append]; exact How3.out, Hcw3.out, Hbw3.out, .inr ⟨rfl, _, HF.out, by rw [HT.out]; exact ⟨_, List.mem_append_right _ List.mem_cons_self, hge⟩, HVw3.out⟩⟩
          case measure => simp [RowKit.intOf]; omega
        · have hqb : (q' == q) = false := by rw [beq_eq_false_iff_ne]; exact hqe
          have HF : Hid (ps ++ [(q, Value.slice va vl vc, xs)] ++ [(q', .slice ea el ec, ys)] = wiL (es.take (k + 1)) (q, Value.slice va vl vc, xs)) := by
            show _ = _
            rw [HT.out, HP.out, wiL_gt HA.out (show q < q' by omega)]
          go_wp2
          go_quiet (fail)
          have cq : Chg 0 0 w8 (w8.drewN nq) := Chg.drewN (Chg.refl 0 0 _) nq
          generalize w8.drewN nq = w3 at *
          have Hcw3 : Hid (Chg 0 0 w w3) := Hcw8.out.step cq (by omega)
          have How3 : Hid (OwnH w3 (w.heap.size + 1) (.slice (some ⟨g8, 0, none⟩) (ps.length + 1) cp8) (ps ++ [(q, Value.slice va vl vc, xs)])) := How8.out.chg cq (by omega)
          have HVw3 : Hid (OwnB w3 w.heap.size 5 (.slice va vl vc) xs) := HVw8.out.chg cq (fun _ _ => by omega)
          have Hbw3 : Hid (w3.heap[w.heap.size]? = some (.cells #[.int .i64 q, .slice da xs.length dc] 44 (0, 0))) := (cq.block _ hww8 (by omega)).trans Hbw8.out
          have Hrw3 : Hid (RowAt w3 g k q' (.slice ea el ec)) := Hrw8.out.chg cq (by omega)
          have hww3 : w.heap.size < w3.heap.size := by have := cq.size; omega
          have hgw3 : g < w3.heap.size := by have := cq.size; omega
          clear cq c0 c1 bx0 bx1
          obtain ⟨c0, c1⟩ := Hrw3.out
          have bx0 : w3.cell? ⟨w.heap.size, 0, none⟩ = some (.int .i64 q) := by simp [World.cell?, Hbw3.out]
          have bx1 : w3.cell? ⟨w.heap.size, 1, none⟩ = some (.slice da xs.length dc) := by simp [World.cell?, Hbw3.out]
          obtain ⟨pq, HPQ⟩ : ∃ l : List Hv, Hid (ps ++ [(q, Value.slice va vl vc, xs)] = l) := ⟨_, rfl⟩
          have hLn : pq.length ≤ 90000 := by rw [← HPQ.out, List.length_append]; simp; omega
          have HLe : Hid (pq.length = ps.length + 1) := by show _ = _; rw [← HPQ.out, List.length_append]; rfl
          rw [HPQ.out] at How3 HF
          go_wp2_with (at_builtin; refine wpList_app_h1 ys rfl (.tmp 44) (.tmp 49) rfl (w.heap.size + 1) _ pq rfl How3.out (by omega) rfl hLn ⟨_, _, _, rfl⟩ ?_)
          intro g9 cp9 w9 r9 ho9 hc9 hk9
          have How9 : Hid (OwnH w9 (w.heap.size + 1) (.slice (some ⟨g9, 0, none⟩) (pq.length + 1) cp9) (pq ++ [(q', .slice ea el ec, ys)])) := ho9
          have cal : Chg 0 0 w3 (w3.alloc (.cells #[.int .i64 q', .slice ea el ec] 44)) := Chg.alloc (Chg.refl 0 0 _) _
          have Hcw9 : Hid (Chg 0 0 w w9) := (Hcw3.out.trans cal).step hc9 (by omega)
          have Hbw9 : Hid (w9.heap[w.heap.size]? = some (.cells #[.int .i64 q, .slice da xs.length dc] 44 (0, 0))) := (hc9.block _ (by have := cal.size; omega) (by omega)).trans ((cal.block _ hww3 (by omega)).trans Hbw3.out)
          have HVn : Hid (OwnB w9 w.heap.size 5 (.slice va vl vc) xs) := (HVw3.out.chg cal (fun _ _ => by omega)).keepH hk9
          clear ho9 hc9 hk9 cal c0 c1 bx0 bx1
          go_wp2
          go_roundw
          case rel => exact ⟨k + 1, g9, cp9, pq ++ [(q', .slice ea el ec, ys)], true, by omega, by rw [List.length_append, HLe.out]; simp; omega, by go_num, by simp, rfl, by rw [List.length_append]; exact How9.out, Hcw9.out, Hbw9.out, .inr ⟨rfl, _, HF.out, by rw [HT.out]; exact ⟨_, List.mem_append_right _ List.mem_cons_self, hge⟩, HVn.out⟩⟩
          case measure => simp [RowKit.intOf]; omega
      · have hdg : decide (q ≤ q') = false := by simpa using hge
        have hqb : (q' == q) = false := by rw [beq_eq_false_iff_ne]; omega
        go_wp2
        go_quiet (fail)
        have cq : Chg 0 0 wr (wr.drewN nq) := Chg.drewN (Chg.refl 0 0 _) nq
        generalize wr.drewN nq = w2 at *
        have Hcw2 : Hid (Chg 0 0 w w2) := Hcwr.out.step cq (by omega)
        have How2 : Hid (OwnH w2 (w.heap.size + 1) (.slice (some ⟨g', 0, none⟩) ps.length cp') (ps)) := Howr.out.chg cq (by omega)
        have Hbw2 : Hid (w2.heap[w.heap.size]? = some (.cells #[.int .i64 q, .slice da xs.length dc] 44 (0, 0))) := (cq.block _ hwwr (by omega)).trans Hbwr.out
        have Hrw2 : Hid (RowAt w2 g k q' (.slice ea el ec)) := Hrwr.out.chg cq (by omega)
        have hww2 : w.heap.size < w2.heap.size := by have := cq.size; omega
        have hgw2 : g < w2.heap.size := by have := cq.size; omega
        clear cq c0 c1 bx0 bx1
        obtain ⟨c0, c1⟩ := Hrw2.out
        have bx0 : w2.cell? ⟨w.heap.size, 0, none⟩ = some (.int .i64 q) := by simp [World.cell?, Hbw2.out]
        have bx1 : w2.cell? ⟨w.heap.size, 1, none⟩ = some (.slice da xs.length dc) := by simp [World.cell?, Hbw2.out]
        go_wp2
        go_quiet (fail)
        have cq : Chg 0 0 w2 (w2.drewN nq) := Chg.drewN (Chg.refl 0 0 _) nq
        generalize w2.drewN nq = w3 at *
        have Hcw3 : Hid (Chg 0 0 w w3) := Hcw2.out.step cq (by omega)
        have How3 : Hid (OwnH w3 (w.heap.size + 1) (.slice (some ⟨g', 0, none⟩) ps.length cp') (ps)) := How2.out.chg cq (by omega)
        have Hbw3 : Hid (w3.heap[w.heap.size]? = some (.cells #[.int .i64 q, .slice da xs.length dc] 44 (0, 0))) := (cq.block _ hww2 (by omega)).trans Hbw2.out
        have Hrw3 : Hid (RowAt w3 g k q' (.slice ea el ec)) := Hrw2.out.chg cq (by omega)
        have hww3 : w.heap.size < w3.heap.size := by have := cq.size; omega
        have hgw3 : g < w3.heap.size := by have := cq.size; omega
        clear cq c0 c1 bx0 bx1
        obtain ⟨c0, c1⟩ := Hrw3.out
        have bx0 : w3.cell? ⟨w.heap.size, 0, none⟩ = some (.int .i64 q) := by simp [World.cell?, Hbw3.out]
        have bx1 : w3.cell? ⟨w.heap.size, 1, none⟩ = some (.slice da xs.length dc) := by simp [World.cell?, Hbw3.out]
        go_wp2_with (at_builtin; refine wpList_app_h1 ys rfl (.tmp 44) (.tmp 49) rfl (w.heap.size + 1) _ ps rfl How3.out (by omega) rfl (by omega) ⟨_, _, _, rfl⟩ ?_)
        intro g9 cp9 w9 r9 ho9 hc9 hk9
        have How9 : Hid (OwnH w9 (w.heap.size + 1) (.slice (some ⟨g9, 0, none⟩) (ps.length + 1) cp9) (ps ++ [(q', .slice ea el ec, ys)])) := ho9
        have cal : Chg 0 0 w3 (w3.alloc (.cells #[.int .i64 q', .slice ea el ec] 44)) := Chg.alloc (Chg.refl 0 0 _) _
        have Hcw9 : Hid (Chg 0 0 w w9) := (Hcw3.out.trans cal).step hc9 (by omega)
        have Hbw9 : Hid (w9.heap[w.heap.size]? = some (.cells #[.int .i64 q, .slice da xs.length dc] 44 (0, 0))) := (hc9.block _ (by have := cal.size; omega) (by omega)).trans ((cal.block _ hww3 (by omega)).trans Hbw3.out)
        clear ho9 hc9 hk9 cal c0 c1 bx0 bx1
        go_wp2
        go_roundw
        case rel => exact ⟨k + 1, g9, cp9, ps ++ [(q', .slice ea el ec, ys)], false, by omega, by simp; omega, by go_num, by simp, rfl, by rw [List.length_append]; exact How9.out, Hcw9.out, Hbw9.out, .inl ⟨rfl, by rw [HT.out, HP.out], by rw [HT.out]; exact all_snoc HA.out (show q' < q by omega)⟩⟩
        case measure => simp [RowKit.intOf]; omega
    · have HP : Hid (ps = wiL (es.take k) (q, dv', xs)) := hps
      have hqq : q < q' := by obtain ⟨p, hp, h5⟩ := hex; have := HR2.out p hp; omega
      have hqb : (q' == q) = false := by rw [beq_eq_false_iff_ne]; omega
      have HX : Hid (∃ p ∈ es.take k, q ≤ p.1) := hex
      have HVwr : Hid (OwnB wr w.heap.size 5 (dv') xs) := hV
      clear hps hex hV
      go_wp2
      go_quiet (fail)
      have cq : Chg 0 0 wr (wr.drewN nq) := Chg.drewN (Chg.refl 0 0 _) nq
      generalize wr.drewN nq = w2 at *
      have Hcw2 : Hid (Chg 0 0 w w2) := Hcwr.out.step cq (by omega)
      have How2 : Hid (OwnH w2 (w.heap.size + 1) (.slice (some ⟨g', 0, none⟩) ps.length cp') (ps)) := Howr.out.chg cq (by omega)
      have HVw2 : Hid (OwnB w2 w.heap.size 5 (dv') xs) := HVwr.out.chg cq (fun _ _ => by omega)
      have Hbw2 : Hid (w2.heap[w.heap.size]? = some (.cells #[.int .i64 q, .slice da xs.length dc] 44 (0, 0))) := (cq.block _ hwwr (by omega)).trans Hbwr.out
      have Hrw2 : Hid (RowAt w2 g k q' (.slice ea el ec)) := Hrwr.out.chg cq (by omega)
      have hww2 : w.heap.size < w2.heap.size := by have := cq.size; omega
      have hgw2 : g < w2.heap.size := by have := cq.size; omega
      clear cq c0 c1 bx0 bx1
      obtain ⟨c0, c1⟩ := Hrw2.out
      have bx0 : w2.cell? ⟨w.heap.size, 0, none⟩ = some (.int .i64 q) := by simp [World.cell?, Hbw2.out]
      have bx1 : w2.cell? ⟨w.heap.size, 1, none⟩ = some (.slice da xs.length dc) := by simp [World.cell?, Hbw2.out]
      go_wp2
      go_quiet (fail)
      have cq : Chg 0 0 w2 (w2.drewN nq) := Chg.drewN (Chg.refl 0 0 _) nq
      generalize w2.drewN nq = w3 at *
      have Hcw3 : Hid (Chg 0 0 w w3) := Hcw2.out.step cq (by omega)
      have How3 : Hid (OwnH w3 (w.heap.size + 1) (.slice (some ⟨g', 0, none⟩) ps.length cp') (ps)) := How2.out.chg cq (by omega)
      have HVw3 : Hid (OwnB w3 w.heap.size 5 (dv') xs) := HVw2.out.chg cq (fun _ _ => by omega)
      have Hbw3 : Hid (w3.heap[w.heap.size]? = some (.cells #[.int .i64 q, .slice da xs.length dc] 44 (0, 0))) := (cq.block _ hww2 (by omega)).trans Hbw2.out
      have Hrw3 : Hid (RowAt w3 g k q' (.slice ea el ec)) := Hrw2.out.chg cq (by omega)
      have hww3 : w.heap.size < w3.heap.size := by have := cq.size; omega
      have hgw3 : g < w3.heap.size := by have := cq.size; omega
      clear cq c0 c1 bx0 bx1
      obtain ⟨c0, c1⟩ := Hrw3.out
      have bx0 : w3.cell? ⟨w.heap.size, 0, none⟩ = some (.int .i64 q) := by simp [World.cell?, Hbw3.out]
      have bx1 : w3.cell? ⟨w.heap.size, 1, none⟩ = some (.slice da xs.length dc) := by simp [World.cell?, Hbw3.out]
      go_wp2_with (at_builtin; refine wpList_app_h1 ys rfl (.tmp 44) (.tmp 49) rfl (w.heap.size + 1) _ ps rfl How3.out (by omega) rfl (by omega) ⟨_, _, _, rfl⟩ ?_)
      intro g9 cp9 w9 r9 ho9 hc9 hk9
      have How9 : Hid (OwnH w9 (w.heap.size + 1) (.slice (some ⟨g9, 0, none⟩) (ps.length + 1) cp9) (ps ++ [(q', .slice ea el ec, ys)])) := ho9
      have cal : Chg 0 0 w3 (w3.alloc (.cells #[.int .i64 q', .slice ea el ec] 44)) := Chg.alloc (Chg.refl 0 0 _) _
      have Hcw9 : Hid (Chg 0 0 w w9) := (Hcw3.out.trans cal).step hc9 (by omega)
      have Hbw9 : Hid (w9.heap[w.heap.size]? = some (.cells #[.int .i64 q, .slice da xs.length dc] 44 (0, 0))) := (hc9.block _ (by have := cal.size; omega) (by omega)).trans ((cal.block _ hww3 (by omega)).trans Hbw3.out)
      have HVn : Hid (OwnB w9 w.heap.size 5 dv' xs) := (HVw3.out.chg cal (fun _ _ => by omega)).keepH hk9
      clear ho9 hc9 hk9 cal c0 c1 bx0 bx1
      go_wp2
      go_roundw
      case rel => exact ⟨k + 1, g9, cp9, ps ++ [(q', .slice ea el ec, ys)], true, by omega, by simp; omega, by go_num, by simp, rfl, by rw [List.length_append]; exact How9.out, Hcw9.out, Hbw9.out, .inr ⟨rfl, dv', by rw [HT.out, HP.out]; exact (wiL_past HX.out).symm, by rw [HT.out]; obtain ⟨p, hp, h5⟩ := HX.out; exact ⟨p, List.mem_append_left _ hp, h5⟩, HVn.out⟩⟩
      case measure => simp [RowKit.intOf]; omega

end Go.Proofs.Ytmfcaiadcmgjbaa
