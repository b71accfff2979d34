/- DecodeDir of the model. -/
import Derived.Test.YtilnlphkkbflaaaArrEq
import Derived.Test.YtilnlphkkbflaaaHeld
namespace Go.Proofs.Ytilnlphkkbflaaa
open Go.RowKit

/-- Record k. -/
def recAt (xs : List Int) (k : Nat) : List Int := (xs.drop (16 * k)).take 16
def entAt (xs : List Int) (k : Nat) : Ent := (eQ (recAt xs k), eS (recAt xs k))
def entsTo (xs : List Int) (k : Nat) : List Ent := (List.range k).map (entAt xs)
def okAt (xs : List Int) (k : Nat) : Bool := entG (recAt xs k) && decide (findD (entsTo xs k) (entAt xs k).2 < 0)
def dirG (xs : List Int) : Bool := decide (xs.length % 16 = 0) && (decide (xs.length ≤ 2560) && (List.range (xs.length / 16)).all (okAt xs))
/-- The entries that DecodeDir tells. -/
def dirE (xs : List Int) : List Ent := if dirG xs = true then entsTo xs (xs.length / 16) else []

theorem entsTo_len (xs : List Int) (k : Nat) : (entsTo xs k).length = k := by simp [entsTo]
theorem entsTo_succ (xs : List Int) (k : Nat) : entsTo xs (k + 1) = entsTo xs k ++ [entAt xs k] := by simp [entsTo, List.range_succ]
theorem dirG_iff {xs : List Int} : dirG xs = true ↔ xs.length % 16 = 0 ∧ xs.length ≤ 2560 ∧ ∀ k, k < xs.length / 16 → okAt xs k = true := by
  unfold dirG
  simp
theorem dirG_false {xs : List Int} (h : ¬ (xs.length % 16 = 0 ∧ xs.length ≤ 2560 ∧ ∀ k, k < xs.length / 16 → okAt xs k = true)) : dirG xs = false := by
  rw [Bool.eq_false_iff]
  exact fun h' => h (dirG_iff.1 h')
theorem recAt_len {xs : List Int} {k : Nat} (h : 16 * k + 16 ≤ xs.length) : (recAt xs k).length = 16 := by
  unfold recAt
  rw [List.length_take, List.length_drop]
  omega
theorem dirE_len (xs : List Int) : (dirE xs).length ≤ 160 := by
  unfold dirE
  split
  · rename_i h; rw [entsTo_len]; have := (dirG_iff.1 h).2.1; omega
  · simp

theorem decEnt_cases (xs : List Int) : (entG xs = true ∧ decEnt xs = erV true (eQ xs) (eS xs)) ∨ (entG xs = false ∧ decEnt xs = erV false 0 ⟨#[]⟩) := by
  unfold decEnt
  by_cases h : entG xs = true
  · exact Or.inl ⟨h, by rw [if_pos h]⟩
  · exact Or.inr ⟨by rw [Bool.eq_false_iff]; exact h, by rw [if_neg h]⟩

theorem OwnE.zero (w : World) (base : Nat) (e : TypeId) : OwnE w base e (.slice none 0 0) [] := ⟨rfl, Or.inl ⟨rfl, rfl⟩⟩

theorem OwnE.sl {w : World} {base : Nat} {e : TypeId} {v : Value} {ts : List Ent} (h : OwnE w base e v ts) : ∃ a c, v = .slice a ts.length c := by
  rcases h.2 with ⟨rfl, h0⟩ | ⟨g, cap, cur, rfl, _⟩
  · exact ⟨Option.none, 0, by rw [h0]⟩
  · exact ⟨_, _, rfl⟩

set_option maxRecDepth 20000 in
set_option maxHeartbeats 4000000 in
theorem specDecDir_calls (w : World) {lo hi : Nat} {a : Value} {xs : List Int} (hv : View w lo hi .u8 a xs) (hB : Byt xs) (hl : xs.length ≤ 1048576) :
    Calls Try.prog 4 #[a] w fun e w' => ∃ v, e = .returned (.agg #[.bool (dirG xs), v]) ∧ OwnE w' w.heap.size 34 v (dirE xs) ∧ Chg 0 0 w w' := by
  have HV0 : Hid (View w lo hi .u8 a xs) := hv
  obtain ⟨ao, cap, rfl, hle, ⟨hcp, _⟩, hcell⟩ := hv
  have HCell : Hid (xs = [] ∨ ∃ b off, ao = some ⟨b, off, none⟩ ∧ lo ≤ b ∧ b < hi ∧ ∀ i, i < xs.length → w.cell? ⟨b, off + i, none⟩ = some (.int .u8 (xs.getD i 0))) := hcell
  have C0 : Chg 0 0 w (w.alloc (.cells #[.bool false, .slice none 0 0] 25)) := Chg.alloc (Chg.refl 0 0 w) _
  have B0 := heap_new w (.cells #[.bool false, .slice none 0 0] 25)
  have s0 : (w.alloc (.cells #[.bool false, .slice none 0 0] 25)).heap.size = w.heap.size + 1 := by simp
  have HB : Hid ((w.alloc (.cells #[.bool false, .slice none 0 0] 25)).heap[w.heap.size]? = some (.cells #[.bool false, .slice none 0 0] 25 (0, 0))) := B0
  have HC : Hid (Chg 0 0 w (w.alloc (.cells #[.bool false, .slice none 0 0] 25))) := C0
  clear C0 B0 hcell
  -- the answer where it is none
  have HNo : Hid (dirG xs = false → ∀ w', Chg 0 0 w w' → OwnE w' w.heap.size 34 (.slice none 0 0) (dirE xs)) := by
    intro h w' _
    unfold dirE
    rw [if_neg (by rw [h]; decide)]
    exact OwnE.zero _ _ _
  by_cases h1 : xs.length % 16 = 0
  case neg =>
    have hG : dirG xs = false := dirG_false (fun h => h1 h.1)
    have HG : Hid (dirG xs = false) := hG
    have hne : ((xs.length : Int) % 16 != 0) = true := by simp; omega
    clear hG
    go_enter Try.func4, Try.ntmps4
    go_wp2
    exact bodyPost_ret (v := .agg #[.bool false, .slice none 0 0]) (by simp [results, Try.results4, go_sem]) rfl ⟨_, by rw [HG.out], HNo.out HG.out _ (by first | exact HC.out | (refine Chg.setCell (Chg.setCell HC.out ?_ _) ?_ _ <;> exact Or.inr (Nat.le_refl _))), by first | exact HC.out | (refine Chg.setCell (Chg.setCell HC.out ?_ _) ?_ _ <;> exact Or.inr (Nat.le_refl _))⟩
  have hne : ((xs.length : Int) % 16 != 0) = false := by simp; omega
  by_cases h2 : (2560 : Int) < (xs.length : Int)
  · have hG : dirG xs = false := dirG_false (fun h => by have := h.2.1; omega)
    have HG : Hid (dirG xs = false) := hG
    clear hG
    go_enter Try.func4, Try.ntmps4
    go_wp2
    exact bodyPost_ret (v := .agg #[.bool false, .slice none 0 0]) (by simp [results, Try.results4, go_sem]) rfl ⟨_, by rw [HG.out], HNo.out HG.out _ (by first | exact HC.out | (refine Chg.setCell (Chg.setCell HC.out ?_ _) ?_ _ <;> exact Or.inr (Nat.le_refl _))), by first | exact HC.out | (refine Chg.setCell (Chg.setCell HC.out ?_ _) ?_ _ <;> exact Or.inr (Nat.le_refl _))⟩
  have HBy : Hid (Byt xs) := hB
  have H1 : Hid (xs.length % 16 = 0) := h1
  have hC1 : Chg 0 0 (w.alloc (.cells #[.bool false, .slice none 0 0] 25)) ((w.alloc (.cells #[.bool false, .slice none 0 0] 25)).alloc (.cells #[.bool true, .slice none 0 0] 25)) := Chg.alloc (Chg.refl 0 0 _) _
  have HC1 : Hid (Chg 0 0 w ((w.alloc (.cells #[.bool false, .slice none 0 0] 25)).alloc (.cells #[.bool true, .slice none 0 0] 25))) := HC.out.trans hC1
  have HB1 : Hid (((w.alloc (.cells #[.bool false, .slice none 0 0] 25)).alloc (.cells #[.bool true, .slice none 0 0] 25)).heap[w.heap.size]? = some (.cells #[.bool false, .slice none 0 0] 25 (0, 0))) := (hC1.block _ (by omega) (by omega)).trans HB.out
  have HO1 : Hid (((w.alloc (.cells #[.bool false, .slice none 0 0] 25)).alloc (.cells #[.bool true, .slice none 0 0] 25)).heap[w.heap.size + 1]? = some (.cells #[.bool true, .slice none 0 0] 25 (0, 0))) := by
    have := heap_new (w.alloc (.cells #[.bool false, .slice none 0 0] 25)) (.cells #[.bool true, .slice none 0 0] 25)
    rw [s0] at this
    exact this
  have s1 : ((w.alloc (.cells #[.bool false, .slice none 0 0] 25)).alloc (.cells #[.bool true, .slice none 0 0] 25)).heap.size = w.heap.size + 2 := by simp
  clear hC1 hB h1 HB HC
  go_enter Try.func4, Try.ntmps4
  go_wp2
  generalize (w.alloc (.cells #[.bool false, .slice none 0 0] 25)).alloc (.cells #[.bool true, .slice none 0 0] 25) = w1 at *
  go_loopw [4] (fun x wr => ∃ (k : Nat) (v : Value), 16 * k ≤ xs.length ∧ x = .int .i64 ((16 * k : Nat) : Int) ∧ (∀ j, j < k → okAt xs j = true) ∧ OwnE wr (w.heap.size + 2) 34 v (entsTo xs k) ∧ Chg 0 0 w wr ∧ w.heap.size + 2 ≤ wr.heap.size ∧ wr.heap[w.heap.size]? = some (.cells #[.bool false, .slice none 0 0] 25 (0, 0)) ∧ wr.heap[w.heap.size + 1]? = some (.cells #[.bool true, v] 25 (0, 0))) (fun x _ => xs.length - (intOf x).toNat)
  case atStart => exact ⟨0, _, Nat.zero_le _, rfl, fun j hj => absurd hj (Nat.not_lt_zero j), OwnE.zero _ _ _, HC1.out, by omega, HB1.out, HO1.out⟩
  case round =>
    obtain ⟨k, v, hk, rfl, hall, hoe, hch, hs2, hbr, hbo⟩ := hrel
    clear HC1 HB1 HO1
    have HAll : Hid (∀ j, j < k → okAt xs j = true) := hall
    have HE : Hid (OwnE wr (w.heap.size + 2) 34 v (entsTo xs k)) := hoe
    have HC : Hid (Chg 0 0 w wr) := hch
    have HBr : Hid (wr.heap[w.heap.size]? = some (.cells #[.bool false, .slice none 0 0] 25 (0, 0))) := hbr
    have HBo : Hid (wr.heap[w.heap.size + 1]? = some (.cells #[.bool true, v] 25 (0, 0))) := hbo
    clear hall hoe hch hbr hbo
    by_cases hlt : 16 * k < xs.length
    · have h16 : 16 * k + 16 ≤ xs.length := by have := H1.out; omega
      obtain ⟨b, off, rfl, hlo, hhi, hcl⟩ := HCell.out.resolve_left (fun h => by rw [h] at hlt; exact absurd hlt (Nat.not_lt_zero _))
      have HVk : Hid (View w lo hi .u8 (.slice (some ⟨b, off + 16 * k, none⟩) 16 (cap - 16 * k)) (recAt xs k)) := View.part HV0.out h16 (by omega) (cap - 16 * k) (by omega)
      have HByk : Hid (Byt (recAt xs k)) := fun x hx => HBy.out x (List.mem_of_mem_drop (List.mem_of_mem_take hx))
      have HLk : Hid ((recAt xs k).length = 16) := recAt_len h16
      have hk160 : k ≤ 160 := by omega
      obtain ⟨m, hm⟩ : ∃ m : Nat, m = 16 * k := ⟨_, rfl⟩
      have Hm : Hid (m = 16 * k) := hm
      rw [← hm] at HVk h16 hlt hk
      rw [← hm]
      have hN := specDecEntry_calls wr (HVk.out.chg HC.out (by omega)) HByk.out
      have hi' : (m : Int) < (xs.length : Int) := by omega
      have q1 : (0 : Int) ≤ (m : Int) + 16 := by omega
      have q2 : (m : Int) + 16 ≤ (cap : Int) := by omega
      have q3 : ¬ cap = m := by omega
      have q4 : (m : Int) ≤ max ((m : Int) + 16) 0 := by omega
      have q5 : ((m : Int) + 16).toNat - m = 16 := by omega
      clear hm hcl
      go_wp2_with fail
      refine hN.mono ?_
      rintro e w5 ⟨rfl, h5⟩
      have HCw5 : Hid (Chg 0 0 w w5) := HC.out.trans h5
      have HBrw5 : Hid (w5.heap[w.heap.size]? = some (.cells #[.bool false, .slice none 0 0] 25 (0, 0))) := (h5.block _ (by omega) (by omega)).trans HBr.out
      have HBow5 : Hid (w5.heap[w.heap.size + 1]? = some (.cells #[.bool true, v] 25 (0, 0))) := (h5.block _ (by omega) (by omega)).trans HBo.out
      have HEw5 : Hid (OwnE w5 (w.heap.size + 2) 34 v (entsTo xs k)) := HE.out.chg h5 (by intro g _; omega)
      have s5 := h5.size
      have HOk : Hid (okAt xs k = (entG (recAt xs k) && decide (findD (entsTo xs k) (entAt xs k).2 < 0))) := rfl
      have HEnt : Hid (entAt xs k = (eQ (recAt xs k), eS (recAt xs k))) := rfl
      clear hN h5 HE HC HBr HBo q1 q2 q3 q4 q5 HVk HByk
      rcases decEnt_cases (recAt xs k) with ⟨hg, hd⟩ | ⟨hg, hd⟩
      · rw [hd]
        clear hd
        generalize eQ (recAt xs k) = qq at *
        generalize eS (recAt xs k) = ss at *
        have Ca : Chg 0 0 w5 (w5.alloc (.cells #[.bool true, .int .i64 qq, .string ss] 36)) := Chg.alloc (Chg.refl 0 0 w5) _
        have HCwa : Hid (Chg 0 0 w (w5.alloc (.cells #[.bool true, .int .i64 qq, .string ss] 36))) := HCw5.out.trans Ca
        have HBrwa : Hid ((w5.alloc (.cells #[.bool true, .int .i64 qq, .string ss] 36)).heap[w.heap.size]? = some (.cells #[.bool false, .slice none 0 0] 25 (0, 0))) := (Ca.block _ (by omega) (by omega)).trans HBrw5.out
        have HBowa : Hid ((w5.alloc (.cells #[.bool true, .int .i64 qq, .string ss] 36)).heap[w.heap.size + 1]? = some (.cells #[.bool true, v] 25 (0, 0))) := (Ca.block _ (by omega) (by omega)).trans HBow5.out
        have HEwa : Hid (OwnE (w5.alloc (.cells #[.bool true, .int .i64 qq, .string ss] 36)) (w.heap.size + 2) 34 v (entsTo xs k)) := HEw5.out.chg Ca (by intro g _; omega)
        have HXwa : Hid ((w5.alloc (.cells #[.bool true, .int .i64 qq, .string ss] 36)).heap[w5.heap.size]? = some (.cells #[.bool true, .int .i64 qq, .string ss] 36 (0, 0))) := heap_new w5 _
        have sa : (w5.alloc (.cells #[.bool true, .int .i64 qq, .string ss] 36)).heap.size = w5.heap.size + 1 := by simp
        obtain ⟨⟨x0, x1, x2⟩, _⟩ := three_all HXwa.out
        obtain ⟨y0, y1, _⟩ := two_cells HBowa.out
        obtain ⟨va, vc, rfl⟩ := HEw5.out.sl
        have hF := specDirFind_calls (w5.alloc (.cells #[.bool true, .int .i64 qq, .string ss] 36)) ss (by rw [entsTo_len]; omega) (HEwa.out.view (by rw [entsTo_len]; omega) (hi := (w5.alloc (.cells #[.bool true, .int .i64 qq, .string ss] 36)).heap.size) (fun g hg => (HEwa.out.lt g hg).2))
        clear Ca HCw5 HBrw5 HBow5 HEw5
        go_wp2_with fail
        generalize w5.alloc (.cells #[.bool true, .int .i64 qq, .string ss] 36) = wa at *
        refine hF.mono ?_
        rintro e w6 ⟨rfl, h6⟩
        have HCw6 : Hid (Chg 0 0 w w6) := HCwa.out.trans h6
        have HBrw6 : Hid (w6.heap[w.heap.size]? = some (.cells #[.bool false, .slice none 0 0] 25 (0, 0))) := (h6.block _ (by omega) (by omega)).trans HBrwa.out
        have HBow6 : Hid (w6.heap[w.heap.size + 1]? = some (.cells #[.bool true, (.slice va (entsTo xs k).length vc)] 25 (0, 0))) := (h6.block _ (by omega) (by omega)).trans HBowa.out
        have HEw6 : Hid (OwnE w6 (w.heap.size + 2) 34 (.slice va (entsTo xs k).length vc) (entsTo xs k)) := HEwa.out.chg h6 (by intro g _; omega)
        have HXw6 : Hid (w6.heap[w5.heap.size]? = some (.cells #[.bool true, .int .i64 qq, .string ss] 36 (0, 0))) := (h6.block _ (by omega) (by omega)).trans HXwa.out
        have s6 := h6.size
        clear hF h6 x0 x1 x2 y0 y1 HCwa HBrwa HBowa HEwa HXwa
        by_cases hf : findD (entsTo xs k) ss < 0
        · have HGood : Hid (okAt xs k = true) := by show _ = _; rw [HOk.out, HEnt.out, hg, decide_eq_true hf]; rfl
          have hnf : ¬ (0 : Int) ≤ findD (entsTo xs k) ss := by omega
          have HTo : Hid (entsTo xs (k + 1) = entsTo xs k ++ [(qq, ss)]) := by show _ = _; rw [entsTo_succ, HEnt.out]
          obtain ⟨⟨x0, x1, x2⟩, _⟩ := three_all HXw6.out
          obtain ⟨y0, y1, y2, y3⟩ := two_cells HBow6.out
          have cb : Chg 0 0 w6 (w6.alloc (.cells #[.int .i64 qq, .string ss] 34)) := Chg.alloc (Chg.refl 0 0 w6) _
          have HEb : Hid (OwnE (w6.alloc (.cells #[.int .i64 qq, .string ss] 34)) (w.heap.size + 2) 34 (.slice va (entsTo xs k).length vc) (entsTo xs k)) := HEw6.out.chg cb (by intro g _; omega)
          have HCb : Hid (Chg 0 0 w (w6.alloc (.cells #[.int .i64 qq, .string ss] 34))) := HCw6.out.trans cb
          have HRb : Hid ((w6.alloc (.cells #[.int .i64 qq, .string ss] 34)).heap[w.heap.size]? = some (.cells #[.bool false, .slice none 0 0] 25 (0, 0))) := (cb.block _ (by omega) (by omega)).trans HBrw6.out
          have HOb : Hid ((w6.alloc (.cells #[.int .i64 qq, .string ss] 34)).heap[w.heap.size + 1]? = some (.cells #[.bool true, (.slice va (entsTo xs k).length vc)] 25 (0, 0))) := (cb.block _ (by omega) (by omega)).trans HBow6.out
          have HAb : Hid (EAt (w6.alloc (.cells #[.int .i64 qq, .string ss] 34)) w6.heap.size 0 (qq, ss)) := by
            have hh := heap_new w6 (.cells #[.int .i64 qq, .string ss] 34)
            constructor
            · simp only [World.cell?, hh]; rfl
            · simp only [World.cell?, hh]; rfl
          have sb : (w6.alloc (.cells #[.int .i64 qq, .string ss] 34)).heap.size = w6.heap.size + 1 := by simp
          clear hf hg cb HCw6 HBrw6 HBow6 HEw6 HXw6
          go_wp2_with (at_builtin; refine wpList_app_ent rfl _ _ rfl (w.heap.size + 2) _ (entsTo xs k) rfl HEb.out w6.heap.size 1 (qq, ss) rfl HAb.out (by rw [entsTo_len]; omega) (by omega) ?_)
          intro v' w8 g8 cp8 hv8 ho8 hc8
          subst hv8
          have HRo : Hid (w8.heap[w.heap.size]? = some (.cells #[.bool false, .slice none 0 0] 25 (0, 0)) ∧ w8.heap[w.heap.size + 1]? = some (.cells #[.bool true, (.slice va (entsTo xs k).length vc)] 25 (0, 0))) := ⟨(hc8.block _ (by omega) (by omega)).trans HRb.out, (hc8.block _ (by omega) (by omega)).trans HOb.out⟩
          have HC8 : Hid (Chg 0 0 w w8) := HCb.out.step hc8 (by omega)
          have s8 := hc8.size
          have HE8 : Hid (OwnE w8 (w.heap.size + 2) 34 (.slice (some ⟨g8, 0, none⟩) ((entsTo xs k).length + 1) cp8) (entsTo xs (k + 1))) := by rw [HTo.out]; exact ho8
          obtain ⟨u0, u1, u2, u3⟩ := two_cells HRo.out.2
          have cc : ∀ u : Value, Chg (w.heap.size + 1) (w.heap.size + 2) w8 (w8.setCell ⟨w.heap.size + 1, 1, none⟩ u) := fun u => Chg.setCell (p := ⟨w.heap.size + 1, 1, none⟩) (Chg.refl (w.heap.size + 1) (w.heap.size + 2) w8) (Or.inl ⟨by show w.heap.size + 1 ≤ w.heap.size + 1; omega, by show w.heap.size + 1 < w.heap.size + 2; omega⟩) u
          have HFin : Hid (∀ u : Value, OwnE (w8.setCell ⟨w.heap.size + 1, 1, none⟩ u) (w.heap.size + 2) 34 (.slice (some ⟨g8, 0, none⟩) ((entsTo xs k).length + 1) cp8) (entsTo xs (k + 1)) ∧ Chg 0 0 w (w8.setCell ⟨w.heap.size + 1, 1, none⟩ u) ∧ w.heap.size + 2 ≤ (w8.setCell ⟨w.heap.size + 1, 1, none⟩ u).heap.size ∧ (w8.setCell ⟨w.heap.size + 1, 1, none⟩ u).heap[w.heap.size]? = some (.cells #[.bool false, .slice none 0 0] 25 (0, 0)) ∧ (w8.setCell ⟨w.heap.size + 1, 1, none⟩ u).heap[w.heap.size + 1]? = some (.cells #[.bool true, u] 25 (0, 0))) := fun u => by
            refine ⟨HE8.out.chg (cc u) (fun g hg => by have := (HE8.out.lt g hg).1; omega), HC8.out.step (cc u) (by omega), by have := (cc u).size; omega, ((cc u).block _ (by omega) (by omega)).trans HRo.out.1, ?_⟩
            simp [World.setCell, Array.getElem?_modify, HRo.out.2]
          clear cc ho8 hc8 HRo HEb HAb HCb HRb HOb x0 x1 x2 y0 y1 y2 y3
          go_wp2
          go_roundw
          case rel =>
            have hmm := Hm.out
            obtain ⟨w1', w2', w3', w4', w5'⟩ := HFin.out (.slice (some ⟨g8, 0, none⟩) ((entsTo xs k).length + 1) cp8)
            refine ⟨k + 1, _, by omega, ?_, fun j hj => ?_, w1', w2', w3', w4', w5'⟩
            · show Value.int .i64 ((m : Int) + 16) = _
              congr 1
              omega
            · by_cases e : j < k
              · exact HAll.out j e
              · obtain rfl : j = k := by omega
                exact HGood.out
          case measure => simp [intOf]; omega
        · rw [Int.not_lt] at hf
          have HG : Hid (dirG xs = false) := dirG_false (fun h => by have := h.2.2 k (by have := Hm.out; omega); rw [HOk.out, HEnt.out, decide_eq_false (by simpa using hf), Bool.and_false] at this; cases this)
          obtain ⟨z1, z2, f1, f2⟩ := two_cells HBrw6.out
          have HCs : Hid (∀ u0 u1 : Value, Chg 0 0 w ((w6.setCell ⟨w.heap.size, 0, none⟩ u0).setCell ⟨w.heap.size, 1, none⟩ u1)) := fun u0 u1 => by
            refine HCw6.out.step (l := w.heap.size) (r := w.heap.size + 1) ?_ (Or.inr (Or.inl (Nat.le_refl _)))
            refine Chg.setCell (Chg.setCell (Chg.refl _ _ _) ?_ _) ?_ _ <;> exact Or.inl ⟨Nat.le_refl _, Nat.lt_succ_self _⟩
          go_wp2
          exact bodyPost_ret (v := .agg #[.bool false, .slice none 0 0]) (by simp [results, Try.results4, go_sem, *]) rfl ⟨_, by rw [HG.out], HNo.out HG.out _ (HCs.out _ _), HCs.out _ _⟩
      · rw [hd]
        clear hd
        have Ca : Chg 0 0 w5 (w5.alloc (.cells #[.bool false, .int .i64 0, .string ⟨#[]⟩] 36)) := Chg.alloc (Chg.refl 0 0 w5) _
        have HCwa : Hid (Chg 0 0 w (w5.alloc (.cells #[.bool false, .int .i64 0, .string ⟨#[]⟩] 36))) := HCw5.out.trans Ca
        have HBrwa : Hid ((w5.alloc (.cells #[.bool false, .int .i64 0, .string ⟨#[]⟩] 36)).heap[w.heap.size]? = some (.cells #[.bool false, .slice none 0 0] 25 (0, 0))) := (Ca.block _ (by omega) (by omega)).trans HBrw5.out
        have HXwa : Hid ((w5.alloc (.cells #[.bool false, .int .i64 0, .string ⟨#[]⟩] 36)).heap[w5.heap.size]? = some (.cells #[.bool false, .int .i64 0, .string ⟨#[]⟩] 36 (0, 0))) := heap_new w5 _
        obtain ⟨⟨x0, x1, x2⟩, _⟩ := three_all HXwa.out
        clear Ca HCw5 HBrw5 HBow5 HEw5
        have HG : Hid (dirG xs = false) := dirG_false (fun h => by have := h.2.2 k (by have := Hm.out; omega); rw [HOk.out, hg, Bool.false_and] at this; cases this)
        obtain ⟨z1, z2, f1, f2⟩ := two_cells HBrwa.out
        have HCs : Hid (∀ u0 u1 : Value, Chg 0 0 w (((w5.alloc (.cells #[.bool false, .int .i64 0, .string ⟨#[]⟩] 36)).setCell ⟨w.heap.size, 0, none⟩ u0).setCell ⟨w.heap.size, 1, none⟩ u1)) := fun u0 u1 => by
          refine HCwa.out.step (l := w.heap.size) (r := w.heap.size + 1) ?_ (Or.inr (Or.inl (Nat.le_refl _)))
          refine Chg.setCell (Chg.setCell (Chg.refl _ _ _) ?_ _) ?_ _ <;> exact Or.inl ⟨Nat.le_refl _, Nat.lt_succ_self _⟩
        clear hg
        go_wp2
        exact bodyPost_ret (v := .agg #[.bool false, .slice none 0 0]) (by simp [results, Try.results4, go_sem, *]) rfl ⟨_, by rw [HG.out], HNo.out HG.out _ (HCs.out _ _), HCs.out _ _⟩
    · obtain ⟨va, vc, rfl⟩ := HE.out.sl
      have hmm := H1.out
      have hk16 : xs.length / 16 = k := by omega
      have HG : Hid (dirG xs = true) := dirG_iff.2 ⟨by omega, by omega, fun j hj => HAll.out j (by omega)⟩
      have HDE : Hid (dirE xs = entsTo xs k) := by show _ = _; unfold dirE; rw [if_pos HG.out, hk16]
      have hni : ¬ ((16 * k : Nat) : Int) < (xs.length : Int) := by omega
      obtain ⟨z1, z2, f1, f2⟩ := two_cells HBr.out
      obtain ⟨y0, y1, _⟩ := two_cells HBo.out
      have HCs : Hid (∀ u0 u1 : Value, OwnE ((wr.setCell ⟨w.heap.size, 0, none⟩ u0).setCell ⟨w.heap.size, 1, none⟩ u1) w.heap.size 34 (.slice va (entsTo xs k).length vc) (dirE xs) ∧ Chg 0 0 w ((wr.setCell ⟨w.heap.size, 0, none⟩ u0).setCell ⟨w.heap.size, 1, none⟩ u1)) := fun u0 u1 => by
        have c1 : Chg w.heap.size (w.heap.size + 1) wr ((wr.setCell ⟨w.heap.size, 0, none⟩ u0).setCell ⟨w.heap.size, 1, none⟩ u1) := by
          refine Chg.setCell (Chg.setCell (Chg.refl _ _ _) ?_ _) ?_ _ <;> exact Or.inl ⟨Nat.le_refl _, Nat.lt_succ_self _⟩
        refine ⟨?_, HC.out.step c1 (Or.inr (Or.inl (Nat.le_refl _)))⟩
        rw [HDE.out]
        have := HE.out.chg c1 (fun g hg => by have := (HE.out.lt g hg).1; omega)
        obtain ⟨r1, r2⟩ := this
        refine ⟨r1, ?_⟩
        rcases r2 with r2 | ⟨g, cp, cur, hv, hg, r⟩
        · exact Or.inl r2
        · exact Or.inr ⟨g, cp, cur, hv, by omega, r⟩
      clear hmm hk16
      go_wp2
      exact bodyPost_ret (v := .agg #[.bool true, .slice va (entsTo xs k).length vc]) (by simp [results, Try.results4, go_sem, *]) rfl ⟨_, by rw [HG.out], HCs.out _ _⟩

end Go.Proofs.Ytilnlphkkbflaaa
