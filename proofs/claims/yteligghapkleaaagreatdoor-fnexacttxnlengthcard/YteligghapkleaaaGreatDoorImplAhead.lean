/- The blocks of a transaction ahead of its commit block, of the program: as a function to range over. -/
import Derived.Test.YteligghapkleaaaGreatDoorJIdx
import Derived.Test.YteligghapkleaaaGreatDoorMagC
import Derived.Test.YteligghapkleaaaGreatDoorSmall
import Derived.Test.YteligghapkleaaaGreatDoorJDescr
import Derived.Test.YteligghapkleaaaGreatDoorImplDes
namespace Go.Proofs.YteligghapkleaaaGreatDoor
open Go.RowKit Go.Shelf
attribute [local go_sem] Oper.semAt_some

theorem OnlyN.mk {Q : Exit → Act → World → Prop} {a : Act} {w : World} (h : Q .normal a w) : OnlyN Q .normal a w := h
theorem drewG (V : World) : V.grownBy V.drew none := ⟨rfl, rfl, rfl, Nat.le_refl _, fun _ _ _ => rfl⟩
/-- A block. -/
def encA (bs : List (List Int)) (x : Fin bs.length) : Array Value := #[.agg ((bs.getD x.val []).map (Value.int .u8)).toArray]
/-- What rounds of the program keep. -/
def KA (Bt lo hi : Nat) : Nat → Prop := (fun k => k = Bt ∨ (lo ≤ k ∧ k < hi) ∨ k = 0)

theorem flat_cell {bs : List (List Int)} (h : ∀ b ∈ bs, b.length = 64) {k j : Nat} {v : Value} (hk : k < bs.length) (hj : ((bs.getD k []).map (Value.int .u8))[j]? = some v) : (bs.flatten.map (Value.int .u8))[k * 64 + j]? = some v := by
  induction bs generalizing k with
  | nil => simp at hk
  | cons b r ih =>
    have hb := h b (by simp)
    cases k with
    | zero =>
      have hj' : (b.map (Value.int .u8))[j]? = some v := by simpa using hj
      have hjl : j < b.length := by have := (List.getElem?_eq_some_iff.1 hj').1; simpa using this
      rw [List.flatten_cons, List.map_append, Nat.zero_mul, Nat.zero_add, List.getElem?_append_left (by simpa using hjl)]
      exact hj'
    | succ k =>
      rw [List.flatten_cons, List.map_append, List.getElem?_append_right (by rw [List.length_map, hb]; omega), List.length_map, hb, show (k + 1) * 64 + j - 64 = k * 64 + j by omega]
      exact ih (fun x hx => h x (by simp [hx])) (by simpa using hk) (by simpa using hj)

/-- Places of revoke blocks; of the blocks of a piece of homes. -/
def up1 {q : Int} {hs : List Wr} {rs : List Int} (x : Fin (pcN rs.length 26)) : Fin (BL q hs rs).length := ⟨x.val, by rw [BL_len]; have := x.isLt; omega⟩
def upJ {q : Int} {hs : List Wr} {rs : List Int} (x : Fin (pcN hs.length 17)) (j : Fin (pcE hs.length 17 x.val - 17 * x.val + 1)) : Fin (BL q hs rs).length :=
  ⟨pcN rs.length 26 + 18 * x.val + j.val, by rw [BL_len]; exact idx_lt x.isLt (by have := j.isLt; omega)⟩
def up2 {q : Int} {hs : List Wr} {rs : List Int} (x : Fin (pcN hs.length 17)) : List (Fin (BL q hs rs).length) := (List.finRange (pcE hs.length 17 x.val - 17 * x.val + 1)).map (upJ (q := q) (rs := rs) x)
theorem up1_val {q : Int} {hs : List Wr} {rs : List Int} (pre : List (Fin (pcN rs.length 26))) : (pre.map (up1 (q := q) (hs := hs))).map Fin.val = pre.map Fin.val := by
  rw [List.map_map]; rfl
theorem up2_val {q : Int} {hs : List Wr} {rs : List Int} (x : Fin (pcN hs.length 17)) : (up2 (q := q) (rs := rs) x).map Fin.val = plc (pcN rs.length 26) hs.length x.val := by
  unfold up2 plc
  rw [List.map_map]
  apply List.ext_getElem
  · simp
  · intro i h1 h2
    simp [upJ]
theorem up2_take {q : Int} {hs : List Wr} {rs : List Int} (x : Fin (pcN hs.length 17)) {k : Nat} (h : k < pcE hs.length 17 x.val - 17 * x.val + 1) : (up2 (q := q) (rs := rs) x).take (k + 1) = (up2 x).take k ++ [upJ x ⟨k, h⟩] := by
  have e : (up2 (q := q) (rs := rs) x)[k]? = some (upJ x ⟨k, h⟩) := by
    unfold up2
    rw [List.getElem?_map, List.getElem?_eq_getElem (by simpa using h)]
    simp
  rw [List.take_add_one, e]; rfl
theorem flat_le {q : Int} {hs : List Wr} {rs : List Int} (pre : List (Fin (pcN hs.length 17))) : (pre.flatMap (up2 (q := q) (rs := rs))).length ≤ 18 * pre.length := by
  induction pre with
  | nil => simp
  | cons x r ih =>
    have : (up2 (q := q) (rs := rs) x).length ≤ 18 := by unfold up2; rw [List.length_map, List.length_finRange]; have := pcE_le (L := hs.length) (m := 17) (x := x.val); omega
    rw [List.flatMap_cons, List.length_append, List.length_cons]; omega
theorem flat_val {q : Int} {hs : List Wr} {rs : List Int} (pre : List (Fin (pcN hs.length 17))) : (pre.flatMap (up2 (q := q) (rs := rs))).map Fin.val = (pre.map Fin.val).flatMap (plc (pcN rs.length 26) hs.length) := by
  induction pre with
  | nil => rfl
  | cons x r ih => rw [List.flatMap_cons, List.map_append, up2_val, ih, List.map_cons, List.flatMap_cons]
theorem chg_grown {V V' : World} {l : Nat} (c : Chg l l V V') : V.grownBy V' none := ⟨c.os, c.tape, c.output, c.size, fun k hk _ => c.block k hk (by omega)⟩

/-- What the first loop keeps; the second one. -/
def ahI (W : World) (l Bt lo hi : Nat) (ao : Option Addr) (cap : Nat) {q : Int} {hs : List Wr} {rs : List Int} (J : List (Fin (BL q hs rs).length) → World → Prop) (pre : List (Fin (pcN rs.length 26))) (V : World) : Prop :=
  J (pre.map up1) V ∧ V.heap[W.heap.size]? = some (.cells #[.func (.yield l) #[] #[]] 116 (0, 0)) ∧ KeepS (KA Bt lo hi) W V ∧ (V.heap[W.heap.size + 1]? = some (.cells #[.slice ao rs.length cap] 23 (0, 0)) ∧ V.heap[W.heap.size + 1 + 1]? = some (.cells #[.int .i64 26] 3 (0, 0)))
def ahX {q : Int} {hs : List Wr} {rs : List Int} (Jx : List (Fin (BL q hs rs).length) → World → Prop) (c : Code) (pre : List (Fin (pcN rs.length 26))) (V : World) : Prop := c = .ret ∧ Jx (pre.map up1) V

def ahI2 (W V1 : World) (l Bt lo hi D : Nat) (po : Option Addr) (pcap : Nat) {q : Int} {hs : List Wr} {rs : List Int} (zs : List (Fin (BL q hs rs).length)) (J : List (Fin (BL q hs rs).length) → World → Prop) (pre : List (Fin (pcN hs.length 17))) (V : World) : Prop :=
  J (zs ++ pre.flatMap up2) V ∧ V.heap[W.heap.size]? = some (.cells #[.func (.yield l) #[] #[]] 116 (0, 0)) ∧ KeepS (KA Bt lo hi) W V ∧ V.heap[V1.heap.size]? = some (.cells #[.slice po hs.length pcap] 28 (0, 0)) ∧ V.heap[V1.heap.size + 1]? = some (.cells #[.int .i64 17] 3 (0, 0)) ∧ V.heap[D]? = some (.deferred (some []))
def ahX2 (D : Nat) {q : Int} {hs : List Wr} {rs : List Int} (zs : List (Fin (BL q hs rs).length)) (Jx : List (Fin (BL q hs rs).length) → World → Prop) (c : Code) (pre : List (Fin (pcN hs.length 17))) (V : World) : Prop :=
  c = .ret ∧ (∃ pre' x k, pre = pre' ++ [x] ∧ k ≤ pcE hs.length 17 x.val - 17 * x.val + 1 ∧ Jx (zs ++ pre'.flatMap up2 ++ (up2 x).take k) V) ∧ V.heap[D]? = some (.deferred (some []))

set_option maxRecDepth 100000 in
set_option maxHeartbeats 4000000 in
theorem ahead_seq (Bt lo hi : Nat) (q : Int) (hs : List Wr) (rs : List Int) (hv rv : Value) (w : World) (hok : OkT q hs rs) (hn : hs.length + rs.length ≤ 128) (hM : Mag w) (hBt : w.heap[Bt]? = some (.cells #[.int .i64 q, hv, rv] 30 (0, 0)))
    (h1 : PView w lo hi hv hs) (h2 : View w lo hi .i64 rv rs) (hhi : hi ≤ w.heap.size) :
    SeqT Tryz.prog 55 #[.pointer (some ⟨Bt, 0, none⟩)] (encA (BL q hs rs)) (KpT (KA Bt lo hi))
      (fun zs => zs.map Fin.val = List.range (BL q hs rs).length) (fun zs => zs.map Fin.val = List.range zs.length) (pcN rs.length 26 + 18 * pcN hs.length 17) w := fun l J Jx W hW hJ hJx hY h0 => by
  have hBtl : Bt < w.heap.size := (Array.getElem?_eq_some_iff.1 hBt).1
  have hMl := hM.lt
  have hszW := hW.size
  have hKA : ∀ k, KA Bt lo hi k → k < W.heap.size := fun k hk => by unfold KA at hk; omega
  have HBt : Hid (∀ V, KeepS (KA Bt lo hi) W V → V.heap[Bt]? = some (.cells #[.int .i64 q, hv, rv] 30 (0, 0))) := fun V h => (h Bt (Or.inl rfl)).trans ((hW.block Bt hBtl).trans hBt)
  have HP : Hid (∀ V, KeepS (KA Bt lo hi) W V → PView V lo hi hv hs) := fun V h => h1.keep (fun b hb1 hb2 => (h b (Or.inr (Or.inl ⟨hb1, hb2⟩))).trans (hW.block b (by omega)))
  have HR : Hid (∀ V, KeepS (KA Bt lo hi) W V → View V lo hi .i64 rv rs) := fun V h => h2.keep (fun b hb1 hb2 => (h b (Or.inr (Or.inl ⟨hb1, hb2⟩))).trans (hW.block b (by omega)))
  have HM : Hid (∀ V, KeepS (KA Bt lo hi) W V → Mag V) := fun V h => by
    have hb := (h 0 (Or.inr (Or.inr rfl))).trans (hW.block _ hMl)
    exact ⟨(World.cell?_of_block (a := ⟨0, 0, none⟩) hb).trans hM.m0, (World.cell?_of_block (a := ⟨0, 1, none⟩) hb).trans hM.m1, (World.cell?_of_block (a := ⟨0, 2, none⟩) hb).trans hM.m2, (World.cell?_of_block (a := ⟨0, 3, none⟩) hb).trans hM.m3⟩
  have K0 : KeepS (KA Bt lo hi) W W := fun _ _ => rfl
  obtain ⟨po, pcap, rfl⟩ := h1.slice
  obtain ⟨ao, cap, rfl⟩ := h2.slice
  have hBW := HBt.out W K0
  obtain ⟨⟨t0, t1, t2⟩, _⟩ := tri hBW
  clear hM hBt h1 h2 hMl hBtl
  have cA : Chg 0 0 W (W.alloc (.cells #[.func (.yield l) #[] #[]] 116)) := Chg.alloc (Chg.refl 0 0 W) _
  have zY := heap_new W (.cells #[.func (.yield l) #[] #[]] 116)
  have sA : (W.alloc (.cells #[.func (.yield l) #[] #[]] 116)).heap.size = W.heap.size + 1 := by simp
  have d2 := cA.cell t2 (by have := lt_of_cell t2; omega)
  refine callsIn_of_wp_marks Tryz.func55 rfl trivial ?_ rfl
  simp only [Tryz.ntmps55, List.size_toArray, List.length_cons, List.length_nil, Nat.reduceAdd, Nat.reduceSub, Array.replicate_succ, Array.replicate_zero, List.push_toArray, List.append_toArray, List.nil_append, List.cons_append]
  gi_wp2
  refine ⟨trivial, rfl, (callsIn_wide.2 (piecesI_calls _ _ _ _ _)).mono ?_⟩
  rintro e w1 ⟨rfl, rfl⟩
  clear d2
  generalize W.alloc (.cells #[.func (.yield l) #[] #[]] 116) = wA at *
  obtain ⟨y1, y2, y3⟩ := alloc2 wA (.cells #[.slice ao rs.length cap] 23) (.cells #[.int .i64 26] 3)
  have cB : Chg 0 0 wA ((wA.alloc (.cells #[.slice ao rs.length cap] 23)).alloc (.cells #[.int .i64 26] 3)) := (Chg.alloc (Chg.refl 0 0 wA) _).alloc _
  have zY' := (cB.block _ (by omega) (by omega)).trans zY
  have cAB := cA.trans cB
  rw [sA] at y1 y2 y3 ⊢
  generalize (wA.alloc (.cells #[.slice ao rs.length cap] 23)).alloc (.cells #[.int .i64 26] 3) = wB at *
  clear zY cA cB sA
  gi_wp2
  obtain ⟨b, off, hao⟩ : ∃ b off, 0 < rs.length → ao = some ⟨b, off, none⟩ := by
    obtain ⟨ao', cap', e, _, _, h⟩ := HR.out W K0
    cases e
    rcases h with h | ⟨b, off, h, _⟩
    · exact ⟨0, 0, fun hp => by rw [h] at hp; simp at hp⟩
    · exact ⟨b, off, fun _ => h⟩
  have hrc : rs.length ≤ cap := by
    obtain ⟨ao', cap', e, _, ⟨h, _⟩, _⟩ := HR.out W K0
    cases e
    exact h
  refine range_ownT (n := 0) (gf := 69) (lb := #[.pointer (some ⟨W.heap.size + 1, 0, none⟩), .pointer (some ⟨W.heap.size + 1 + 1, 0, none⟩)]) rfl (enters_of Tryz.func69 (by kernel_rfl) rfl)
    (piecesI_seq (W.heap.size + 1) (W.heap.size + 1 + 1) b off cap rs.length ao wB (by omega) hrc hao (Boxed.cell y2) (Boxed.cell y3)) (fun h => h) (Below.refl _ _) (fun _ => rfl) KeepS.trans (fun V o _ _ k hk => World.putObj_heap_other (by omega))
    (ahI W l Bt lo hi ao cap J) (ahX Jx)
    ?hI ?hIx ?h0 (fun x a' V => a' = { tmps := #[.func (.yield l) #[] #[], .pointer (some ⟨Bt, 0, none⟩), .pointer (some ⟨W.heap.size, 0, none⟩), .slice (some ⟨b, off + 26 * x.val, none⟩) (pcE rs.length 26 x.val - 26 * x.val) (cap - 26 * x.val), undef, undef, undef, .pointer (some ⟨Bt, 2, none⟩), .slice ao rs.length cap, .func (.func 69) #[] #[.pointer (some ⟨W.heap.size + 1, 0, none⟩), .pointer (some ⟨W.heap.size + 1 + 1, 0, none⟩)], .slice (some ⟨b, off + 26 * x.val, none⟩) (pcE rs.length 26 x.val - 26 * x.val) (cap - 26 * x.val), undef, undef, undef, undef, undef, undef, undef, undef, undef, undef, undef, undef, undef, undef, undef, undef, undef, undef, undef, undef, undef, undef, undef, undef, undef, undef, undef], defers := [] })
    (fun x a' _ _ _ _ hs _ _ => hs) ?assign ?body ?done ?stop
  case hI =>
    exact fun s A C row hs' hg hr => by
      obtain ⟨h2, h3, h5, h6, h7⟩ := hs'
      have hne : ∀ k, k < W.heap.size + 3 → some k ≠ row := fun k hk e => by have := (hr _ e.symm).1; omega
      refine ⟨hJ _ A C row h2 hg (fun r e => ⟨by have := (hr r e).1; omega, (hr r e).2⟩), (hg.block _ (Array.getElem?_eq_some_iff.1 h3).1 (hne _ (by omega))).trans h3, ?_, (hg.block _ (Array.getElem?_eq_some_iff.1 h6).1 (hne _ (by omega))).trans h6, (hg.block _ (Array.getElem?_eq_some_iff.1 h7).1 (hne _ (by omega))).trans h7⟩
      intro k hk
      have hkl := hKA k hk
      exact (hg.block k (by have := (Array.getElem?_eq_some_iff.1 h3).1; omega) (hne _ (by omega))).trans (h5 k hk)
  case hIx =>
    exact fun c s A C row hs' hg hr => by
      obtain ⟨h1, h2⟩ := hs'
      exact ⟨h1, hJx _ A C row h2 hg (fun r e => ⟨by have := (hr r e).1; omega, (hr r e).2⟩)⟩
  case h0 =>
    intro V hV hsz
    refine ⟨h0 V ((cAB.below (Or.inl (Nat.le_refl _))).trans (hV.mono (by omega))), (hV.block _ (by omega)).trans zY', ?_, (hV.block _ (by omega)).trans y2, (hV.block _ (by omega)).trans y3⟩
    intro k hk
    have hkl := hKA k hk
    exact (hV.block k (by omega)).trans (cAB.block k hkl (by omega))
  case assign =>
    rintro l' pre x V K' hMV hrc hi' hK
    simp only [encPi]
    gi_wp2
    exact hK _ _ (Keep2.refl _ _) (fun _ _ => rfl) hi' rfl
  case body =>
    rintro l' pre x a' V hMV ⟨r0, hrc⟩ ⟨hJz, e1, e3, e6, e7⟩ rfl hlen
    have hmx : Tryz.prog.follows .mixedOrders = true := by kernel_rfl
    have hx0 := pc_lt (m := 26) (by omega) x.isLt
    have hxe : pcE rs.length 26 x.val - 26 * x.val ≤ 26 := pcE_le
    have hxp : 1 ≤ pcE rs.length 26 x.val - 26 * x.val := by unfold pcE; omega
    have hpl := pcE_len 26 x.val rs
    have hBL := BL_rev_at q hs rs x.isLt
    obtain ⟨ps, hps⟩ : ∃ ps, ps = (rs.drop (26 * x.val)).take 26 := ⟨_, rfl⟩
    rw [← hps] at hpl hBL
    obtain ⟨N, hN⟩ : ∃ N, N = pcE rs.length 26 x.val - 26 * x.val := ⟨_, rfl⟩
    rw [← hN] at hxe hxp hpl ⊢
    obtain rfl := hao (by omega)
    have HCell : Hid (∀ V', KeepS (KA Bt lo hi) W V' → ∀ i, i < ps.length → V'.cell? ⟨b, off + 26 * x.val + i, none⟩ = some (.int .i64 (ps.getD i 0))) := fun V' hk i hi0 => by
      obtain ⟨ao', cap', e, _, _, h⟩ := HR.out V' hk
      cases e
      rcases h with h | ⟨b', off', h, _, _, h3⟩
      · have hl0 : rs.length = 0 := by rw [h]; rfl
        omega
      · cases h
        have hil : 26 * x.val + i < rs.length := by
          rw [hps, List.length_take, List.length_drop] at hi0; omega
        have e : ps.getD i 0 = rs.getD (26 * x.val + i) 0 := by
          rw [hps, List.length_take, List.length_drop] at hi0
          rw [hps]
          simp only [List.getD_eq_getElem?_getD, List.getElem?_take, List.getElem?_drop]
          rw [if_pos (by omega)]
        rw [e, Nat.add_assoc]
        exact h3 _ hil
    have HIn : Hid (∀ y ∈ ps, 0 ≤ y ∧ y < 2048) := fun y hy => hok.rev.bound (Nat.le_refl _) y (by rw [hps] at hy; exact List.mem_of_mem_drop (List.mem_of_mem_take hy))
    have q0 := hok.q0
    have q1 := hok.q1
    have HpL : Hid _ := hpl
    have HBL : Hid _ := hBL
    have S0 : V.drew.heap[W.heap.size]? = some (.cells #[.func (.yield l) #[] #[]] 116 (0, 0)) := e1
    have cd : Chg 0 0 V V.drew := Chg.drew (Chg.refl 0 0 V)
    have kd : KeepS (KA Bt lo hi) W V.drew := e3
    have HS : Hid (_ ∧ _) := ⟨S0, (tri (HBt.out _ kd)).1.1⟩
    have hlt0 := (Array.getElem?_eq_some_iff.1 S0).1
    have hsV : V.drew.heap.size = V.heap.size := rfl
    clear hps hpl hBL hN S0
    gi_wp2
    refine heldR_region (fun w' : World => w'.heap[W.heap.size]? = some (.cells #[.func (.yield l) #[] #[]] 116 (0, 0)) ∧ w'.cell? ⟨Bt, 0, none⟩ = some (.int .i64 q)) hmx ?_
    generalize V.drew = X at *
    refine heldR_take 0 (.func (.yield l) #[] #[]) rfl (by kernel_rfl) (by kernel_rfl) (by kernel_rfl) (by kernel_rfl) (fun _ _ _ h => h) (.inl ⟨by kernel_rfl, fun w' hw' => by have q1 := Boxed.cell hw'.1; go_simp⟩) HS.out ?_
    go_simp
    refine heldR_take 1 (.pointer (some ⟨Bt, 0, none⟩)) rfl (by kernel_rfl) (by kernel_rfl) (by kernel_rfl) (by kernel_rfl) (fun _ _ _ h => h) (.inl ⟨by kernel_rfl, fun w' hw' => by go_simp⟩) HS.out ?_
    go_simp
    refine heldR_take 2 (.int .i64 q) rfl (by kernel_rfl) (by kernel_rfl) (by kernel_rfl) (by kernel_rfl) (fun _ _ _ h => h) (.inl ⟨by kernel_rfl, fun w' hw' => by have q1 := hw'.2; go_simp⟩) HS.out ?_
    go_simp
    refine heldR_take 3 (.slice (some ⟨b, off + 26 * x.val, none⟩) N (cap - 26 * x.val)) rfl (by kernel_rfl) (by kernel_rfl) (by kernel_rfl) (by kernel_rfl) (fun _ _ _ h => h) (.inl ⟨by kernel_rfl, fun w' hw' => by go_simp⟩) HS.out ?_
    go_simp
    refine heldR_take 4 (.agg #[.int .i64 q, .slice (some ⟨b, off + 26 * x.val, none⟩) N (cap - 26 * x.val)]) rfl (by kernel_rfl) (by kernel_rfl) (by kernel_rfl) (by kernel_rfl) (fun _ _ _ h => h) (.inl ⟨by kernel_rfl, fun w' hw' => by go_simp⟩) HS.out ?_
    go_simp
    refine heldR_one 5 rfl (by kernel_rfl) rfl (by kernel_rfl) ?_
    refine wp_enter 57 #[.agg #[.int .i64 q, .slice (some ⟨b, off + 26 * x.val, none⟩) N (cap - 26 * x.val)]] (by first | kernel_rfl | go_simp) (revokeOf_calls X q b (off + 26 * x.val) N (cap - 26 * x.val) (by omega) (HM.out X kd)) ?_
    rintro e X2 ⟨rfl, c2⟩
    have k2 : KeepS (KA Bt lo hi) W X2 := fun k hk => (c2.block k (by have := hKA k hk; omega) (by omega)).trans (kd k hk)
    have HS2 : Hid (_ ∧ _) := ⟨(c2.block _ (by omega) (by omega)).trans HS.out.1, c2.cell HS.out.2 (by omega)⟩
    refine ⟨_, rfl, HS2.out, ?_⟩
    go_simp
    have hE := encodedR_calls X2 (N : Int) q ps b (off + 26 * x.val) (cap - 26 * x.val) (by omega) (by omega) (pn2 (by omega) (by omega)) (pn4 (by omega) (by omega)) (by rw [HpL.out]; omega) HIn.out (HCell.out X2 k2)
    rw [HpL.out] at hE
    rw [show padL (headL 3 (N : Int) q ++ putPs ps) = (BL q hs rs).getD x.val [] from by rw [HBL.out]; unfold revB; rw [HpL.out]] at hE
    refine heldR_one 6 rfl (by kernel_rfl) rfl (by kernel_rfl) ?_
    refine wp_enter 58 #[.agg #[.int .u8 106, .int .u8 108, .int .u8 111, .int .u8 103, .int .i64 3, .int .i64 (N : Int), .int .i64 q, .slice (some ⟨b, off + 26 * x.val, none⟩) N (cap - 26 * x.val)]] (by first | kernel_rfl | go_simp) hE ?_
    rintro e X3 ⟨rfl, c3⟩
    have k3 : KeepS (KA Bt lo hi) W X3 := fun k hk => (c3.block k (by have := hKA k hk; have := c2.size; omega) (by omega)).trans (k2 k hk)
    have HS3 : Hid (_ ∧ _) := ⟨(c3.block _ (by have := c2.size; omega) (by omega)).trans HS2.out.1, c3.cell HS2.out.2 (by omega)⟩
    refine ⟨_, rfl, HS3.out, ?_⟩
    have c13 : Chg 0 0 V X3 := cd.trans (c2.trans c3)
    obtain ⟨fn, tmps, assign, body, hy, hR⟩ := hY (pre.map up1) (up1 x) X3 (by have := c13.size; omega) (hJ _ V X3 none hJz (chg_grown c13) (fun r e => by cases e)) (by rw [List.length_map]; omega)
    simp only [encA, up1] at hy
    generalize ((BL q hs rs).getD x.val []).map (Value.int .u8) = cs at *
    clear hE c2 c3 HS HS2
    go_simp
    refine heldR_round 7 rfl (by kernel_rfl) rfl (by kernel_rfl) (by go_simp) hR ?_
    rintro e V3 ⟨⟨m1, m2⟩, hres⟩
    have f1 := (m2.2.1 _ _ _ _ tyA_f HS3.out.1).trans HS3.out.1
    have f3 : KeepS (KA Bt lo hi) W V3 := k3.trans m2.1
    have HS4 : Hid ((fun w' : World => w'.heap[W.heap.size]? = some (.cells #[.func (.yield l) #[] #[]] 116 (0, 0)) ∧ w'.cell? ⟨Bt, 0, none⟩ = some (.int .i64 q)) V3) := ⟨f1, (tri (HBt.out V3 f3)).1.1⟩
    have kV : KpT (KA Bt lo hi) W.heap.size V V3 := (KpT.chg0 c13 (fun k hk => by have := hKA k hk; omega)).trans m2
    have k20 : Keep2 wB.heap.size V V3 := ⟨by have := c13.size; omega, kV.2.2 _ _ (by omega) hrc.df rfl, kV.2.2 _ _ (by omega) hrc.lp rfl⟩
    rw [y1] at k20
    have k21 : KeepS (fun k => k = W.heap.size + 1 ∨ k = W.heap.size + 1 + 1) V V3 := fun k hk => by
      rcases hk with rfl | rfl
      · exact kV.2.1 _ _ _ _ tyA_i e6
      · exact kV.2.1 _ _ _ _ tyA_n e7
    rcases hres with ⟨rfl, hJ3⟩ | ⟨rfl, hJ3⟩
    · refine ⟨_, rfl, HS4.out, ?_⟩
      go_simp
      refine heldR_take 8 (.bool false) rfl (by kernel_rfl) (by kernel_rfl) (by kernel_rfl) (by kernel_rfl) (fun _ _ _ h => h) (.inl ⟨by kernel_rfl, fun w' hw' => by go_simp⟩) HS4.out ?_
      go_simp
      refine heldR_done (by kernel_rfl) ?_
      refine OnlyN.mk ?_
      gi_wp2
      exact ⟨⟨k20, k21⟩, by rw [List.map_append]; exact hJ3, f1, f3, (k21 _ (Or.inl rfl)).trans e6, (k21 _ (Or.inr rfl)).trans e7⟩
    · refine ⟨_, rfl, HS4.out, ?_⟩
      go_simp
      refine heldR_take 8 (.bool true) rfl (by kernel_rfl) (by kernel_rfl) (by kernel_rfl) (by kernel_rfl) (fun _ _ _ h => h) (.inl ⟨by kernel_rfl, fun w' hw' => by go_simp⟩) HS4.out ?_
      go_simp
      refine heldR_done (by kernel_rfl) ?_
      refine OnlyN.mk ?_
      gi_wp2
      exact ⟨⟨k20, k21⟩, rfl, by rw [List.map_append]; exact hJ3⟩
  case stop =>
    rintro D c pre V hD hSp ⟨rfl, hx⟩ hK
    gi_wp2
    refine ⟨by simp, .inl ⟨_, _, rfl, run_takeDeferred hK, ?_⟩⟩
    refine ⟨_, results_none rfl _ _ _, ⟨_, rfl⟩, .inr ⟨_, by rw [up1_val, hSp, List.length_map], ?_⟩⟩
    exact hJx.putObj _ hx (by omega) hK rfl
  case done =>
    rintro D xs V1 hD hS ⟨hJz, e1, e3, _, _⟩ hK
    have hDl := (Array.getElem?_eq_some_iff.1 hK).1
    have hV1 : W.heap.size + 3 ≤ V1.heap.size := by omega
    obtain ⟨⟨_, t1', _⟩, _⟩ := tri (HBt.out V1 e3)
    obtain ⟨b2, off2, hpo⟩ : ∃ b off, 0 < hs.length → po = some ⟨b, off, none⟩ := by
      obtain ⟨ao', cap', e, _, _, h⟩ := HP.out W K0
      cases e
      rcases h with h | ⟨b, off, h, _⟩
      · exact ⟨0, 0, fun hp => by rw [h] at hp; simp at hp⟩
      · exact ⟨b, off, fun _ => h⟩
    have hpc : hs.length ≤ pcap := by
      obtain ⟨ao', cap', e, _, h, _⟩ := HP.out W K0
      cases e
      exact h
    clear y2 y3 zY' cAB hao hrc
    gi_wp2
    refine ⟨trivial, rfl, (callsIn_wide.2 (piecesH_calls _ _ _ _ _)).mono ?_⟩
    rintro e w1 ⟨rfl, rfl⟩
    obtain ⟨y1', y2, y3⟩ := alloc2 V1 (.cells #[.slice po hs.length pcap] 28) (.cells #[.int .i64 17] 3)
    have cC : Chg 0 0 V1 ((V1.alloc (.cells #[.slice po hs.length pcap] 28)).alloc (.cells #[.int .i64 17] 3)) := (Chg.alloc (Chg.refl 0 0 V1) _).alloc _
    generalize (V1.alloc (.cells #[.slice po hs.length pcap] 28)).alloc (.cells #[.int .i64 17] 3) = wC at *
    gi_wp2
    refine range_ownT (n := 0) (gf := 70) (lb := #[.pointer (some ⟨V1.heap.size, 0, none⟩), .pointer (some ⟨V1.heap.size + 1, 0, none⟩)]) rfl (enters_of Tryz.func70 (by kernel_rfl) rfl)
      (piecesH_seq V1.heap.size (V1.heap.size + 1) b2 off2 pcap hs.length po wC (by omega) hpc hpo (Boxed.cell y2) (Boxed.cell y3)) (fun h => h) (Below.refl _ _) (fun _ => rfl) KeepS.trans (fun V o _ _ k hk => World.putObj_heap_other (by omega))
      (ahI2 W V1 l Bt lo hi D po pcap (xs.map up1) J) (ahX2 D (xs.map up1) Jx)
      ?hI ?hIx ?h0 (fun x a' V => a' = { tmps := #[.func (.yield l) #[] #[], .pointer (some ⟨Bt, 0, none⟩), .pointer (some ⟨W.heap.size, 0, none⟩), undef, .slice (some ⟨b2, off2 + 17 * x.val * 2, none⟩) (pcE hs.length 17 x.val - 17 * x.val) (pcap - 17 * x.val), undef, undef, .pointer (some ⟨Bt, 2, none⟩), .slice ao rs.length cap, .func (.func 69) #[] #[.pointer (some ⟨W.heap.size + 1, 0, none⟩), .pointer (some ⟨W.heap.size + 1 + 1, 0, none⟩)], undef, undef, undef, undef, undef, undef, undef, undef, undef, undef, .pointer (some ⟨Bt, 1, none⟩), .slice po hs.length pcap, .func (.func 70) #[] #[.pointer (some ⟨V1.heap.size, 0, none⟩), .pointer (some ⟨V1.heap.size + 1, 0, none⟩)], .slice (some ⟨b2, off2 + 17 * x.val * 2, none⟩) (pcE hs.length 17 x.val - 17 * x.val) (pcap - 17 * x.val), undef, undef, undef, undef, undef, undef, undef, undef, undef, undef, undef, undef, undef, undef], defers := [] })
      (fun x a' _ _ _ _ hs _ _ => hs) ?assign ?body ?done ?stop
    case hI =>
      exact fun s A C row hs' hg hr => by
        obtain ⟨h2, h3, h5, h6, h7, h8⟩ := hs'
        have hne : ∀ k, k < V1.heap.size + 2 → some k ≠ row := fun k hk e => by have := (hr _ e.symm).1; omega
        refine ⟨hJ _ A C row h2 hg (fun r e => ⟨by have := (hr r e).1; omega, (hr r e).2⟩), (hg.block _ (Array.getElem?_eq_some_iff.1 h3).1 (hne _ (by omega))).trans h3, ?_, (hg.block _ (Array.getElem?_eq_some_iff.1 h6).1 (hne _ (by omega))).trans h6, (hg.block _ (Array.getElem?_eq_some_iff.1 h7).1 (hne _ (by omega))).trans h7, (hg.block _ (Array.getElem?_eq_some_iff.1 h8).1 (hne _ (by omega))).trans h8⟩
        intro k hk
        have hkl := hKA k hk
        exact (hg.block k (by have := (Array.getElem?_eq_some_iff.1 h3).1; omega) (hne _ (by omega))).trans (h5 k hk)
    case hIx =>
      exact fun c s A C row hs' hg hr => by
        obtain ⟨h1, ⟨pre', x, k, h2, h3, h4⟩, h8⟩ := hs'
        have hne : ∀ k, k < V1.heap.size + 2 → some k ≠ row := fun k hk e => by have := (hr _ e.symm).1; omega
        exact ⟨h1, ⟨pre', x, k, h2, h3, hJx _ A C row h4 hg (fun r e => ⟨by have := (hr r e).1; omega, (hr r e).2⟩)⟩, (hg.block _ (Array.getElem?_eq_some_iff.1 h8).1 (hne _ (by omega))).trans h8⟩
    case h0 =>
      intro V hV hsz
      refine ⟨?_, (hV.block _ (by omega)).trans ((cC.block _ (by omega) (by omega)).trans e1), ?_, (hV.block _ (by omega)).trans y2, (hV.block _ (by omega)).trans y3, (hV.block _ (by omega)).trans ((cC.block _ (by omega) (by omega)).trans hK)⟩
      · rw [List.flatMap_nil, List.append_nil]
        have c2 : Chg 0 0 V1 V := cC.trans (Chg.ofBelow hV 0 0)
        exact hJ _ V1 V none hJz (chg_grown c2) (fun r e => by cases e)
      · intro k hk
        have hkl := hKA k hk
        exact (hV.block k (by omega)).trans ((cC.block k (by omega) (by omega)).trans (e3 k hk))
    case assign =>
      rintro l' pre x V K' hMV hrc hi' hK
      simp only [encPi]
      gi_wp2
      exact hK _ _ (Keep2.refl _ _) (fun _ _ => rfl) hi' rfl
    case body =>
      rintro l' pre x a' V hMV ⟨r0, hrc⟩ ⟨hJz2, f1, f3, f6, f7, f8⟩ rfl hlen
      have hx0 := pc_lt (m := 17) (by omega) x.isLt
      have hxe : pcE hs.length 17 x.val - 17 * x.val ≤ 17 := pcE_le
      have hxp : 1 ≤ pcE hs.length 17 x.val - 17 * x.val := by unfold pcE; omega
      have hpl := pcE_len 17 x.val hs
      obtain ⟨ps, hps⟩ : ∃ ps, ps = (hs.drop (17 * x.val)).take 17 := ⟨_, rfl⟩
      have HBLx : Hid (∀ j, j ≤ pcE hs.length 17 x.val - 17 * x.val → (BL q hs rs).getD (pcN rs.length 26 + 18 * x.val + j) [] = (descBs q ps).getD j []) := fun j hj => by rw [hps]; exact BL_home_at q hs rs x.isLt hj
      rw [← hps] at hpl
      have hokp : OkT q ps [] := by
        have h := (OkT.dropH (rs := []) ⟨hok.q0, hok.q1, Rises.zero [], hok.home, hok.data, hok.byt⟩ (17 * x.val)).takeH 17
        rw [hps]; exact h
      obtain rfl := hpo (by omega)
      have HCell : Hid (∀ V', KeepS (KA Bt lo hi) W V' → ∀ i, i < ps.length → ∃ dv, V'.cell? ⟨b2, off2 + 17 * x.val * 2 + i * 2, none⟩ = some (.int .i64 (ps.getD i (0, [])).1) ∧ V'.cell? ⟨b2, off2 + 17 * x.val * 2 + i * 2 + 1, none⟩ = some dv ∧ View V' lo hi .u8 dv (ps.getD i (0, [])).2) := fun V' hk i hi0 => by
        obtain ⟨ao', cap', e, _, _, h⟩ := HP.out V' hk
        cases e
        rcases h with h | ⟨b', off', h, _, _, h3⟩
        · have hl0 : hs.length = 0 := by rw [h]; rfl
          omega
        · cases h
          have hil : 17 * x.val + i < hs.length := by
            rw [hps, List.length_take, List.length_drop] at hi0; omega
          have e : ps.getD i (0, []) = hs.getD (17 * x.val + i) (0, []) := by
            rw [hps, List.length_take, List.length_drop] at hi0
            rw [hps]
            simp only [List.getD_eq_getElem?_getD, List.getElem?_take, List.getElem?_drop]
            rw [if_pos (by omega)]
          rw [e, show off2 + 17 * x.val * 2 + i * 2 = off2 + (17 * x.val + i) * 2 by omega]
          exact h3 _ hil
      have HpL : Hid _ := hpl
      have hdes := described_calls V (lo := lo) (hi := hi) q ps b2 (off2 + 17 * x.val * 2) (pcap - 17 * x.val) hokp (by rw [hpl]; omega) (by rw [hpl]; omega) (HM.out V f3) (HCell.out V f3)
      rw [hpl] at hdes
      have t0' := (tri (HBt.out V f3)).1.1
      have hd64 := descBs_64 hokp (by rw [hpl]; omega)
      have HL18 : Hid ((descBs q ps).length = pcE hs.length 17 x.val - 17 * x.val + 1) := by show _ = _; unfold descBs; rw [List.length_cons, List.length_map, hpl]
      clear hps hpl hokp t1'
      obtain ⟨N, hN⟩ : ∃ N, N = pcE hs.length 17 x.val - 17 * x.val := ⟨_, rfl⟩
      have HN : Hid _ := hN
      rw [← hN] at hxe hxp hdes HL18 ⊢
      clear hN
      gi_wp2
      refine ⟨trivial, rfl, (callsIn_wide.2 hdes).mono ?_⟩
      rintro e V0 ⟨g, rfl, hg0, hga, c0⟩
      have hgl := hga.lt
      have kV0 : KpT (KA Bt lo hi) W.heap.size V V0 := KpT.chg0 c0 (fun k hk => by have := hKA k hk; omega)
      have HGa : Hid _ := hga
      have hJ0' := hJ _ V V0 none hJz2 (chg_grown c0) (fun r e => by cases e)
      have s0 := c0.size
      have hNb : ((1 + N : Nat) : Int) = 1 + (N : Int) := by omega
      clear hdes t0' hga
      gi_wp2
      gi_loopw [29] (fun y wr => ∃ k : Nat, k ≤ 1 + N ∧ y = .int .i64 (k : Int) ∧ J (xs.map up1 ++ pre.flatMap up2 ++ (up2 x).take k) wr ∧ V0.heap.size ≤ wr.heap.size ∧ KpT (KA Bt lo hi) W.heap.size V0 wr) (fun y _ => 1 + N - (intOf y).toNat)
      case atStart => exact ⟨0, Nat.zero_le _, rfl, by rw [List.take_zero, List.append_nil]; exact hJ0', Nat.le_refl _, fun _ _ => rfl, fun _ _ _ _ _ _ => rfl, fun _ _ _ _ _ => rfl⟩
      case round =>
        obtain ⟨k, hk, rfl, hJk, hsz, hkp⟩ := hrel
        have kVr := kV0.trans hkp
        have g1 : wr.heap[W.heap.size]? = some (.cells #[.func (.yield l) #[] #[]] 116 (0, 0)) := (kVr.2.1 _ _ _ _ tyA_f f1).trans f1
        have hga : ArrC wr g 98 ((descBs q ps).flatten.map (Value.int .u8)) := (hkp.2.1 _ _ _ _ tyA_b HGa.out).trans HGa.out
        by_cases hlt : k < 1 + N
        · have hki : (k : Int) < ((1 + N : Nat) : Int) := by omega
          have hki' : (k : Int) < 1 + (N : Int) := by omega
          have hkx : k < pcE hs.length 17 x.val - 17 * x.val + 1 := by have := HN.out; omega
          have htk := up2_take (q := q) (rs := rs) x hkx
          obtain ⟨cs, hcs⟩ : ∃ cs, cs = ((descBs q ps).getD k []).map (Value.int .u8) := ⟨_, rfl⟩
          have hkd : k < (descBs q ps).length := by rw [HL18.out]; omega
          have hgk : (descBs q ps).getD k [] = (descBs q ps)[k] := by simp [List.getD_eq_getElem?_getD, hkd]
          have hcl : cs.length = 64 := by rw [hcs, List.length_map, hgk]; exact hd64 _ (List.getElem_mem hkd)
          have HRg : Hid (wr.rangeAt g (k * 64) cs) := by
            intro j v hj
            refine hga.cell _ ?_
            rw [hcs] at hj
            exact flat_cell hd64 hkd hj
          have hics : (Tryz.prog.info? 98).map (·.size) = some cs.length := by rw [hcl]; kernel_rfl
          have HcV : Hid (∀ v ∈ cs, v.oneCell' = true) := by show ∀ v ∈ cs, v.oneCell' = true; rw [hcs]; exact ints_oneCell _ _
          have HEnc : Hid (encA (BL q hs rs) (upJ (q := q) (rs := rs) x ⟨k, hkx⟩) = #[.agg cs.toArray]) := by
            show _ = _
            unfold encA upJ
            simp only
            rw [HBLx.out k (by have := HN.out; omega), hcs]
          have Hcl : Hid _ := hcl
          have u44 := Tryz.underlying98
          have Hdl : Hid (∀ W' : World, Chg 0 0 wr W' → J (xs.map up1 ++ pre.flatMap up2 ++ (up2 x).take k) W') := fun W' c => hJ _ wr W' none hJk (chg_grown c) (fun r e => by cases e)
          have HG1 : Hid (∀ W' : World, Chg 0 0 wr W' → W'.heap[W.heap.size]? = some (.cells #[.func (.yield l) #[] #[]] 116 (0, 0))) := fun W' c => (c.block _ (Array.getElem?_eq_some_iff.1 g1).1 (by omega)).trans g1
          clear hcs hcl hgk hga hkd hJk
          have hlen' : (xs.map up1 ++ pre.flatMap up2 ++ (up2 (q := q) (rs := rs) x).take k).length < pcN rs.length 26 + 18 * pcN hs.length 17 := by
            have h1 : ((up2 (q := q) (rs := rs) x).take k).length ≤ k := by rw [List.length_take]; exact Nat.min_le_left _ _
            have h2 := flat_le (q := q) (rs := rs) pre
            have h3 : xs.length = pcN rs.length 26 := by have := congrArg List.length hS; simpa using this
            rw [List.length_append, List.length_append, List.length_map]
            omega
          have HYk : Hid (∀ wg : World, Chg 0 0 wr wg → wg.rangeAt wr.heap.size 0 cs → (wg.cell? ⟨W.heap.size, 0, none⟩ = some (.func (.yield l) #[] #[]) ∧ wg.rangeAt wr.heap.size 0 cs ∧ KpT (KA Bt lo hi) W.heap.size V0 wg ∧ V0.heap.size ≤ wg.heap.size) ∧ Yields Tryz.prog l #[.agg cs.toArray] wg fun e V' => (wg.heap.size ≤ V'.heap.size ∧ KpT (KA Bt lo hi) W.heap.size wg V') ∧ ((e = .returned (.bool true) ∧ J (xs.map up1 ++ pre.flatMap up2 ++ (up2 x).take k ++ [upJ x ⟨k, hkx⟩]) V') ∨ (e = .returned (.bool false) ∧ Jx (xs.map up1 ++ pre.flatMap up2 ++ (up2 x).take k ++ [upJ x ⟨k, hkx⟩]) V'))) := fun wg cg hr => by
            have h := hY (xs.map up1 ++ pre.flatMap up2 ++ (up2 x).take k) (upJ x ⟨k, hkx⟩) wg (by have := cg.size; omega) (Hdl.out wg cg) hlen'
            rw [HEnc.out] at h
            exact ⟨⟨Boxed.cell (HG1.out wg cg), hr, hkp.trans (KpT.chg0 cg (fun k hk => by have := hKA k hk; omega)), by have := cg.size; omega⟩, h⟩
          clear hY Hdl HG1 HEnc hlen' hkp hJ0' kVr g1
          gi_wp2_with (first
            | (refine wpListIn_plain rfl fun K hK => ?_; refine opIn_of (fun _ h => by cases h) ?_; refine wp_load_mid 98 (.tmp 31) rfl g (k * 64) rfl cs _ HRg.out u44 rfl hics ?_; refine hK _ _ ?_)
            | (refine wpListIn_plain rfl fun K hK => ?_; refine opIn_of (fun _ h => by cases h) ?_; refine wp_store_row 98 (.tmp 6) (.tmp 32) rfl rfl wr.heap.size rfl cs _ 98 rfl (heap_new wr _) (by rw [Hcl.out]; rfl) hics HcV.out ?_; intro wg hbg hcg; obtain ⟨⟨g2c, hrb, kg, sg⟩, fn, tmps, assign, body, hy, hR⟩ := HYk.out wg ((Chg.alloc (Chg.refl 0 0 wr) _).step hcg (Or.inr (Or.inl (Nat.le_refl _)))) (row_rng hbg); have HRb : Hid (wg.rangeAt wr.heap.size 0 cs) := hrb; clear hbg hcg hrb HRg HYk; refine hK _ _ ?_)
            | (refine wpListIn_plain rfl fun K hK => ?_; refine opIn_of (fun _ h => by cases h) ?_; refine wp_load_mid 98 (.tmp 6) rfl wr.heap.size 0 rfl cs _ HRb.out u44 rfl hics ?_; refine hK _ _ ?_))
          refine ⟨rfl, (round_any hR l').mono ?_⟩
          rintro e V3 ⟨⟨s3, k3⟩, (⟨rfl, hJ3⟩ | ⟨rfl, hJ3⟩)⟩
          · have HJ4 : Hid (J (xs.map up1 ++ pre.flatMap up2 ++ (up2 x).take (k + 1)) V3) := by
              show J _ _
              rw [htk, ← List.append_assoc]; exact hJ3
            have k4 := kg.trans k3
            have s4 : V0.heap.size ≤ V3.heap.size := by omega
            clear hy hR HRb hJ3 g2c kg k3 htk
            gi_wp2
            go_roundw
            case rel => exact ⟨k + 1, by omega, by go_num, HJ4.out, s4, k4⟩
            case measure => simp [intOf]; omega
          · have HJ4 : Hid (Jx (xs.map up1 ++ pre.flatMap up2 ++ (up2 x).take (k + 1)) V3) := by
              show Jx _ _
              rw [htk, ← List.append_assoc]; exact hJ3
            have k4 := kV0.trans (kg.trans k3)
            have s4 : V.heap.size ≤ V3.heap.size := by omega
            have k20 : Keep2 wC.heap.size V V3 := ⟨s4, k4.2.2 _ _ (by omega) hrc.df rfl, k4.2.2 _ _ (by omega) hrc.lp rfl⟩
            have k21 : KeepS (fun k => k = V1.heap.size ∨ k = V1.heap.size + 1) V V3 := fun k hk => by
              rcases hk with rfl | rfl
              · exact k4.2.1 _ _ _ _ tyA_h f6
              · exact k4.2.1 _ _ _ _ tyA_n f7
            have f8' := (k4.2.2 D _ (by omega) f8 rfl).trans f8
            clear hy hR HRb hJ3 g2c kg k3 htk
            gi_wp2
            exact ⟨⟨k20, k21⟩, rfl, ⟨pre, x, k + 1, rfl, by have := HN.out; omega, HJ4.out⟩, f8'⟩
        · obtain rfl : k = 1 + N := by omega
          have hge : ¬ (((1 + N : Nat) : Int) < ((1 + N : Nat) : Int)) := by omega
          have hge' : ¬ (1 + (N : Int) < 1 + (N : Int)) := by omega
          have k4 := kV0.trans hkp
          have s4 : V.heap.size ≤ wr.heap.size := by omega
          have k20 : Keep2 wC.heap.size V wr := ⟨s4, k4.2.2 _ _ (by omega) hrc.df rfl, k4.2.2 _ _ (by omega) hrc.lp rfl⟩
          have k21 : KeepS (fun k => k = V1.heap.size ∨ k = V1.heap.size + 1) V wr := fun k hk => by
            rcases hk with rfl | rfl
            · exact k4.2.1 _ _ _ _ tyA_h f6
            · exact k4.2.1 _ _ _ _ tyA_n f7
          have f8' := (k4.2.2 D _ (by omega) f8 rfl).trans f8
          have f3' := f3.trans k4.1
          have hJe : J (xs.map up1 ++ (pre ++ [x]).flatMap up2) wr := by
            rw [List.flatMap_append, List.flatMap_cons, List.flatMap_nil, List.append_nil, ← List.append_assoc]
            rw [List.take_of_length_le (by unfold up2; rw [List.length_map, List.length_finRange]; have := HN.out; omega)] at hJk
            exact hJk
          have k22 := k21
          rw [y1'] at k20
          clear hJk hkp hJ0' hga
          gi_wp2
          exact ⟨⟨k20, k21⟩, hJe, g1, f3', (k22 _ (Or.inl rfl)).trans f6, (k22 _ (Or.inr rfl)).trans f7, f8'⟩
    case done =>
      rintro D2 xs2 V2 hD2 hS2 ⟨hJ2, _, _, _, _, f8⟩ hK2
      have hD2l := (Array.getElem?_eq_some_iff.1 hK2).1
      have hne : D ≠ D2 := by omega
      have hz : (xs.map up1 ++ xs2.flatMap (up2 (q := q) (rs := rs))).map Fin.val = List.range (BL q hs rs).length := by
        rw [List.map_append, up1_val, hS, flat_val, BL_len, ← plc_all, hS2]
      gi_wp2
      have hK' : (V2.putObj D2 (.deferred none)).heap[D]? = some (.deferred (some [])) := (World.putObj_heap_other hne).trans f8
      refine ⟨by simp, .inl ⟨_, _, rfl, run_takeDeferred hK2, ?_⟩⟩
      refine ⟨by simp, .inl ⟨_, _, rfl, run_takeDeferred hK', ?_⟩⟩
      refine ⟨_, results_none rfl _ _ _, ⟨_, rfl⟩, .inl ⟨_, hz, ?_⟩⟩
      exact hJ.putObj _ (hJ.putObj _ hJ2 (by omega) hK2 rfl) (by omega) hK' rfl
    case stop =>
      rintro D2 c pre V2 hD2 hSp ⟨rfl, ⟨pre', x, k, rfl, hk, hJ2⟩, f8⟩ hK2
      have hD2l := (Array.getElem?_eq_some_iff.1 hK2).1
      have hne : D ≠ D2 := by omega
      have hpre : pre'.map Fin.val = List.range x.val := by
        rw [List.map_append, List.length_append] at hSp
        have hl : (pre'.map Fin.val).length = pre'.length := List.length_map _
        have h2 : pre'.map Fin.val ++ [x.val] = List.range (pre'.length + 1) := hSp
        rw [List.range_succ] at h2
        obtain ⟨h3, h4⟩ := List.append_inj h2 (by simp)
        have : x.val = pre'.length := by simpa using h4
        rw [h3, this]
      have hz : (xs.map up1 ++ pre'.flatMap (up2 (q := q) (rs := rs)) ++ (up2 x).take k).map Fin.val = List.range (xs.map (up1 (q := q) (hs := hs)) ++ pre'.flatMap (up2 (q := q) (rs := rs)) ++ (up2 x).take k).length := by
        have e : (xs.map up1 ++ pre'.flatMap (up2 (q := q) (rs := rs)) ++ (up2 x).take k).map Fin.val = List.range (pcN rs.length 26 + 18 * x.val + k) := by
          rw [List.map_append, List.map_append, up1_val, hS, flat_val, hpre, List.map_take, up2_val, plc_part x.isLt hk]
        have hl := congrArg List.length e
        rw [List.length_map, List.length_range] at hl
        rw [e, hl]
      gi_wp2
      have hK' : (V2.putObj D2 (.deferred none)).heap[D]? = some (.deferred (some [])) := (World.putObj_heap_other hne).trans f8
      refine ⟨by simp, .inl ⟨_, _, rfl, run_takeDeferred hK2, ?_⟩⟩
      refine ⟨by simp, .inl ⟨_, _, rfl, run_takeDeferred hK', ?_⟩⟩
      refine ⟨_, results_none rfl _ _ _, ⟨_, rfl⟩, .inr ⟨_, hz, ?_⟩⟩
      exact hJx.putObj _ (hJx.putObj _ hJ2 (by omega) hK2 rfl) (by omega) hK' rfl

end Go.Proofs.YteligghapkleaaaGreatDoor
