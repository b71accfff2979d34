/- l10Sorted, DirNames of the model. -/
import Derived.Test.YtlbiaennccionaaTextL
import Derived.Test.YtlbiaennccionaaEntTo
import Derived.Laws.Cover1
namespace Go.Proofs.Ytlbiaennccionaa
open Go.RowKit

/-- a stands behind b. -/
def gtT (a b : ByteArray) : Bool := !(Op.bytesLess a.toList b.toList || a.toList == b.toList)
/-- Where s is put among the first m. -/
def posT (ps : List ByteArray) (s : ByteArray) : Nat → Nat
  | 0 => 0
  | m + 1 => if gtT (ps.getD m noText) s = true then posT ps s m else m + 1
theorem posT_le (ps : List ByteArray) (s : ByteArray) (m : Nat) : posT ps s m ≤ m := by
  induction m with
  | zero => exact Nat.le_refl _
  | succ m ih => unfold posT; split <;> omega
def insT (ps : List ByteArray) (s : ByteArray) : List ByteArray := ps.take (posT ps s ps.length) ++ s :: ps.drop (posT ps s ps.length)
def sortTo (ls : List ByteArray) : Nat → List ByteArray
  | 0 => []
  | k + 1 => insT (sortTo ls k) (ls.getD k noText)
theorem insT_len (ps : List ByteArray) (s : ByteArray) : (insT ps s).length = ps.length + 1 := by
  have := posT_le ps s ps.length
  unfold insT; simp; omega
theorem sortTo_len (ls : List ByteArray) (k : Nat) : (sortTo ls k).length = k := by
  induction k with
  | zero => rfl
  | succ k ih => unfold sortTo; rw [insT_len, ih]

/-- The row while it is shifted: from place t on everything stands one place on. -/
def shiftT (ps : List ByteArray) (t : Nat) : List ByteArray := ps.take t ++ ps.getD t noText :: ps.drop t
theorem shiftT_len (ps : List ByteArray) {t : Nat} (h : t ≤ ps.length) : (shiftT ps t).length = ps.length + 1 := by unfold shiftT; simp; omega
theorem shiftT_get (ps : List ByteArray) {t : Nat} (h : t ≤ ps.length) (j : Nat) : (shiftT ps t).getD j noText = if j ≤ t then ps.getD j noText else ps.getD (j - 1) noText := by
  unfold shiftT
  simp only [List.getD_eq_getElem?_getD]
  by_cases h1 : j < t
  · rw [List.getElem?_append_left (by simp; omega), List.getElem?_take, if_pos h1, if_pos (by omega)]
  · rw [List.getElem?_append_right (by simp; omega), List.length_take, Nat.min_eq_left h]
    by_cases h2 : j = t
    · subst h2; simp
    · rw [if_neg (by omega), show j - t = (j - t - 1) + 1 by omega, List.getElem?_cons_succ, List.getElem?_drop]
      congr 2; omega
theorem ext_getD {a b : List ByteArray} (hl : a.length = b.length) (h : ∀ j, j < a.length → a.getD j noText = b.getD j noText) : a = b := by
  refine List.ext_getElem hl fun j h1 h2 => ?_
  have := h j h1
  simpa [List.getD_eq_getElem?_getD, List.getElem?_eq_getElem h1, List.getElem?_eq_getElem h2] using this
theorem set_getD (a : List ByteArray) (i j : Nat) (x : ByteArray) (h : i < a.length) : (a.set i x).getD j noText = if i = j then x else a.getD j noText := by
  simp only [List.getD_eq_getElem?_getD]
  by_cases e : i = j
  · subst e; rw [List.getElem?_set_self h, if_pos rfl]; rfl
  · rw [List.getElem?_set_ne e, if_neg e]
theorem shiftT_end (ps : List ByteArray) : shiftT ps ps.length = ps ++ [noText] := by
  unfold shiftT; simp [List.getD_eq_getElem?_getD]
theorem shiftT_step (ps : List ByteArray) {t : Nat} (h : t + 1 ≤ ps.length) : (shiftT ps (t + 1)).set (t + 1) (ps.getD t noText) = shiftT ps t := by
  refine ext_getD (by rw [List.length_set, shiftT_len ps h, shiftT_len ps (by omega)]) fun j hj => ?_
  rw [set_getD _ _ _ _ (by rw [shiftT_len ps h]; omega), shiftT_get ps h, shiftT_get ps (by omega)]
  by_cases e : t + 1 = j
  · subst e; rw [if_pos rfl, if_neg (by omega)]; rfl
  · rw [if_neg e]
    by_cases h1 : j ≤ t
    · rw [if_pos (by omega), if_pos h1]
    · rw [if_neg (by omega), if_neg h1]
theorem shiftT_put (ps : List ByteArray) (s : ByteArray) {t : Nat} (h : t ≤ ps.length) : (shiftT ps t).set t s = ps.take t ++ s :: ps.drop t := by
  unfold shiftT
  rw [List.set_append, List.length_take, Nat.min_eq_left h, if_neg (by omega), Nat.sub_self, List.set_cons_zero]

theorem OwnS.cell {w : World} {base : Nat} {e : TypeId} {g n cap : Nat} {ps : List ByteArray} (h : OwnS w base e (.slice (some ⟨g, 0, none⟩) n cap) ps) (hn : ps.length = n) (j : Nat) (hj : j < n) : w.cell? ⟨g, j, none⟩ = some (.string (ps.getD j noText)) ∧ w.frozen? ⟨g, j, none⟩ = false := by
  subst hn
  refine ⟨?_, World.ownsRow.frozenAt h j⟩
  rw [World.ownsRow.cellAt h j (by omega), List.getElem?_map, List.getElem?_eq_getElem hj]
  simp [List.getD_eq_getElem?_getD, List.getElem?_eq_getElem hj]
theorem OwnS.put {w : World} {base : Nat} {e : TypeId} {g n cap : Nat} {ps : List ByteArray} (h : OwnS w base e (.slice (some ⟨g, 0, none⟩) n cap) ps) (hn : ps.length = n) (j : Nat) (s : ByteArray) : OwnS (w.setCell ⟨g, j, none⟩ (.string s)) base e (.slice (some ⟨g, 0, none⟩) n cap) (ps.set j s) := by
  subst hn
  have := (World.ownsRow.stored h j (.string s)).1
  unfold OwnS
  rw [List.length_set, List.map_set]; exact this

set_option maxRecDepth 20000 in
set_option maxHeartbeats 2000000 in
theorem l10Sorted_some (w : World) (ls : List ByteArray) (b off cap : Nat) (hl : ls.length ≤ 1000)
    (h1 : ∀ i, i < ls.length → w.cell? ⟨b, off + i, none⟩ = some (.string (ls.getD i noText))) :
    Calls Try.prog 14 #[.slice (some ⟨b, off, none⟩) ls.length cap] w fun e w' => ∃ v, e = .returned v ∧ OwnS w' w.heap.size 9 v (sortTo ls ls.length) ∧ Chg 0 0 w w' := by
  have HO0 : Hid (OwnS (w.alloc (.cells #[] 9)) w.heap.size 9 (.slice (some ⟨w.heap.size, 0, none⟩) 0 0) []) := OwnS.nil w _
  have C0 : Chg 0 0 w (w.alloc (.cells #[] 9)) := Chg.alloc (Chg.refl 0 0 w) _
  go_enter Try.func14, Try.ntmps14
  go_wp2
  go_loopw [3, 4] (fun o x wr => ∃ (k g cp : Nat), k ≤ ls.length ∧ x = .int .i64 k ∧ o = .slice (some ⟨g, 0, none⟩) k cp ∧ OwnS wr w.heap.size 9 (.slice (some ⟨g, 0, none⟩) k cp) (sortTo ls k) ∧ Chg 0 0 w wr) (fun _ x _ => ls.length - (intOf x).toNat)
  case atStart => exact ⟨0, _, _, Nat.zero_le _, rfl, rfl, HO0.out, C0⟩
  case round =>
    obtain ⟨k, g, cp, hk, rfl, rfl, ho, hch⟩ := hrel
    have HC : Hid (Chg 0 0 w wr) := hch
    have HO : Hid (OwnS wr w.heap.size 9 (.slice (some ⟨g, 0, none⟩) k cp) (sortTo ls k)) := ho
    have sz := hch.size
    by_cases hlt : k < ls.length
    · have hi : (k : Int) < (ls.length : Int) := by omega
      have c0 := hch.cell (h1 k hlt) (by omega)
      have Hh1 : Hid (w.cell? ⟨b, off + k, none⟩ = some (.string (ls.getD k noText))) := h1 k hlt
      have Hpk : Hid ((sortTo ls k).length = k) := sortTo_len ls k
      have HS : Hid (sortTo ls (k + 1) = insT (sortTo ls k) (ls.getD k noText)) := rfl
      rename World => wo
      generalize sortTo ls k = ps at *
      generalize ls.getD k noText = s at *
      clear ho hch h1
      go_wp2
      go_loopw [5] (fun x w3 => Same wo w3 ∧ ∃ m : Nat, m ≤ k ∧ x = .int .i64 m ∧ posT ps s k = posT ps s m) (fun x _ => (intOf x).toNat)
      case atStart => exact ⟨Same.refl _, k, Nat.le_refl _, rfl, rfl⟩
      case round =>
        obtain ⟨hsm, m, hm, rfl, hpos⟩ := hrel
        have c0 : wr.cell? ⟨b, off + k, none⟩ = some (.string s) := (hsm.cell _).trans c0
        have hm1000 : m ≤ 1000 := by omega
        have HSm : Hid (Same wo wr) := hsm
        by_cases hm0 : 0 < m
        · have c1 : wr.cell? ⟨g, m - 1, none⟩ = some (.string (ps.getD (m - 1) noText)) := (hsm.cell _).trans (HO.out.cell Hpk.out (m - 1) (by omega)).1
          have hmi : (0 : Int) < (m : Int) := by omega
          have hmk : (m : Int) ≤ (k : Int) := by omega
          have hw : IntKind.i64.wrap ((m : Int) - 1) = (m : Int) - 1 := by rw [IntKind.wrap_i64]; omega
          have hp2 : posT ps s m = if gtT (ps.getD (m - 1) noText) s = true then posT ps s (m - 1) else m := by
            obtain ⟨j, rfl⟩ : ∃ j, m = j + 1 := ⟨m - 1, by omega⟩
            rfl
          generalize ps.getD (m - 1) noText = p at *
          cases hgt : gtT p s with
          | true =>
            have hgb : (Op.bytesLess p.toList s.toList || p.toList == s.toList) = false := by unfold gtT at hgt; rw [Bool.not_eq_true'] at hgt; exact hgt
            have Hp : Hid (posT ps s k = posT ps s (m - 1)) := by show _ = _; rw [hpos, hp2, if_pos hgt]
            clear hpos hp2 hgt hsm
            go_wp2
            go_quiet (fail)
            go_wp2
            go_roundw
            case rel => exact ⟨HSm.out.drewN _, m - 1, by omega, by congr 1; omega, Hp.out⟩
            case measure => simp [intOf]; omega
          | false =>
            have hgb : (Op.bytesLess p.toList s.toList || p.toList == s.toList) = true := by unfold gtT at hgt; rw [Bool.not_eq_false'] at hgt; exact hgt
            have Hp : Hid (posT ps s k = m) := by show _ = _; rw [hpos, hp2, if_neg (by rw [hgt]; simp)]
            clear hpos hp2 hgt hsm
            go_wp2
            go_quiet (fail)
            have HOq : Hid (OwnS ((wr.drewN nq).alloc (.cells #[.string ⟨#[]⟩] 9)) w.heap.size 9 (.slice (some ⟨g, 0, none⟩) k cp) ps) := HO.out.chg ((HSm.out.chg 0 0).trans ((Chg.drewN (Chg.refl 0 0 wr) nq).alloc _)) (by intro g _; omega)
            have HCq : Hid (Chg 0 0 w ((wr.drewN nq).alloc (.cells #[.string ⟨#[]⟩] 9))) := HC.out.trans ((HSm.out.chg 0 0).trans ((Chg.drewN (Chg.refl 0 0 wr) nq).alloc _))
            have szq : w.heap.size ≤ wr.heap.size := (HC.out.trans (HSm.out.chg 0 0)).size
            have HNW : Hid (((wr.drewN nq).alloc (.cells #[.string ⟨#[]⟩] 9)).cell? ⟨wr.heap.size, 0, none⟩ = some (.string noText)) := by
              have hh := heap_new (wr.drewN nq) (.cells #[.string ⟨#[]⟩] 9)
              show _ = _
              have hsz : (wr.drewN nq).heap.size = wr.heap.size := rfl
              rw [hsz] at hh
              simp only [World.cell?, hh]; rfl
            go_wp2_with (at_builtin; refine wpList_app_text rfl (.tmp 32) (.tmp 33) rfl w.heap.size _ ps rfl HOq.out wr.heap.size 1 noText rfl HNW.out (by rw [Hpk.out]; omega) (by simp; omega) ?_)
            intro v' w5 g' cap' hv' ho5 hc5
            rw [Hpk.out] at hv'
            subst hv'
            have HO5 : Hid (OwnS w5 w.heap.size 9 (.slice (some ⟨g', 0, none⟩) (k + 1) cap') (shiftT ps k)) := by
              show OwnS _ _ _ _ _
              have := shiftT_end ps
              rw [Hpk.out] at this
              rw [this]; exact ho5
            have HC5 : Hid (Chg 0 0 w w5) := HCq.out.step hc5 (Or.inr (Or.inl (Nat.le_refl _)))
            clear ho5 hc5 HNW HOq HCq c0 HSm
            clear c1 hgb hw hmi hmk
            go_wp2
            go_loopw [6] (fun x w3 => ∃ t : Nat, m ≤ t ∧ t ≤ k ∧ x = .int .i64 t ∧ OwnS w3 w.heap.size 9 (.slice (some ⟨g', 0, none⟩) (k + 1) cap') (shiftT ps t) ∧ Chg 0 0 w w3) (fun x _ => (intOf x).toNat)
            case atStart => exact ⟨k, hm, Nat.le_refl _, by go_num, HO5.out, HC5.out⟩
            case round =>
              obtain ⟨t, hmt, htk, rfl, ho6, hc6⟩ := hrel
              have hsl : (shiftT ps t).length = k + 1 := by rw [shiftT_len ps (by rw [Hpk.out]; exact htk), Hpk.out]
              by_cases hlt2 : m < t
              · have hgt2 : (m : Int) < (t : Int) := by omega
                obtain ⟨d1, e1⟩ := ho6.cell hsl (t - 1) (by omega)
                obtain ⟨d2, e2⟩ := ho6.cell hsl t (by omega)
                rw [shiftT_get ps (by rw [Hpk.out]; exact htk), if_pos (by omega)] at d1
                have hput := ho6.put hsl t (ps.getD (t - 1) noText)
                have hst := shiftT_step ps (t := t - 1) (by rw [Hpk.out]; omega)
                rw [show t - 1 + 1 = t by omega] at hst
                rw [hst] at hput
                have hgb2 := (ho6.lt g' rfl).1
                have HP : Hid (OwnS (wr.setCell ⟨g', t, none⟩ (.string (ps.getD (t - 1) noText))) w.heap.size 9 (.slice (some ⟨g', 0, none⟩) (k + 1) cap') (shiftT ps (t - 1))) := hput
                have HC7 : Hid (Chg 0 0 w (wr.setCell ⟨g', t, none⟩ (.string (ps.getD (t - 1) noText)))) := hc6.setCell (Or.inr hgb2) _
                generalize ps.getD (t - 1) noText = y at *
                have htb : t ≤ 1000 := by omega
                have hwt : IntKind.i64.wrap ((t : Int) - 1) = (t : Int) - 1 := by rw [IntKind.wrap_i64]; omega
                clear hput hst ho6 hc6
                go_wp2
                go_roundw
                case rel => exact ⟨t - 1, by omega, by omega, by congr 1; omega, HP.out, HC7.out⟩
                case measure => simp [intOf]; omega
              · obtain rfl : m = t := by omega
                have hng2 : ¬ (m : Int) < (m : Int) := by omega
                obtain ⟨d2, e2⟩ := ho6.cell hsl m (by omega)
                have c9 := hc6.cell Hh1.out (by omega)
                have hput := ho6.put hsl m s
                rw [shiftT_put ps s (by rw [Hpk.out]; exact htk)] at hput
                have HP : Hid (OwnS (wr.setCell ⟨g', m, none⟩ (.string s)) w.heap.size 9 (.slice (some ⟨g', 0, none⟩) (k + 1) cap') (sortTo ls (k + 1))) := by
                  show OwnS _ _ _ _ _
                  rw [HS.out]
                  unfold insT
                  rw [Hpk.out, Hp.out]
                  exact hput
                have HC7 : Hid (Chg 0 0 w (wr.setCell ⟨g', m, none⟩ (.string s))) := hc6.setCell (Or.inr (ho6.lt g' rfl).1) _
                clear hput ho6 hc6
                go_wp2
                go_roundw
                case rel => exact ⟨k + 1, g', cap', by omega, by go_num, rfl, HP.out, HC7.out⟩
                case measure => simp [intOf]; omega
        · have hmi : ¬ (0 : Int) < (m : Int) := by omega
          have Hp : Hid (posT ps s k = m) := by
            show _ = _
            rw [hpos, show m = 0 by omega]; rfl
          clear hpos hsm
          go_wp2
          go_quiet (fail)
          have HOq : Hid (OwnS ((wr.drewN nq).alloc (.cells #[.string ⟨#[]⟩] 9)) w.heap.size 9 (.slice (some ⟨g, 0, none⟩) k cp) ps) := HO.out.chg ((HSm.out.chg 0 0).trans ((Chg.drewN (Chg.refl 0 0 wr) nq).alloc _)) (by intro g _; omega)
          have HCq : Hid (Chg 0 0 w ((wr.drewN nq).alloc (.cells #[.string ⟨#[]⟩] 9))) := HC.out.trans ((HSm.out.chg 0 0).trans ((Chg.drewN (Chg.refl 0 0 wr) nq).alloc _))
          have szq : w.heap.size ≤ wr.heap.size := (HC.out.trans (HSm.out.chg 0 0)).size
          have HNW : Hid (((wr.drewN nq).alloc (.cells #[.string ⟨#[]⟩] 9)).cell? ⟨wr.heap.size, 0, none⟩ = some (.string noText)) := by
            have hh := heap_new (wr.drewN nq) (.cells #[.string ⟨#[]⟩] 9)
            show _ = _
            have hsz : (wr.drewN nq).heap.size = wr.heap.size := rfl
            rw [hsz] at hh
            simp only [World.cell?, hh]; rfl
          go_wp2_with (at_builtin; refine wpList_app_text rfl (.tmp 32) (.tmp 33) rfl w.heap.size _ ps rfl HOq.out wr.heap.size 1 noText rfl HNW.out (by rw [Hpk.out]; omega) (by simp; omega) ?_)
          intro v' w5 g' cap' hv' ho5 hc5
          rw [Hpk.out] at hv'
          subst hv'
          have HO5 : Hid (OwnS w5 w.heap.size 9 (.slice (some ⟨g', 0, none⟩) (k + 1) cap') (shiftT ps k)) := by
            show OwnS _ _ _ _ _
            have := shiftT_end ps
            rw [Hpk.out] at this
            rw [this]; exact ho5
          have HC5 : Hid (Chg 0 0 w w5) := HCq.out.step hc5 (Or.inr (Or.inl (Nat.le_refl _)))
          clear ho5 hc5 HNW HOq HCq c0 HSm
          clear hmi
          go_wp2
          go_loopw [6] (fun x w3 => ∃ t : Nat, m ≤ t ∧ t ≤ k ∧ x = .int .i64 t ∧ OwnS w3 w.heap.size 9 (.slice (some ⟨g', 0, none⟩) (k + 1) cap') (shiftT ps t) ∧ Chg 0 0 w w3) (fun x _ => (intOf x).toNat)
          case atStart => exact ⟨k, hm, Nat.le_refl _, by go_num, HO5.out, HC5.out⟩
          case round =>
            obtain ⟨t, hmt, htk, rfl, ho6, hc6⟩ := hrel
            have hsl : (shiftT ps t).length = k + 1 := by rw [shiftT_len ps (by rw [Hpk.out]; exact htk), Hpk.out]
            by_cases hlt2 : m < t
            · have hgt2 : (m : Int) < (t : Int) := by omega
              obtain ⟨d1, e1⟩ := ho6.cell hsl (t - 1) (by omega)
              obtain ⟨d2, e2⟩ := ho6.cell hsl t (by omega)
              rw [shiftT_get ps (by rw [Hpk.out]; exact htk), if_pos (by omega)] at d1
              have hput := ho6.put hsl t (ps.getD (t - 1) noText)
              have hst := shiftT_step ps (t := t - 1) (by rw [Hpk.out]; omega)
              rw [show t - 1 + 1 = t by omega] at hst
              rw [hst] at hput
              have hgb2 := (ho6.lt g' rfl).1
              have HP : Hid (OwnS (wr.setCell ⟨g', t, none⟩ (.string (ps.getD (t - 1) noText))) w.heap.size 9 (.slice (some ⟨g', 0, none⟩) (k + 1) cap') (shiftT ps (t - 1))) := hput
              have HC7 : Hid (Chg 0 0 w (wr.setCell ⟨g', t, none⟩ (.string (ps.getD (t - 1) noText)))) := hc6.setCell (Or.inr hgb2) _
              generalize ps.getD (t - 1) noText = y at *
              have htb : t ≤ 1000 := by omega
              have hwt : IntKind.i64.wrap ((t : Int) - 1) = (t : Int) - 1 := by rw [IntKind.wrap_i64]; omega
              clear hput hst ho6 hc6
              go_wp2
              go_roundw
              case rel => exact ⟨t - 1, by omega, by omega, by congr 1; omega, HP.out, HC7.out⟩
              case measure => simp [intOf]; omega
            · obtain rfl : m = t := by omega
              have hng2 : ¬ (m : Int) < (m : Int) := by omega
              obtain ⟨d2, e2⟩ := ho6.cell hsl m (by omega)
              have c9 := hc6.cell Hh1.out (by omega)
              have hput := ho6.put hsl m s
              rw [shiftT_put ps s (by rw [Hpk.out]; exact htk)] at hput
              have HP : Hid (OwnS (wr.setCell ⟨g', m, none⟩ (.string s)) w.heap.size 9 (.slice (some ⟨g', 0, none⟩) (k + 1) cap') (sortTo ls (k + 1))) := by
                show OwnS _ _ _ _ _
                rw [HS.out]
                unfold insT
                rw [Hpk.out, Hp.out]
                exact hput
              have HC7 : Hid (Chg 0 0 w (wr.setCell ⟨g', m, none⟩ (.string s))) := hc6.setCell (Or.inr (ho6.lt g' rfl).1) _
              clear hput ho6 hc6
              go_wp2
              go_roundw
              case rel => exact ⟨k + 1, g', cap', by omega, by go_num, rfl, HP.out, HC7.out⟩
              case measure => simp [intOf]; omega
    · obtain rfl : k = ls.length := by omega
      clear h1 ho hch
      go_wp2
      go_ret
      exact ⟨_, rfl, HO.out, HC.out⟩

end Go.Proofs.Ytlbiaennccionaa
