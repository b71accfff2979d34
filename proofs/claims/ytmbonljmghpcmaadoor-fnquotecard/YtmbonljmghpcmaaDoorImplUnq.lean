/- Unquote of the program. -/
import Derived.Test.YtmbonljmghpcmaaDoorLooseMath
import Derived.Test.YtmbonljmghpcmaaDoorImplQuote
namespace Go.Proofs.YtmbonljmghpcmaaDoor
open Go.RowKit Go.Lib

theorem looseN_len : ∀ (f : Nat) (l : List UInt8), (looseN f l).length ≤ l.length
  | 0, _ => Nat.zero_le _
  | _ + 1, [] => Nat.le_refl _
  | n + 1, c :: r => by
    rw [looseN_c]
    split
    · have := looseN_len n (r.drop 2)
      rw [List.length_drop] at this
      simp only [List.length_cons]
      omega
    · have := looseN_len n r
      simp only [List.length_cons]
      omega

theorem looseV_size (s : ByteArray) : (looseV s).size ≤ s.size := by
  unfold looseV
  split
  · exact Nat.zero_le _
  · rw [strOfNums_size, Lib.size_eq s]
    exact looseN_len _ _

theorem str_eq_iff (a b : ByteArray) : a.toList = b.toList ↔ a = b := by
  rw [ByteArray.toList_eq, ByteArray.toList_eq]
  constructor
  · intro h
    apply ByteArray.ext
    apply Array.ext'
    exact h
  · rintro rfl; rfl

set_option maxRecDepth 20000 in
set_option maxHeartbeats 2000000 in
theorem implUnquote_calls (w : World) (s : ByteArray) (hl : s.size ≤ 1048576) (hE : SynE w) :
    Calls Tryd.prog 6 #[.string s] w fun e w' => e = .returned (unqV s) ∧ Chg 0 0 w w' := by
  obtain ⟨r, Hr⟩ : ∃ r, Hid (r = unqV s) := ⟨_, rfl⟩
  rw [← Hr.out]
  have HA : Hid (Chg 0 0 w (w.alloc (.cells #[.bool false, .string ⟨#[]⟩] 26))) := Chg.alloc (Chg.refl 0 0 w) _
  have HB : Hid ((w.alloc (.cells #[.bool false, .string ⟨#[]⟩] 26)).heap[w.heap.size]? = some (.cells #[.bool false, .string ⟨#[]⟩] 26 (0, 0))) := heap_new w _
  by_cases hs : s.toList = [37]
  · have hb : (s.toList == [37]) = true := by rw [hs]; rfl
    have hb2 : (s.toList != [37]) = false := by rw [hs]; rfl
    have hv : looseV s = ⟨#[]⟩ := by unfold looseV; rw [if_pos hs]
    have hq := fun W => implQuote_calls W ⟨#[]⟩ (by decide)
    have HU : Hid (r = if quoV ⟨#[]⟩ = s then unqO true ⟨#[]⟩ else unqO false ⟨#[]⟩) := by show _ = _; rw [Hr.out, unq_loose s, hv]
    clear hv
    generalize quoV ⟨#[]⟩ = q at *
    have xHC := HA
    have xHB := HB
    clear HA HB
    go_enter Tryd.func6, Tryd.ntmps6
    go_wp2_with fail
    generalize w.alloc (.cells #[.bool false, .string ⟨#[]⟩] 26) = w2 at *
    clear hs hb hb2
    refine (hq _).mono ?_
    rintro e w3 ⟨rfl, c3⟩
    have HC3 : Hid (Chg 0 0 w w3) := xHC.out.trans c3
    have HB3 := (c3.block _ (Array.getElem?_eq_some_iff.1 xHB.out).1 (by omega)).trans xHB.out
    clear c3 hq
    obtain ⟨y0, y1, yf0, yf1⟩ := two_cells HB3
    clear HB3
    by_cases hqs : q = s
    · have Hn : Hid (r = unqO true ⟨#[]⟩) := by show _ = _; rw [HU.out, if_pos hqs]
      have hne : (q.toList != s.toList) = false := by rw [hqs]; simp
      have hne2 : (q.toList == s.toList) = true := by rw [hqs]; simp
      clear hqs
      go_wp2
      rw [Hn.out]
      exact bodyPost_ret (v := unqO true ⟨#[]⟩) (by simp [results, Tryd.results6, go_sem, *]) rfl ⟨rfl, by refine Chg.setCell (Chg.setCell HC3.out ?_ _) ?_ _ <;> exact Or.inr (Nat.le_refl _)⟩
    · have Hn : Hid (r = unqO false ⟨#[]⟩) := by show _ = _; rw [HU.out, if_neg hqs]
      have hqs2 : ¬ q.toList = s.toList := fun h => hqs ((str_eq_iff q s).1 h)
      have hne : (q.toList != s.toList) = true := by rw [bne_iff_ne]; exact hqs2
      have hne2 : (q.toList == s.toList) = false := by rw [beq_eq_false_iff_ne]; exact hqs2
      clear hqs
      go_wp2
      rw [Hn.out]
      exact bodyPost_ret (v := unqO false ⟨#[]⟩) (by simp [results, Tryd.results6, go_sem, *]) rfl ⟨rfl, by refine Chg.setCell (Chg.setCell HC3.out ?_ _) ?_ _ <;> exact Or.inr (Nat.le_refl _)⟩
  · have hL := fun W (h : SynE W) => loose_calls W s hl h
    have hv : looseV s = strOfNums (looseN s.size s.data.toList) := by unfold looseV; rw [if_neg hs]
    rw [← hv] at hL
    have hb : (s.toList == [37]) = false := by rw [beq_eq_false_iff_ne]; exact hs
    have hb2 : (s.toList != [37]) = true := by rw [bne_iff_ne]; exact hs
    have hq := fun W => implQuote_calls W (looseV s) (by have := looseV_size s; omega)
    have HU : Hid (r = if quoV (looseV s) = s then unqO true (looseV s) else unqO false ⟨#[]⟩) := by show _ = _; rw [Hr.out]; exact unq_loose s
    clear hv
    generalize looseV s = d at *
    generalize quoV d = q at *
    have hE2 := hE.chg HA.out
    go_enter Tryd.func6, Tryd.ntmps6
    go_wp2_with fail
    generalize w.alloc (.cells #[.bool false, .string ⟨#[]⟩] 26) = w1 at *
    refine (hL _ hE2).mono ?_
    rintro e w2 ⟨rfl, c2⟩
    have yHC : Hid (Chg 0 0 w w2) := HA.out.trans c2
    have yHB : Hid (w2.heap[w.heap.size]? = some (.cells #[.bool false, .string ⟨#[]⟩] 26 (0, 0))) := (c2.block _ (Array.getElem?_eq_some_iff.1 HB.out).1 (by omega)).trans HB.out
    clear c2 hL hE2 HA HB hs hb hb2
    go_wp2_with fail
    refine (hq _).mono ?_
    rintro e w3 ⟨rfl, c3⟩
    have HC3 : Hid (Chg 0 0 w w3) := yHC.out.trans c3
    have HB3 := (c3.block _ (Array.getElem?_eq_some_iff.1 yHB.out).1 (by omega)).trans yHB.out
    clear c3 hq
    obtain ⟨y0, y1, yf0, yf1⟩ := two_cells HB3
    clear HB3
    by_cases hqs : q = s
    · have Hn : Hid (r = unqO true d) := by show _ = _; rw [HU.out, if_pos hqs]
      have hne : (q.toList != s.toList) = false := by rw [hqs]; simp
      have hne2 : (q.toList == s.toList) = true := by rw [hqs]; simp
      clear hqs
      go_wp2
      rw [Hn.out]
      exact bodyPost_ret (v := unqO true d) (by simp [results, Tryd.results6, go_sem, *]) rfl ⟨rfl, by refine Chg.setCell (Chg.setCell HC3.out ?_ _) ?_ _ <;> exact Or.inr (Nat.le_refl _)⟩
    · have Hn : Hid (r = unqO false ⟨#[]⟩) := by show _ = _; rw [HU.out, if_neg hqs]
      have hqs2 : ¬ q.toList = s.toList := fun h => hqs ((str_eq_iff q s).1 h)
      have hne : (q.toList != s.toList) = true := by rw [bne_iff_ne]; exact hqs2
      have hne2 : (q.toList == s.toList) = false := by rw [beq_eq_false_iff_ne]; exact hqs2
      clear hqs
      go_wp2
      rw [Hn.out]
      exact bodyPost_ret (v := unqO false ⟨#[]⟩) (by simp [results, Tryd.results6, go_sem, *]) rfl ⟨rfl, by refine Chg.setCell (Chg.setCell HC3.out ?_ _) ?_ _ <;> exact Or.inr (Nat.le_refl _)⟩

end Go.Proofs.YtmbonljmghpcmaaDoor
