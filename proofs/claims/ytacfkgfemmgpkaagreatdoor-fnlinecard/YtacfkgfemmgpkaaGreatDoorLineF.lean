/- Several short texts in one: ImplUnq, TakeC, LineF. -/
import Derived.Test.YtacfkgfemmgpkaaGreatDoorImplQuote
import Derived.Test.YtacfkgfemmgpkaaGreatDoorTakeA
import Derived.Test.YtacfkgfemmgpkaaGreatDoorLineWord
import Derived.Test.YtacfkgfemmgpkaaGreatDoorQuoteMath
import Derived.Lib.SlicesS
namespace Go.Proofs.YtacfkgfemmgpkaaGreatDoor
open Go.RowKit Go.Lib

theorem looseN_len : ∀ (f : Nat) (l : List UInt8), (looseN f l).length ≤ l.length
  | 0, _ => Nat.zero_le _
  | _ + 1, [] => Nat.le_refl _
  | n + 1, c :: r => by
    rw [looseN_c]
    split
    · have := looseN_len n (r.drop 2)
      rw [List.length_drop] at this
      simp only [List.length_cons]
      omega
    · have := looseN_len n r
      simp only [List.length_cons]
      omega

theorem looseV_size (s : ByteArray) : (looseV s).size ≤ s.size := by
  unfold looseV
  split
  · exact Nat.zero_le _
  · rw [strOfNums_size, Lib.size_eq s]
    exact looseN_len _ _

theorem str_eq_iff (a b : ByteArray) : a.toList = b.toList ↔ a = b := by
  rw [ByteArray.toList_eq, ByteArray.toList_eq]
  constructor
  · intro h
    apply ByteArray.ext
    apply Array.ext'
    exact h
  · rintro rfl; rfl

set_option maxRecDepth 20000 in
set_option maxHeartbeats 2000000 in
theorem implUnquote_calls (w : World) (s : ByteArray) (hl : s.size ≤ 1048576) (hE : SynE w) :
    Calls Tryz.prog 47 #[.string s] w fun e w' => e = .returned (unqV s) ∧ Chg 0 0 w w' := by
  obtain ⟨r, Hr⟩ : ∃ r, Hid (r = unqV s) := ⟨_, rfl⟩
  rw [← Hr.out]
  have HA : Hid (Chg 0 0 w (w.alloc (.cells #[.bool false, .string ⟨#[]⟩] 76))) := Chg.alloc (Chg.refl 0 0 w) _
  have HB : Hid ((w.alloc (.cells #[.bool false, .string ⟨#[]⟩] 76)).heap[w.heap.size]? = some (.cells #[.bool false, .string ⟨#[]⟩] 76 (0, 0))) := heap_new w _
  by_cases hs : s.toList = [37]
  · have hb : (s.toList == [37]) = true := by rw [hs]; rfl
    have hb2 : (s.toList != [37]) = false := by rw [hs]; rfl
    have hv : looseV s = ⟨#[]⟩ := by unfold looseV; rw [if_pos hs]
    have hq := fun W => implQuote_calls W ⟨#[]⟩ (by decide)
    have HU : Hid (r = if quoV ⟨#[]⟩ = s then unqO true ⟨#[]⟩ else unqO false ⟨#[]⟩) := by show _ = _; rw [Hr.out, unq_loose s, hv]
    clear hv
    generalize quoV ⟨#[]⟩ = q at *
    have xHC := HA
    have xHB := HB
    clear HA HB
    go_enter Tryz.func47, Tryz.ntmps47
    go_wp2_with fail
    generalize w.alloc (.cells #[.bool false, .string ⟨#[]⟩] 76) = w2 at *
    clear hs hb hb2
    refine (hq _).mono ?_
    rintro e w3 ⟨rfl, c3⟩
    have HC3 : Hid (Chg 0 0 w w3) := xHC.out.trans c3
    have HB3 := (c3.block _ (Array.getElem?_eq_some_iff.1 xHB.out).1 (by omega)).trans xHB.out
    clear c3 hq
    obtain ⟨y0, y1, yf0, yf1⟩ := two_cells HB3
    clear HB3
    by_cases hqs : q = s
    · have Hn : Hid (r = unqO true ⟨#[]⟩) := by show _ = _; rw [HU.out, if_pos hqs]
      have hne : (q.toList != s.toList) = false := by rw [hqs]; simp
      have hne2 : (q.toList == s.toList) = true := by rw [hqs]; simp
      clear hqs
      go_wp2
      rw [Hn.out]
      exact bodyPost_ret (v := unqO true ⟨#[]⟩) (by simp [results, Tryz.results47, go_sem, *]) rfl ⟨rfl, by refine Chg.setCell (Chg.setCell HC3.out ?_ _) ?_ _ <;> exact Or.inr (Nat.le_refl _)⟩
    · have Hn : Hid (r = unqO false ⟨#[]⟩) := by show _ = _; rw [HU.out, if_neg hqs]
      have hqs2 : ¬ q.toList = s.toList := fun h => hqs ((str_eq_iff q s).1 h)
      have hne : (q.toList != s.toList) = true := by rw [bne_iff_ne]; exact hqs2
      have hne2 : (q.toList == s.toList) = false := by rw [beq_eq_false_iff_ne]; exact hqs2
      clear hqs
      go_wp2
      rw [Hn.out]
      exact bodyPost_ret (v := unqO false ⟨#[]⟩) (by simp [results, Tryz.results47, go_sem, *]) rfl ⟨rfl, by refine Chg.setCell (Chg.setCell HC3.out ?_ _) ?_ _ <;> exact Or.inr (Nat.le_refl _)⟩
  · have hL := fun W (h : SynE W) => loose_calls W s hl h
    have hv : looseV s = strOfNums (looseN s.size s.data.toList) := by unfold looseV; rw [if_neg hs]
    rw [← hv] at hL
    have hb : (s.toList == [37]) = false := by rw [beq_eq_false_iff_ne]; exact hs
    have hb2 : (s.toList != [37]) = true := by rw [bne_iff_ne]; exact hs
    have hq := fun W => implQuote_calls W (looseV s) (by have := looseV_size s; omega)
    have HU : Hid (r = if quoV (looseV s) = s then unqO true (looseV s) else unqO false ⟨#[]⟩) := by show _ = _; rw [Hr.out]; exact unq_loose s
    clear hv
    generalize looseV s = d at *
    generalize quoV d = q at *
    have hE2 := hE.chg HA.out
    go_enter Tryz.func47, Tryz.ntmps47
    go_wp2_with fail
    generalize w.alloc (.cells #[.bool false, .string ⟨#[]⟩] 76) = w1 at *
    refine (hL _ hE2).mono ?_
    rintro e w2 ⟨rfl, c2⟩
    have yHC : Hid (Chg 0 0 w w2) := HA.out.trans c2
    have yHB : Hid (w2.heap[w.heap.size]? = some (.cells #[.bool false, .string ⟨#[]⟩] 76 (0, 0))) := (c2.block _ (Array.getElem?_eq_some_iff.1 HB.out).1 (by omega)).trans HB.out
    clear c2 hL hE2 HA HB hs hb hb2
    go_wp2_with fail
    refine (hq _).mono ?_
    rintro e w3 ⟨rfl, c3⟩
    have HC3 : Hid (Chg 0 0 w w3) := yHC.out.trans c3
    have HB3 := (c3.block _ (Array.getElem?_eq_some_iff.1 yHB.out).1 (by omega)).trans yHB.out
    clear c3 hq
    obtain ⟨y0, y1, yf0, yf1⟩ := two_cells HB3
    clear HB3
    by_cases hqs : q = s
    · have Hn : Hid (r = unqO true d) := by show _ = _; rw [HU.out, if_pos hqs]
      have hne : (q.toList != s.toList) = false := by rw [hqs]; simp
      have hne2 : (q.toList == s.toList) = true := by rw [hqs]; simp
      clear hqs
      go_wp2
      rw [Hn.out]
      exact bodyPost_ret (v := unqO true d) (by simp [results, Tryz.results47, go_sem, *]) rfl ⟨rfl, by refine Chg.setCell (Chg.setCell HC3.out ?_ _) ?_ _ <;> exact Or.inr (Nat.le_refl _)⟩
    · have Hn : Hid (r = unqO false ⟨#[]⟩) := by show _ = _; rw [HU.out, if_neg hqs]
      have hqs2 : ¬ q.toList = s.toList := fun h => hqs ((str_eq_iff q s).1 h)
      have hne : (q.toList != s.toList) = true := by rw [bne_iff_ne]; exact hqs2
      have hne2 : (q.toList == s.toList) = false := by rw [beq_eq_false_iff_ne]; exact hqs2
      clear hqs
      go_wp2
      rw [Hn.out]
      exact bodyPost_ret (v := unqO false ⟨#[]⟩) (by simp [results, Tryz.results47, go_sem, *]) rfl ⟨rfl, by refine Chg.setCell (Chg.setCell HC3.out ?_ _) ?_ _ <;> exact Or.inr (Nat.le_refl _)⟩

end Go.Proofs.YtacfkgfemmgpkaaGreatDoor

namespace Go.Proofs.YtacfkgfemmgpkaaGreatDoor
open Go.RowKit Go.Lib

/-- What is unquoted. -/
noncomputable def unqD (x : ByteArray) : Option ByteArray := match unqR x with
  | none => none
  | some acc => some (strOfNums acc)
theorem unqD_none {x : ByteArray} (h : unqD x = none) : unqV x = unqO false ⟨#[]⟩ := by
  unfold unqD at h
  unfold unqV
  split at h
  · rename_i hr; rw [hr]
  · cases h
theorem unqD_some {x d : ByteArray} (h : unqD x = some d) : unqV x = unqO true d := by
  unfold unqD at h
  unfold unqV
  split at h
  · cases h
  · rename_i hr; injection h with h; rw [hr, ← h]

set_option maxHeartbeats 1000000 in
theorem takeData_ok : TakeOk 34 (fun s x => (unqD x).map fun d => { s with data := d }) := by
  intro W b s x hx _ _ hS _ _ hL
  have hb := hL.lt
  have hU := implUnquote_calls W x hx hS
  obtain ⟨g, d, e1, e2, HE⟩ : ∃ g d, unqV x = unqO g d ∧ ((unqD x).map fun d => { s with data := d }).isSome = g ∧ Hid (∀ s', ((unqD x).map fun d => { s with data := d }) = some s' → s' = { s with data := d }) := by
    cases hd : unqD x with
    | none => exact ⟨false, _, unqD_none hd, rfl, fun s' e => by cases e⟩
    | some d => exact ⟨true, d, unqD_some hd, rfl, fun s' e => by injection e with e; exact e.symm⟩
  rw [e1] at hU
  rw [e2]
  clear e1 e2
  go_enter Tryz.func34, Tryz.ntmps34
  go_wp2_with fail
  refine hU.mono ?_
  rintro e w2 ⟨rfl, c2⟩
  have c3 : Chg 0 0 W (w2.alloc (.cells #[.bool g, .string d] 76)) := c2.trans (Chg.alloc (Chg.refl 0 0 w2) _)
  have hs2 := c2.size
  obtain ⟨_, fz, hL4, c4⟩ := (hL.keep c3).put 7 (.string d) (s' := { s with data := d }) (fun nv => rfl) rfl
  obtain ⟨nv, h1, _⟩ := hL.keep c3
  have y : (w2.alloc (.cells #[.bool g, .string d] 76)).cell? ⟨b, 7, none⟩ = some (.string s.data) := by rw [Lib.cell_of_heap h1]; rfl
  have HL : Hid (LineAt ((w2.alloc (.cells #[.bool g, .string d] 76)).setCell ⟨b, 7, none⟩ (.string d)) b { s with data := d }) := hL4
  have HC : Hid (Chg b W.heap.size W ((w2.alloc (.cells #[.bool g, .string d] 76)).setCell ⟨b, 7, none⟩ (.string d))) := chg_into c3 c4
  have HO : Hid (Oth b W ((w2.alloc (.cells #[.bool g, .string d] 76)).setCell ⟨b, 7, none⟩ (.string d))) := oth_put c3 7 _
  have hne : b ≠ w2.heap.size := by omega
  obtain ⟨q0, q1, _, _⟩ := two_cells (heap_new w2 (.cells #[.bool g, .string d] 76))
  clear hL4 c4 h1 c3 c2 hU hL
  go_wp2
  go_ret
  exact ⟨rfl, fun s' e => by rw [HE.out s' e]; exact HL.out, HC.out, HO.out⟩

end Go.Proofs.YtacfkgfemmgpkaaGreatDoor

namespace Go.Proofs.YtacfkgfemmgpkaaGreatDoor
open Go.RowKit Go.Lib

noncomputable def longF (F : List ByteArray) : Option Lst :=
  if (F.getD 0 noText) = ⟨#[114, 101, 110, 97, 109, 101]⟩ then (if F.length = 3 then some ⟨1, 5, (F.getD 1 noText), (F.getD 2 noText), 0, 0, 0, ⟨#[]⟩, []⟩ else none) else
  if (F.getD 0 noText) = ⟨#[108, 105, 110, 107]⟩ then (if F.length = 3 then some ⟨1, 9, (F.getD 1 noText), (F.getD 2 noText), 0, 0, 0, ⟨#[]⟩, []⟩ else none) else
  if (F.getD 0 noText) = ⟨#[115, 121, 109, 108, 105, 110, 107]⟩ then (if F.length = 3 then some ⟨1, 10, (F.getD 1 noText), (F.getD 2 noText), 0, 0, 0, ⟨#[]⟩, []⟩ else none) else
  if (F.getD 0 noText) = ⟨#[97, 112, 112, 101, 110, 100]⟩ then (if F.length = 3 then (unqD (F.getD 2 noText)).map fun d => (⟨1, 8, (F.getD 1 noText), ⟨#[]⟩, 0, 0, 0, d, []⟩ : Lst) else none) else
  if (F.getD 0 noText) = ⟨#[119, 114, 105, 116, 101]⟩ then (if F.length = 4 then (numF (F.getD 2 noText)).bind fun n => (unqD (F.getD 3 noText)).map fun d => (⟨1, 6, (F.getD 1 noText), ⟨#[]⟩, 0, n, 0, d, []⟩ : Lst) else none) else
  if (F.getD 0 noText) = ⟨#[102, 105, 108, 108]⟩ then (if F.length = 5 ∧ ((F.getD 4 noText)).size = 1 ∧ 97 ≤ chr (F.getD 4 noText) 0 ∧ chr (F.getD 4 noText) 0 ≤ 122 then (numF (F.getD 2 noText)).bind fun n => (numF (F.getD 3 noText)).bind fun m => if 0 ≤ m ∧ m ≤ 3000 then some (⟨1, 6, (F.getD 1 noText), ⟨#[]⟩, 0, n, 0, (strOfNums (letL (chr (F.getD 4 noText) 0) m.toNat)), []⟩ : Lst) else none else none) else
  if (F.getD 0 noText) = ⟨#[116, 114, 117, 110, 99]⟩ then (if F.length = 3 then (numF (F.getD 2 noText)).map fun n => (⟨1, 7, (F.getD 1 noText), ⟨#[]⟩, 0, 0, n, ⟨#[]⟩, []⟩ : Lst) else none) else
  if (F.getD 0 noText) = ⟨#[114, 101, 97, 100]⟩ then (if F.length = 4 then (numF (F.getD 2 noText)).bind fun n => (numF (F.getD 3 noText)).map fun m => (⟨1, 17, (F.getD 1 noText), ⟨#[]⟩, 0, n, m, ⟨#[]⟩, []⟩ : Lst) else none) else
  none
noncomputable def hanF (F : List ByteArray) : Option Lst :=
  if (F.getD 0 noText) = ⟨#[99, 108, 111, 115, 101]⟩ then (if F.length = 2 then (numF (F.getD 1 noText)).map fun h => (⟨1, 13, ⟨#[]⟩, ⟨#[]⟩, h, 0, 0, ⟨#[]⟩, []⟩ : Lst) else none) else
  if (F.getD 0 noText) = ⟨#[102, 115, 116, 97, 116]⟩ then (if F.length = 2 then (numF (F.getD 1 noText)).map fun h => (⟨1, 16, ⟨#[]⟩, ⟨#[]⟩, h, 0, 0, ⟨#[]⟩, []⟩ : Lst) else none) else
  if (F.getD 0 noText) = ⟨#[102, 116, 114, 117, 110, 99]⟩ then (if F.length = 3 then (numF (F.getD 1 noText)).bind fun h => (numF (F.getD 2 noText)).map fun n => (⟨1, 12, ⟨#[]⟩, ⟨#[]⟩, h, 0, n, ⟨#[]⟩, []⟩ : Lst) else none) else
  if (F.getD 0 noText) = ⟨#[112, 114, 101, 97, 100]⟩ then (if F.length = 4 then (numF (F.getD 1 noText)).bind fun h => (numF (F.getD 2 noText)).bind fun n => (numF (F.getD 3 noText)).map fun m => (⟨1, 15, ⟨#[]⟩, ⟨#[]⟩, h, n, m, ⟨#[]⟩, []⟩ : Lst) else none) else
  if (F.getD 0 noText) = ⟨#[112, 119, 114, 105, 116, 101]⟩ then (if F.length = 4 then (numF (F.getD 1 noText)).bind fun h => (numF (F.getD 2 noText)).bind fun n => (unqD (F.getD 3 noText)).map fun d => (⟨1, 11, ⟨#[]⟩, ⟨#[]⟩, h, n, 0, d, []⟩ : Lst) else none) else
  none
noncomputable def armF (F : List ByteArray) : Option Lst := if (numsG [] (F.drop 1)).2 = true ∧ 1 ≤ (numsG [] (F.drop 1)).1.length ∧ (numsG [] (F.drop 1)).1.length ≤ 601 ∧ 1 ≤ (numsG [] (F.drop 1)).1.getD 0 0 then some ⟨4, 0, ⟨#[]⟩, ⟨#[]⟩, 0, 0, 0, ⟨#[]⟩, (numsG [] (F.drop 1)).1⟩ else none
noncomputable def crashF (F : List ByteArray) : Option Lst := if (numsG [] (F.drop 1)).2 = true ∧ (numsG [] (F.drop 1)).1.length ≤ 600 then some ⟨5, 0, ⟨#[]⟩, ⟨#[]⟩, 0, 0, 0, ⟨#[]⟩, (numsG [] (F.drop 1)).1⟩ else none
def orF (a b : Option Lst) : Option Lst := match a with
  | some s => some s
  | none => b
noncomputable def restF (F : List ByteArray) : Option Lst := orF (longF F) (hanF F)
noncomputable def modelF (F : List ByteArray) : Option Lst :=
  if containsS F ⟨#[]⟩ = true then none else
  if F.length = 1 ∧ (F.getD 0 noText) = ⟨#[116, 114, 101, 101]⟩ then some ⟨2, 0, ⟨#[]⟩, ⟨#[]⟩, 0, 0, 0, ⟨#[]⟩, []⟩ else
  if F.length = 1 ∧ (F.getD 0 noText) = ⟨#[99, 104, 101, 99, 107]⟩ then some ⟨3, 0, ⟨#[]⟩, ⟨#[]⟩, 0, 0, 0, ⟨#[]⟩, []⟩ else
  if F.length = 1 ∧ (F.getD 0 noText) = ⟨#[109, 111, 117, 110, 116]⟩ then some ⟨6, 0, ⟨#[]⟩, ⟨#[]⟩, 0, 0, 0, ⟨#[]⟩, []⟩ else
  if F.length = 1 ∧ 0 < loneN (F.getD 0 noText) then some ⟨1, (loneN (F.getD 0 noText)), ⟨#[]⟩, ⟨#[]⟩, 0, 0, 0, ⟨#[]⟩, []⟩ else
  if F.length = 2 ∧ 0 < wordN (F.getD 0 noText) then some ⟨1, (wordN (F.getD 0 noText)), (F.getD 1 noText), ⟨#[]⟩, 0, 0, 0, ⟨#[]⟩, []⟩ else
  if (F.getD 0 noText) = ⟨#[99, 114, 97, 115, 104]⟩ then crashF F else
  if (F.getD 0 noText) = ⟨#[97, 114, 109]⟩ then armF F else
  restF F

end Go.Proofs.YtacfkgfemmgpkaaGreatDoor
