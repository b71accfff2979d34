/- What FnDisk turns on: DiskDo in two parts; a crash, an image, a read, block by block. -/
import Derived.Test.YtplfehjaakkldaaImplDo
import Derived.Test.YtplfehjaakkldaaImage
import Derived.Test.YtplfehjaakkldaaRead
import Derived.Test.YtplfehjaakkldaaCrash
namespace Go.Proofs.Ytplfehjaakkldaa
open Go.RowKit

theorem opD_keeps {d d' : Dsk} {o : Opx} (h : opD d o = some d') (hv : Valid d) : Valid d' := by
  unfold opD at h
  split at h
  · split at h
    · rename_i hc
      obtain ⟨h1, h2, h3, h4⟩ := hc
      cases h
      obtain ⟨v1, v2, v3, v4, v5⟩ := hv
      refine ⟨v1, v2, v3, by simp; omega, fun i hi => ?_⟩
      simp only [List.length_append, List.length_cons, List.length_nil] at hi
      by_cases e : i < d.pend.length
      · have := v5 i e
        simpa only [List.getD_eq_getElem?_getD, List.getElem?_append_left e] using this
      · obtain rfl : i = d.pend.length := by omega
        have e2 : (d.pend ++ [(o.2.1, o.2.2)]).getD d.pend.length (0, []) = (o.2.1, o.2.2) := by simp [List.getD_eq_getElem?_getD]
        show Good (d.dur.length / 64) ((d.pend ++ [(o.2.1, o.2.2)]).getD d.pend.length (0, []))
        rw [e2]
        exact ⟨h2, h3, h4⟩
    · cases h
  · split at h
    · split at h
      · cases h
        exact setD_valid _ hv
      · cases h
    · cases h

theorem runD_keeps {os : List Opx} {d d' : Dsk} (h : runD d os = some d') (hv : Valid d) : Valid d' := by
  induction os generalizing d with
  | nil => cases h; exact hv
  | cons o r ih =>
    simp only [runD] at h
    cases e : opD d o with
    | none => rw [e] at h; cases h
    | some d1 => rw [e] at h; exact ih h (opD_keeps e hv)

theorem firstN_all (os : List Opx) : firstN os (-1) = os := by unfold firstN; rw [if_pos (by omega)]

theorem firstN_at (os : List Opx) (k : Nat) (hk : k ≤ os.length) : firstN os (k : Int) = os.take k := by
  unfold firstN
  split
  · rename_i h
    obtain rfl : k = os.length := by omega
    rw [List.take_length]
  · simp

/-- DiskDo that tells a disk: a valid one, and all the same in two parts. -/
theorem doD_some {d : Dsk} {os : List Opx} (h : (doD d os (-1)).dur.length ≠ 0) : Valid (doD d os (-1)) ∧ ∀ k, k ≤ os.length →
    doD (doD d (os.take k) (-1)) (os.drop k) (-1) = doD d os (-1) ∧ doD d os (k : Int) = doD d (os.take k) (-1) ∧ Valid (doD d (os.take k) (-1)) := by
  unfold doD at h
  split at h
  · rename_i hc
    obtain ⟨hv, hl⟩ := hc
    have hv' := (validB_iff d).1 hv
    rw [firstN_all] at h
    cases hr : runD d os with
    | none => rw [hr] at h; exact absurd rfl h
    | some d' =>
      have hd : doD d os (-1) = d' := by unfold doD; rw [if_pos ⟨hv, hl⟩, firstN_all, hr]; rfl
      refine ⟨by rw [hd]; exact runD_keeps hr hv', fun k hk => ?_⟩
      have hs := runD_append d (os.take k) (os.drop k)
      rw [List.take_append_drop, hr] at hs
      cases ht : runD d (os.take k) with
      | none => rw [ht] at hs; cases hs
      | some d1 =>
        rw [ht] at hs
        have hv1 := runD_keeps ht hv'
        have h1 : doD d (os.take k) (-1) = d1 := by
          unfold doD; rw [if_pos ⟨hv, by rw [List.length_take]; omega⟩, firstN_all, ht]; rfl
        refine ⟨?_, ?_, by rw [h1]; exact hv1⟩
        · rw [h1, hd]
          unfold doD
          rw [if_pos ⟨validB_true hv1, by rw [List.length_drop]; omega⟩, firstN_all, ← show some d' = runD d1 (os.drop k) from hs]
          rfl
        · rw [h1]
          unfold doD
          rw [if_pos ⟨hv, hl⟩, firstN_at os k hk, ht]
          rfl
  · exact absurd rfl h

theorem doD_none {d : Dsk} {os : List Opx} (h : (doD d os (-1)).dur.length = 0) : (flushD (doD d os (-1))).dur.length = 0 := by
  unfold flushD
  rw [if_neg]
  · rfl
  · intro hv
    have := ((validB_iff _).1 hv).2.1
    rw [h] at this
    omega

theorem Valid.fits {d : Dsk} (h : Valid d) : d.dur.length ≤ 131072 ∧ d.pend.length ≤ 600 ∧ ∀ i, i < d.pend.length → (d.pend.getD i (0, [])).2.length = 64 := by
  obtain ⟨h1, h2, h3, h4, h5⟩ := h
  exact ⟨by omega, h4, fun i hi => (h5 i hi).2.2⟩

theorem Valid.fit {d : Dsk} (h : Valid d) : d.Fits := by
  obtain ⟨h1, h2, h3⟩ := h.fits
  exact ⟨by omega, by omega, fun i hi => by rw [h3 i hi]; omega⟩

/-- Block b of some bytes. -/
def blk (xs : List Int) (b : Nat) : List Int := (xs.drop (b * 64)).take 64

/-- What block b is behind the first k writes, those that are kept. -/
def sld (K : Nat → Bool) (ps : List Wr) (b : Nat) (dflt : List Int) : Nat → List Int
  | 0 => dflt
  | k + 1 => if (ps.getD k (0, [])).1 = (b : Int) ∧ K k = true then (ps.getD k (0, [])).2 else sld K ps b dflt k

theorem blk_splice (xs ys : List Int) (a b : Nat) (hy : ys.length = 64) (ha : a * 64 + 64 ≤ xs.length) : blk (splice xs (a * 64) ys) b = if a = b then ys else blk xs b := by
  unfold blk splice
  split
  · rename_i e
    subst e
    rw [List.drop_append_of_le_length (by rw [List.length_take]; omega), List.drop_of_length_le (by rw [List.length_take]; omega), List.nil_append, List.take_append_of_le_length (by omega), ← hy, List.take_length]
  · rename_i e
    apply List.ext_getElem?
    intro i
    simp only [List.getElem?_take, List.getElem?_drop]
    split
    · rename_i hi
      rcases Nat.lt_or_ge b a with h | h
      · rw [List.getElem?_append_left (by rw [List.length_take]; omega), List.getElem?_take, if_pos (by omega)]
      · have hl : ((xs.take (a * 64)) ++ ys).length = a * 64 + 64 := by rw [List.length_append, List.length_take, hy]; omega
        rw [← List.append_assoc, List.getElem?_append_right (by rw [hl]; omega), hl, List.getElem?_drop, hy]
        congr 1
        omega
    · rfl

theorem blk_stl (K : Nat → Bool) (d : Dsk) (hv : Valid d) (b : Nat) : ∀ k, k ≤ d.pend.length → blk (stl K d.pend d.dur k) b = sld K d.pend b (blk d.dur b) k
  | 0, _ => rfl
  | k + 1, hk => by
    have ih := blk_stl K d hv b k (by omega)
    obtain ⟨g1, g2, g3⟩ := hv.2.2.2.2 k (by omega)
    have hl := stl_length K d hv k (by omega)
    have hm := hv.1
    show blk (if K k = true then splice (stl K d.pend d.dur k) ((d.pend.getD k (0, [])).1.toNat * 64) (d.pend.getD k (0, [])).2 else stl K d.pend d.dur k) b = (if (d.pend.getD k (0, [])).1 = (b : Int) ∧ K k = true then (d.pend.getD k (0, [])).2 else sld K d.pend b (blk d.dur b) k)
    by_cases hK : K k = true
    · rw [if_pos hK, blk_splice _ _ _ _ g3 (by rw [hl]; omega), ih]
      by_cases e : (d.pend.getD k (0, [])).1 = (b : Int)
      · rw [if_pos (by omega), if_pos ⟨e, hK⟩]
      · rw [if_neg (by omega), if_neg (fun h => e h.1)]
    · rw [if_neg hK, if_neg (fun h => hK h.2), ih]

theorem see_sld (ps : List Wr) (b : Nat) (dflt : List Int) : ∀ k, k ≤ ps.length → seeTo (ps.take k) (b : Int) dflt = sld (fun _ => true) ps b dflt k
  | 0, _ => rfl
  | k + 1, hk => by
    have ih := see_sld ps b dflt k (by omega)
    have e : ps.getD k (0, []) = ps[k] := by simp [List.getD_eq_getElem?_getD, show k < ps.length by omega]
    rw [List.take_succ_eq_append_getElem (by omega), seeTo_append, ih]
    show _ = (if (ps.getD k (0, [])).1 = (b : Int) ∧ true = true then (ps.getD k (0, [])).2 else sld (fun _ => true) ps b dflt k)
    rw [e]
    simp [seeTo]

theorem sld_off (K : Nat → Bool) (ps : List Wr) (b m : Nat) (dflt : List Int) (h : ∀ i, m ≤ i → K i = false) : ∀ k, m ≤ k → sld K ps b dflt k = sld K ps b dflt m
  | 0, hk => by obtain rfl : m = 0 := by omega
                rfl
  | k + 1, hk => by
    by_cases e : m = k + 1
    · rw [e]
    · rw [← sld_off K ps b m dflt h k (by omega)]
      conv => lhs; unfold sld
      rw [if_neg (fun h' => by rw [h k (by omega)] at h'; exact absurd h'.2 (by simp))]

/-- A block of the image is what a reader sees. -/
theorem blk_image {d : Dsk} (hv : Valid d) (b : Nat) (hb : b < d.dur.length / 64) : readD d (b : Int) = blk (imageD d) b := by
  unfold readD imageD
  rw [if_pos ⟨validB_true hv, by omega, by omega⟩, if_pos (validB_true hv)]
  unfold setD
  show see d b = blk (stl _ d.pend d.dur d.pend.length) b
  rw [blk_stl _ d hv b _ (Nat.le_refl _), ← see_sld _ _ _ _ (Nat.le_refl _), List.take_length]
  rfl

/-- A block behind a crash. -/
theorem blk_crash {d : Dsk} (hv : Valid d) {keep : List Int} (hk : keep.length = 40) (b : Nat) : crashD d keep = setD (kp keep) d ∧ blk (crashD d keep).dur b = sld (kp keep) d.pend b (blk d.dur b) (min d.pend.length 40) := by
  have e : crashD d keep = setD (kp keep) d := by unfold crashD; rw [if_pos ⟨validB_true hv, by omega⟩]
  refine ⟨e, ?_⟩
  rw [e]
  show blk (stl _ d.pend d.dur d.pend.length) b = _
  rw [blk_stl _ d hv b _ (Nat.le_refl _)]
  rcases Nat.le_total d.pend.length 40 with h | h
  · rw [Nat.min_eq_left h]
  · rw [Nat.min_eq_right h]
    refine sld_off _ _ _ _ _ (fun i hi => ?_) _ h
    unfold kp
    rw [decide_eq_false (by omega)]; rfl

theorem crash_length {d : Dsk} (hv : Valid d) {keep : List Int} (hk : keep.length = 40) : (crashD d keep).dur.length = d.dur.length ∧ (crashD d keep).pend = [] := by
  rw [(blk_crash hv hk 0).1]
  exact ⟨stl_length _ d hv _ (Nat.le_refl _), rfl⟩

theorem flush_image {d : Dsk} (hv : Valid d) : (flushD d).dur = imageD d ∧ (flushD d).pend = [] ∧ (imageD d).length = d.dur.length := by
  unfold flushD imageD
  rw [if_pos (validB_true hv), if_pos (validB_true hv)]
  exact ⟨rfl, rfl, stl_length _ d hv _ (Nat.le_refl _)⟩

end Go.Proofs.Ytplfehjaakkldaa
