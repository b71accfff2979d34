/- A call that is drawn. (made by tools/mkdrawc2.py) -/
import Derived.Test.YtacfkgfemmgpkaaGreatDoorDrawC1
namespace Go.Proofs.YtacfkgfemmgpkaaGreatDoor
open Go.RowKit

/-- A call of bounded texts. -/
def OkC (s : Lst) : Prop := s.path.size ≤ 3000 ∧ s.to'.size ≤ 3000 ∧ s.data.size ≤ 3000
theorem okC_mk {a b c d e : Int} {p t x : ByteArray} {n : List Int} (hp : p.size ≤ 3000) (ht : t.size ≤ 3000) (hx : x.size ≤ 3000) : OkC ⟨a, b, p, t, c, d, e, x, n⟩ := ⟨hp, ht, hx⟩
theorem sevenC {w : World} {s : Nat} {a b c d e f g : Value} {t : TypeId} (hh : w.heap[s]? = some (.cells #[a, b, c, d, e, f, g] t (0, 0))) :
    (w.cell? ⟨s, 0, none⟩ = some a ∧ w.cell? ⟨s, 1, none⟩ = some b ∧ w.cell? ⟨s, 2, none⟩ = some c ∧ w.cell? ⟨s, 3, none⟩ = some d ∧ w.cell? ⟨s, 4, none⟩ = some e ∧ w.cell? ⟨s, 5, none⟩ = some f ∧ w.cell? ⟨s, 6, none⟩ = some g) ∧
      w.frozen? ⟨s, 0, none⟩ = false ∧ w.frozen? ⟨s, 1, none⟩ = false ∧ w.frozen? ⟨s, 2, none⟩ = false ∧ w.frozen? ⟨s, 3, none⟩ = false ∧ w.frozen? ⟨s, 4, none⟩ = false ∧ w.frozen? ⟨s, 5, none⟩ = false ∧ w.frozen? ⟨s, 6, none⟩ = false := by
  simp [World.cell?, World.frozen?, hh]
abbrev cA (s : Lst) : Array Value := #[.int .i64 s.ck, .string s.path, .string s.to', .int .i64 s.han, .int .i64 s.off, .int .i64 s.siz, .string s.data]

set_option maxRecDepth 20000 in
set_option maxHeartbeats 8000000 in
theorem call_e {S : Sc} {w0 w : World} {A : Nat} (h : En S w0 w A) (hA : A ≤ 300000) :
    Calls Tryz.prog 25 #[.pointer (some ⟨S.p, 0, none⟩)] w fun e w' => ∃ s : Lst, e = .returned (.agg (cA s)) ∧ OkC s ∧ En S w0 w' (A + 900) := by
  have hz := h.size
  have hpt := h.top
  have HJ : Hid (∀ W A', En S (w.alloc (.cells #[.int .i64 0, .string ⟨#[]⟩, .string ⟨#[]⟩, .int .i64 0, .int .i64 0, .int .i64 0, .string ⟨#[]⟩] 29)) W A' → A' ≤ A + 900 → En S w0 W (A + 900)) := fun W A' k ha => ((h.alloc (.cells #[.int .i64 0, .string ⟨#[]⟩, .string ⟨#[]⟩, .int .i64 0, .int .i64 0, .int .i64 0, .string ⟨#[]⟩] 29)).join k).mono ha
  have HB : Hid (∀ W A', En S (w.alloc (.cells #[.int .i64 0, .string ⟨#[]⟩, .string ⟨#[]⟩, .int .i64 0, .int .i64 0, .int .i64 0, .string ⟨#[]⟩] 29)) W A' → W.heap[w.heap.size]? = some (.cells #[.int .i64 0, .string ⟨#[]⟩, .string ⟨#[]⟩, .int .i64 0, .int .i64 0, .int .i64 0, .string ⟨#[]⟩] 29 (0, 0))) := fun W A' k => (k.chg.block _ (by simp) (by omega)).trans (heap_new w _)
  have hs : En S (w.alloc (.cells #[.int .i64 0, .string ⟨#[]⟩, .string ⟨#[]⟩, .int .i64 0, .int .i64 0, .int .i64 0, .string ⟨#[]⟩] 29)) (w.alloc (.cells #[.int .i64 0, .string ⟨#[]⟩, .string ⟨#[]⟩, .int .i64 0, .int .i64 0, .int .i64 0, .string ⟨#[]⟩] 29)) A := (h.alloc _).self
  clear h
  go_enter Tryz.func25, Tryz.ntmps25
  go_wp2_with fail
  generalize w.alloc (.cells #[.int .i64 0, .string ⟨#[]⟩, .string ⟨#[]⟩, .int .i64 0, .int .i64 0, .int .i64 0, .string ⟨#[]⟩] 29) = W0 at *
  refine (next_e hs (by omega) 50 (by omega)).mono ?_
  rintro e w1 ⟨k, rfl, k0, k1, h1⟩
  replace k1 := k1 (by omega)
  go_wp2_with fail
  refine (path_e h1 (by omega)).mono ?_
  rintro e w2 ⟨t, rfl, ht, h2⟩
  clear h1 hs
  by_cases e6 : k < 6
  · skip
    obtain ⟨⟨y0, y1, y2, y3, y4, y5, y6⟩, f0, f1, f2, f3, f4, f5, f6⟩ := sevenC (HB.out _ _ h2)
    go_wp2
    exact bodyPost_ret (v := .agg #[.int .i64 1, .string t, .string ⟨#[]⟩, .int .i64 0, .int .i64 0, .int .i64 0, .string ⟨#[]⟩]) (by simp [results, Tryz.results25, go_sem, *]) rfl ⟨⟨0, 1, t, ⟨#[]⟩, 0, 0, 0, ⟨#[]⟩, []⟩, rfl, okC_mk (by omega : t.size ≤ 3000) (by decide : (⟨#[]⟩ : ByteArray).size ≤ 3000) (by decide : (⟨#[]⟩ : ByteArray).size ≤ 3000), (En.set (En.set (En.set (En.set (En.set (En.set (En.set (HJ.out _ _ h2 (by omega)) hz _) hz _) hz _) hz _) hz _) hz _) hz _)⟩
  by_cases e11 : k < 11
  · skip
    obtain ⟨⟨y0, y1, y2, y3, y4, y5, y6⟩, f0, f1, f2, f3, f4, f5, f6⟩ := sevenC (HB.out _ _ h2)
    go_wp2
    exact bodyPost_ret (v := .agg #[.int .i64 2, .string t, .string ⟨#[]⟩, .int .i64 0, .int .i64 0, .int .i64 0, .string ⟨#[]⟩]) (by simp [results, Tryz.results25, go_sem, *]) rfl ⟨⟨0, 2, t, ⟨#[]⟩, 0, 0, 0, ⟨#[]⟩, []⟩, rfl, okC_mk (by omega : t.size ≤ 3000) (by decide : (⟨#[]⟩ : ByteArray).size ≤ 3000) (by decide : (⟨#[]⟩ : ByteArray).size ≤ 3000), (En.set (En.set (En.set (En.set (En.set (En.set (En.set (HJ.out _ _ h2 (by omega)) hz _) hz _) hz _) hz _) hz _) hz _) hz _)⟩
  by_cases e14 : k < 14
  · skip
    obtain ⟨⟨y0, y1, y2, y3, y4, y5, y6⟩, f0, f1, f2, f3, f4, f5, f6⟩ := sevenC (HB.out _ _ h2)
    go_wp2
    exact bodyPost_ret (v := .agg #[.int .i64 3, .string t, .string ⟨#[]⟩, .int .i64 0, .int .i64 0, .int .i64 0, .string ⟨#[]⟩]) (by simp [results, Tryz.results25, go_sem, *]) rfl ⟨⟨0, 3, t, ⟨#[]⟩, 0, 0, 0, ⟨#[]⟩, []⟩, rfl, okC_mk (by omega : t.size ≤ 3000) (by decide : (⟨#[]⟩ : ByteArray).size ≤ 3000) (by decide : (⟨#[]⟩ : ByteArray).size ≤ 3000), (En.set (En.set (En.set (En.set (En.set (En.set (En.set (HJ.out _ _ h2 (by omega)) hz _) hz _) hz _) hz _) hz _) hz _) hz _)⟩
  by_cases e16 : k < 16
  · skip
    obtain ⟨⟨y0, y1, y2, y3, y4, y5, y6⟩, f0, f1, f2, f3, f4, f5, f6⟩ := sevenC (HB.out _ _ h2)
    go_wp2
    exact bodyPost_ret (v := .agg #[.int .i64 4, .string t, .string ⟨#[]⟩, .int .i64 0, .int .i64 0, .int .i64 0, .string ⟨#[]⟩]) (by simp [results, Tryz.results25, go_sem, *]) rfl ⟨⟨0, 4, t, ⟨#[]⟩, 0, 0, 0, ⟨#[]⟩, []⟩, rfl, okC_mk (by omega : t.size ≤ 3000) (by decide : (⟨#[]⟩ : ByteArray).size ≤ 3000) (by decide : (⟨#[]⟩ : ByteArray).size ≤ 3000), (En.set (En.set (En.set (En.set (En.set (En.set (En.set (HJ.out _ _ h2 (by omega)) hz _) hz _) hz _) hz _) hz _) hz _) hz _)⟩
  by_cases e20 : k < 20
  · skip
    go_wp2_with fail
    refine (path_e h2 (by omega)).mono ?_
    rintro e w3 ⟨u, rfl, u0, h3⟩
    clear h2
    obtain ⟨⟨y0, y1, y2, y3, y4, y5, y6⟩, f0, f1, f2, f3, f4, f5, f6⟩ := sevenC (HB.out _ _ h3)
    go_wp2
    exact bodyPost_ret (v := .agg #[.int .i64 5, .string t, .string u, .int .i64 0, .int .i64 0, .int .i64 0, .string ⟨#[]⟩]) (by simp [results, Tryz.results25, go_sem, *]) rfl ⟨⟨0, 5, t, u, 0, 0, 0, ⟨#[]⟩, []⟩, rfl, okC_mk (by omega : t.size ≤ 3000) (by omega : u.size ≤ 3000) (by decide : (⟨#[]⟩ : ByteArray).size ≤ 3000), (En.set (En.set (En.set (En.set (En.set (En.set (En.set (HJ.out _ _ h3 (by omega)) hz _) hz _) hz _) hz _) hz _) hz _) hz _)⟩
  by_cases e27 : k < 27
  · skip
    go_wp2_with fail
    refine (l12DrawOffset_e h2 (by omega)).mono ?_
    rintro e w3 ⟨x, rfl, h3⟩
    clear h2
    go_wp2_with fail
    refine (data_e h3 (by omega)).mono ?_
    rintro e w4 ⟨d, rfl, d0, h4⟩
    clear h3
    obtain ⟨⟨y0, y1, y2, y3, y4, y5, y6⟩, f0, f1, f2, f3, f4, f5, f6⟩ := sevenC (HB.out _ _ h4)
    go_wp2
    exact bodyPost_ret (v := .agg #[.int .i64 6, .string t, .string ⟨#[]⟩, .int .i64 0, .int .i64 x, .int .i64 0, .string d]) (by simp [results, Tryz.results25, go_sem, *]) rfl ⟨⟨0, 6, t, ⟨#[]⟩, 0, x, 0, d, []⟩, rfl, okC_mk (by omega : t.size ≤ 3000) (by decide : (⟨#[]⟩ : ByteArray).size ≤ 3000) (by omega : d.size ≤ 3000), (En.set (En.set (En.set (En.set (En.set (En.set (En.set (HJ.out _ _ h4 (by omega)) hz _) hz _) hz _) hz _) hz _) hz _) hz _)⟩
  by_cases e30 : k < 30
  · skip
    go_wp2_with fail
    refine (l12DrawOffset_e h2 (by omega)).mono ?_
    rintro e w3 ⟨x, rfl, h3⟩
    clear h2
    obtain ⟨⟨y0, y1, y2, y3, y4, y5, y6⟩, f0, f1, f2, f3, f4, f5, f6⟩ := sevenC (HB.out _ _ h3)
    go_wp2
    exact bodyPost_ret (v := .agg #[.int .i64 7, .string t, .string ⟨#[]⟩, .int .i64 0, .int .i64 0, .int .i64 x, .string ⟨#[]⟩]) (by simp [results, Tryz.results25, go_sem, *]) rfl ⟨⟨0, 7, t, ⟨#[]⟩, 0, 0, x, ⟨#[]⟩, []⟩, rfl, okC_mk (by omega : t.size ≤ 3000) (by decide : (⟨#[]⟩ : ByteArray).size ≤ 3000) (by decide : (⟨#[]⟩ : ByteArray).size ≤ 3000), (En.set (En.set (En.set (En.set (En.set (En.set (En.set (HJ.out _ _ h3 (by omega)) hz _) hz _) hz _) hz _) hz _) hz _) hz _)⟩
  by_cases e32 : k < 32
  · skip
    go_wp2_with fail
    refine (data_e h2 (by omega)).mono ?_
    rintro e w3 ⟨d, rfl, d0, h3⟩
    clear h2
    obtain ⟨⟨y0, y1, y2, y3, y4, y5, y6⟩, f0, f1, f2, f3, f4, f5, f6⟩ := sevenC (HB.out _ _ h3)
    go_wp2
    exact bodyPost_ret (v := .agg #[.int .i64 8, .string t, .string ⟨#[]⟩, .int .i64 0, .int .i64 0, .int .i64 0, .string d]) (by simp [results, Tryz.results25, go_sem, *]) rfl ⟨⟨0, 8, t, ⟨#[]⟩, 0, 0, 0, d, []⟩, rfl, okC_mk (by omega : t.size ≤ 3000) (by decide : (⟨#[]⟩ : ByteArray).size ≤ 3000) (by omega : d.size ≤ 3000), (En.set (En.set (En.set (En.set (En.set (En.set (En.set (HJ.out _ _ h3 (by omega)) hz _) hz _) hz _) hz _) hz _) hz _) hz _)⟩
  by_cases e35 : k < 35
  · skip
    go_wp2_with fail
    refine (path_e h2 (by omega)).mono ?_
    rintro e w3 ⟨u, rfl, u0, h3⟩
    clear h2
    obtain ⟨⟨y0, y1, y2, y3, y4, y5, y6⟩, f0, f1, f2, f3, f4, f5, f6⟩ := sevenC (HB.out _ _ h3)
    go_wp2
    exact bodyPost_ret (v := .agg #[.int .i64 9, .string t, .string u, .int .i64 0, .int .i64 0, .int .i64 0, .string ⟨#[]⟩]) (by simp [results, Tryz.results25, go_sem, *]) rfl ⟨⟨0, 9, t, u, 0, 0, 0, ⟨#[]⟩, []⟩, rfl, okC_mk (by omega : t.size ≤ 3000) (by omega : u.size ≤ 3000) (by decide : (⟨#[]⟩ : ByteArray).size ≤ 3000), (En.set (En.set (En.set (En.set (En.set (En.set (En.set (HJ.out _ _ h3 (by omega)) hz _) hz _) hz _) hz _) hz _) hz _) hz _)⟩
  by_cases e38 : k < 38
  · skip
    go_wp2_with fail
    refine (path_e h2 (by omega)).mono ?_
    rintro e w3 ⟨u, rfl, u0, h3⟩
    clear h2
    obtain ⟨⟨y0, y1, y2, y3, y4, y5, y6⟩, f0, f1, f2, f3, f4, f5, f6⟩ := sevenC (HB.out _ _ h3)
    go_wp2
    exact bodyPost_ret (v := .agg #[.int .i64 10, .string t, .string u, .int .i64 0, .int .i64 0, .int .i64 0, .string ⟨#[]⟩]) (by simp [results, Tryz.results25, go_sem, *]) rfl ⟨⟨0, 10, t, u, 0, 0, 0, ⟨#[]⟩, []⟩, rfl, okC_mk (by omega : t.size ≤ 3000) (by omega : u.size ≤ 3000) (by decide : (⟨#[]⟩ : ByteArray).size ≤ 3000), (En.set (En.set (En.set (En.set (En.set (En.set (En.set (HJ.out _ _ h3 (by omega)) hz _) hz _) hz _) hz _) hz _) hz _) hz _)⟩
  by_cases e40 : k < 40
  · skip
    go_wp2_with fail
    refine (l12DrawOffset_e h2 (by omega)).mono ?_
    rintro e w3 ⟨x, rfl, h3⟩
    clear h2
    go_wp2_with fail
    refine (next_e h3 (by omega) 300 (by omega)).mono ?_
    rintro e w4 ⟨y, rfl, y0, y1, h4⟩
    replace y1 := y1 (by omega)
    clear h3
    go_wp2_with fail
    refine (chance_e h4 (by omega) 20 (by omega)).mono ?_
    rintro e w5 ⟨b, rfl, h5⟩
    clear h4
    cases b
    · skip
      obtain ⟨⟨y0, y1, y2, y3, y4, y5, y6⟩, f0, f1, f2, f3, f4, f5, f6⟩ := sevenC (HB.out _ _ h5)
      go_wp2
      exact bodyPost_ret (v := .agg #[.int .i64 17, .string t, .string ⟨#[]⟩, .int .i64 0, .int .i64 x, .int .i64 y, .string ⟨#[]⟩]) (by simp [results, Tryz.results25, go_sem, *]) rfl ⟨⟨0, 17, t, ⟨#[]⟩, 0, x, y, ⟨#[]⟩, []⟩, rfl, okC_mk (by omega : t.size ≤ 3000) (by decide : (⟨#[]⟩ : ByteArray).size ≤ 3000) (by decide : (⟨#[]⟩ : ByteArray).size ≤ 3000), (En.set (En.set (En.set (En.set (En.set (En.set (En.set (HJ.out _ _ h5 (by omega)) hz _) hz _) hz _) hz _) hz _) hz _) hz _)⟩
    · skip
      obtain ⟨⟨y0, y1, y2, y3, y4, y5, y6⟩, f0, f1, f2, f3, f4, f5, f6⟩ := sevenC (HB.out _ _ h5)
      go_wp2
      exact bodyPost_ret (v := .agg #[.int .i64 17, .string t, .string ⟨#[]⟩, .int .i64 0, .int .i64 x, .int .i64 (-1), .string ⟨#[]⟩]) (by simp [results, Tryz.results25, go_sem, *]) rfl ⟨⟨0, 17, t, ⟨#[]⟩, 0, x, (-1), ⟨#[]⟩, []⟩, rfl, okC_mk (by omega : t.size ≤ 3000) (by decide : (⟨#[]⟩ : ByteArray).size ≤ 3000) (by decide : (⟨#[]⟩ : ByteArray).size ≤ 3000), (En.set (En.set (En.set (En.set (En.set (En.set (En.set (HJ.out _ _ h5 (by omega)) hz _) hz _) hz _) hz _) hz _) hz _) hz _)⟩
  by_cases e44 : k < 44
  · skip
    obtain ⟨⟨y0, y1, y2, y3, y4, y5, y6⟩, f0, f1, f2, f3, f4, f5, f6⟩ := sevenC (HB.out _ _ h2)
    go_wp2
    exact bodyPost_ret (v := .agg #[.int .i64 (18 + k - 40), .string t, .string ⟨#[]⟩, .int .i64 0, .int .i64 0, .int .i64 0, .string ⟨#[]⟩]) (by simp [results, Tryz.results25, go_sem, *]) rfl ⟨⟨0, (18 + k - 40), t, ⟨#[]⟩, 0, 0, 0, ⟨#[]⟩, []⟩, rfl, okC_mk (by omega : t.size ≤ 3000) (by decide : (⟨#[]⟩ : ByteArray).size ≤ 3000) (by decide : (⟨#[]⟩ : ByteArray).size ≤ 3000), (En.set (En.set (En.set (En.set (En.set (En.set (En.set (HJ.out _ _ h2 (by omega)) hz _) hz _) hz _) hz _) hz _) hz _) hz _)⟩
  by_cases e47 : k < 47
  · skip
    obtain ⟨⟨y0, y1, y2, y3, y4, y5, y6⟩, f0, f1, f2, f3, f4, f5, f6⟩ := sevenC (HB.out _ _ h2)
    go_wp2
    exact bodyPost_ret (v := .agg #[.int .i64 22, .string ⟨#[]⟩, .string ⟨#[]⟩, .int .i64 0, .int .i64 0, .int .i64 0, .string ⟨#[]⟩]) (by simp [results, Tryz.results25, go_sem, *]) rfl ⟨⟨0, 22, ⟨#[]⟩, ⟨#[]⟩, 0, 0, 0, ⟨#[]⟩, []⟩, rfl, okC_mk (by decide : (⟨#[]⟩ : ByteArray).size ≤ 3000) (by decide : (⟨#[]⟩ : ByteArray).size ≤ 3000) (by decide : (⟨#[]⟩ : ByteArray).size ≤ 3000), (En.set (En.set (En.set (En.set (En.set (En.set (En.set (HJ.out _ _ h2 (by omega)) hz _) hz _) hz _) hz _) hz _) hz _) hz _)⟩
  by_cases e47b : k = 47
  · subst e47b
    obtain ⟨⟨y0, y1, y2, y3, y4, y5, y6⟩, f0, f1, f2, f3, f4, f5, f6⟩ := sevenC (HB.out _ _ h2)
    go_wp2
    exact bodyPost_ret (v := .agg #[.int .i64 23, .string ⟨#[]⟩, .string ⟨#[]⟩, .int .i64 0, .int .i64 0, .int .i64 0, .string ⟨#[]⟩]) (by simp [results, Tryz.results25, go_sem, *]) rfl ⟨⟨0, 23, ⟨#[]⟩, ⟨#[]⟩, 0, 0, 0, ⟨#[]⟩, []⟩, rfl, okC_mk (by decide : (⟨#[]⟩ : ByteArray).size ≤ 3000) (by decide : (⟨#[]⟩ : ByteArray).size ≤ 3000) (by decide : (⟨#[]⟩ : ByteArray).size ≤ 3000), (En.set (En.set (En.set (En.set (En.set (En.set (En.set (HJ.out _ _ h2 (by omega)) hz _) hz _) hz _) hz _) hz _) hz _) hz _)⟩
  have f47 : (k == 47) = false := by simpa using e47b
  by_cases e48 : k = 48
  · subst e48
    go_wp2_with fail
    refine (next_e h2 (by omega) 2 (by omega)).mono ?_
    rintro e w3 ⟨r, rfl, r0, r1, h3⟩
    replace r1 := r1 (by omega)
    clear h2
    obtain ⟨⟨y0, y1, y2, y3, y4, y5, y6⟩, f0, f1, f2, f3, f4, f5, f6⟩ := sevenC (HB.out _ _ h3)
    go_wp2
    exact bodyPost_ret (v := .agg #[.int .i64 (24 + r), .string ⟨#[]⟩, .string ⟨#[]⟩, .int .i64 0, .int .i64 0, .int .i64 0, .string ⟨#[]⟩]) (by simp [results, Tryz.results25, go_sem, *]) rfl ⟨⟨0, (24 + r), ⟨#[]⟩, ⟨#[]⟩, 0, 0, 0, ⟨#[]⟩, []⟩, rfl, okC_mk (by decide : (⟨#[]⟩ : ByteArray).size ≤ 3000) (by decide : (⟨#[]⟩ : ByteArray).size ≤ 3000) (by decide : (⟨#[]⟩ : ByteArray).size ≤ 3000), (En.set (En.set (En.set (En.set (En.set (En.set (En.set (HJ.out _ _ h3 (by omega)) hz _) hz _) hz _) hz _) hz _) hz _) hz _)⟩
  have f48 : (k == 48) = false := by simpa using e48
  go_wp2_with fail
  refine (next_e h2 (by omega) 28 (by omega)).mono ?_
  rintro e w3 ⟨r, rfl, r0, r1, h3⟩
  replace r1 := r1 (by omega)
  clear h2
  go_wp2_with fail
  refine (next_e h3 (by omega) 3 (by omega)).mono ?_
  rintro e w4 ⟨q, rfl, q0, q1, h4⟩
  replace q1 := q1 (by omega)
  clear h3
  go_wp2_with fail
  refine (next_e h4 (by omega) 90 (by omega)).mono ?_
  rintro e w5 ⟨y, rfl, y0, y1, h5⟩
  replace y1 := y1 (by omega)
  clear h4
  obtain ⟨⟨y0, y1, y2, y3, y4, y5, y6⟩, f0, f1, f2, f3, f4, f5, f6⟩ := sevenC (HB.out _ _ h5)
  go_wp2
  exact bodyPost_ret (v := .agg #[.int .i64 r, .string t, .string ⟨#[47, 97]⟩, .int .i64 q, .int .i64 0, .int .i64 y, .string ⟨#[]⟩]) (by simp [results, Tryz.results25, go_sem, *]) rfl ⟨⟨0, r, t, ⟨#[47, 97]⟩, q, 0, y, ⟨#[]⟩, []⟩, rfl, okC_mk (by omega : t.size ≤ 3000) (by decide : (⟨#[47, 97]⟩ : ByteArray).size ≤ 3000) (by decide : (⟨#[]⟩ : ByteArray).size ≤ 3000), (En.set (En.set (En.set (En.set (En.set (En.set (En.set (HJ.out _ _ h5 (by omega)) hz _) hz _) hz _) hz _) hz _) hz _) hz _)⟩

end Go.Proofs.YtacfkgfemmgpkaaGreatDoor
