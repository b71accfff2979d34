/- DirFind of the program. -/
import Derived.Test.YtnodnpphiigcgaaDirAdd
namespace Go.Proofs.Ytnodnpphiigcgaa
open Go.RowKit

theorem DirO.low {base base' : Nat} {W : World} {bd bm : Nat} {v : Value} {D : DataW Unit} {ts : List Ent} (h : DirO base W bd bm v D ts) (hb : base' ≤ base) : DirO base' W bd bm v D ts := by
  refine ⟨h.cells, ⟨Nat.le_trans hb h.lo.1, Nat.le_trans hb h.lo.2⟩, ?_, h.map, h.says⟩
  rcases h.own.2 with h1 | ⟨g, cap, cur, hv, hg, r⟩
  · exact ⟨h.own.1, Or.inl h1⟩
  · exact ⟨h.own.1, Or.inr ⟨g, cap, cur, hv, Nat.le_trans hb hg, r⟩⟩

set_option maxRecDepth 20000 in
set_option maxHeartbeats 1000000 in
theorem find_calls (base : Nat) (W : World) (bd bm : Nat) (v : Value) (D : DataW Unit) (ts : List Ent) (s : ByteArray) (h : DirO base W bd bm v D ts) (hs : s.size ≤ 1048576) :
    Calls Try.prog 12 #[.pointer (some ⟨bd, 0, none⟩), .string s] W fun e W' => e = .returned (.int .i64 (findD ts s)) ∧ Chg 0 0 W W' := by
  obtain ⟨c, hc, hLook⟩ := look_at h.map h.says s (by unfold maxLen; omega)
  have hlk := hLook W h.map
  obtain ⟨p0, p1⟩ := dir_cells h.cells
  by_cases hf : findD ts s = -1
  · rw [decide_eq_false (fun h' => h' hf)] at hlk
    have HF : Hid (findD ts s = -1) := hf
    clear hf hc hLook h
    go_enter Try.func12, Try.ntmps12
    go_wp2
    go_ret
    exact ⟨by rw [HF.out]; rfl, Chg.refl _ _ _⟩
  · rw [decide_eq_true hf] at hlk
    have HF : Hid (c = findD ts s) := hc hf
    clear hf hc hLook h
    go_enter Try.func12, Try.ntmps12
    go_wp2
    go_ret
    exact ⟨by rw [← HF.out]; rfl, Chg.refl _ _ _⟩

set_option maxRecDepth 20000 in
set_option maxHeartbeats 2000000 in
theorem directoryOf_some (w : World) (ts : List Ent) (ao : Option Addr) (cap : Nat) (hl : ts.length ≤ 1048576) (hz : ∀ i, i < ts.length → (ts.getD i Ent.none).2.size ≤ 1048576)
    (h1 : ts = [] ∨ ∃ b off, ao = some ⟨b, off, none⟩ ∧ ∀ i, i < ts.length → EAt w b (off + i * 2) (ts.getD i Ent.none)) :
    Calls Try.prog 11 #[.slice ao ts.length cap] w fun e w' => ∃ bd bm v D, e = .returned (.pointer (some ⟨bd, 0, none⟩)) ∧ DirO w.heap.size w' bd bm v D ts ∧ Chg 0 0 w w' := by
  have hmk : ∀ x : World, (Instr.makeMap 38 none).run Try.prog x = .ok (.map (some x.heap.size)) (x.alloc (.map #[] 0)) := fun _ => rfl
  have hM0 := World.ownsMap_made w Try.prog 9 (plainElem (H := Unit) Try.prog 2)
  have hD0 : DirO w.heap.size ((w.alloc (.map #[] 0)).alloc (.cells #[.slice none 0 0, .map (some w.heap.size)] 40)) (w.heap.size + 1) w.heap.size (.slice none 0 0) (.map []) [] :=
    ⟨(alloc2 w _ _).2.2, by omega, ⟨rfl, Or.inl ⟨rfl, rfl⟩⟩, hM0.alloc _, Says.nil⟩
  have hC0 : Chg 0 0 w ((w.alloc (.map #[] 0)).alloc (.cells #[.slice none 0 0, .map (some w.heap.size)] 40)) := (Chg.alloc (Chg.refl 0 0 w) _).alloc _
  have hsz : (w.alloc (.map #[] 0)).heap.size = w.heap.size + 1 := by simp
  clear hM0
  go_enter Try.func11, Try.ntmps11
  go_wp2
  generalize ((w.alloc (.map #[] 0)).alloc (.cells #[.slice none 0 0, .map (some w.heap.size)] 40)) = w1 at *
  go_loopw [11] (fun x wr => ∃ (k : Nat) (v : Value) (D : DataW Unit), k ≤ ts.length ∧ x = .int .i64 k ∧ DirO w.heap.size wr (w.heap.size + 1) w.heap.size v D (ts.take k) ∧ Chg 0 0 w wr) (fun x _ => ts.length - (intOf x).toNat)
  case atStart => exact ⟨0, _, _, Nat.zero_le _, rfl, hD0, hC0⟩
  case round =>
    clear hD0 hC0
    obtain ⟨k, v, D, hk, rfl, hd, hc⟩ := hrel
    by_cases hlt : k < ts.length
    · obtain ⟨b, off, rfl, hce⟩ := h1.resolve_left (fun h => by rw [h] at hlt; exact absurd hlt (Nat.not_lt_zero k))
      obtain ⟨c1, c2⟩ := (hce k hlt).chg hc (by omega)
      have hx : ts.getD k Ent.none = ts[k] := by simp [List.getD_eq_getElem?_getD, hlt]
      have HT : Hid (ts.take (k + 1) = ts.take k ++ [ts.getD k Ent.none]) := by show _ = _; rw [List.take_succ_eq_append_getElem hlt, hx]
      have hi : (k : Int) < (ts.length : Int) := by omega
      have hz' := hz k hlt
      generalize ts.getD k Ent.none = t at *
      have C1 : Chg 0 0 wr (wr.alloc (.cells #[.int .i64 t.1, .string t.2] 32)) := Chg.alloc (Chg.refl 0 0 wr) _
      have hN := add_calls w.heap.size (wr.alloc (.cells #[.int .i64 t.1, .string t.2] 32)) (w.heap.size + 1) w.heap.size v D (ts.take k) t (hd.chg C1 (by omega)) hz' (by rw [List.length_take]; omega)
      have HC1 : Hid (Chg 0 0 w (wr.alloc (.cells #[.int .i64 t.1, .string t.2] 32))) := hc.trans C1
      obtain ⟨e0, e1⟩ := duoE (heap_new wr (.cells #[.int .i64 t.1, .string t.2] 32))
      clear hx hd hc C1 hce h1 hz hz'
      go_wp2_with (go_at_call 14; refine hN.mono ?_; clear hN; rintro e w3 ⟨⟨x, rfl⟩, hd3, hc3⟩)
      obtain ⟨v3, D3, hd3⟩ := hd3
      go_roundw
      case rel => exact ⟨k + 1, v3, D3, by omega, by go_num, by rw [HT.out]; exact hd3, HC1.out.step hc3 (by omega)⟩
      case measure => simp [intOf]; omega
    · obtain rfl : k = ts.length := by omega
      rw [List.take_length] at hd
      have HD : Hid (DirO w.heap.size wr (w.heap.size + 1) w.heap.size v D ts) := hd
      clear hd h1 hz
      go_wp2
      go_ret
      exact ⟨_, _, _, _, rfl, HD.out, hc⟩

set_option maxRecDepth 20000 in
set_option maxHeartbeats 1000000 in
theorem implDirFind_calls (w : World) {lo hi : Nat} {a : Value} {ts : List Ent} (s : ByteArray) (hl : ts.length ≤ 1048576) (hz : ∀ i, i < ts.length → (ts.getD i Ent.none).2.size ≤ 1048576) (hs : s.size ≤ 1048576) (h1 : EView w lo hi a ts) :
    Calls Try.prog 7 #[a, .string s] w fun e w' => e = .returned (.int .i64 (findD ts s)) ∧ Chg 0 0 w w' := by
  obtain ⟨ao, cap, rfl, _, _, h1⟩ := h1
  have hN := directoryOf_some w ts ao cap hl hz (by
    rcases h1 with h1 | ⟨x, off, hao, _, _, h1⟩
    · exact Or.inl h1
    · exact Or.inr ⟨x, off, hao, h1⟩)
  clear h1
  go_enter Try.func7, Try.ntmps7
  go_wp2_with (first
    | (go_at_call 11; refine hN.mono ?_; clear hN; rintro e w2 ⟨bd, bm, v, D, rfl, hd, hc⟩; have hN2 := find_calls w.heap.size w2 bd bm v D ts s hd hs; clear hd)
    | (go_at_call 12; refine hN2.mono ?_; clear hN2; rintro e w3 ⟨rfl, hc3⟩))
  go_ret
  exact ⟨rfl, hc.trans hc3⟩

end Go.Proofs.Ytnodnpphiigcgaa
