/- The commands of the program, found by their names. (made by tools/mkcmds.py) -/
import Derived.Test.YtacfkgfemmgpkaaGreatDoorLineWord
import Derived.Great.BuildSlice
import Derived.Carry
namespace Go.Proofs.YtacfkgfemmgpkaaGreatDoor
open Go.RowKit

abbrev cmdV (line call : Int) (sv : Value) (nums : Int) : Value := .agg #[.int .i64 line, .int .i64 call, sv, .int .i64 nums]
abbrev fnV (f : Nat) : Value := .func (.func f) #[] #[]

theorem callLine_calls (w : World) (call : Int) (ao : Option Addr) (n c : Nat) :
    Calls Tryz.prog 31 #[.int .i64 call, .slice ao n c] w fun e w' => e = .returned (cmdV 1 call (.slice ao n c) 0) ∧ Chg 0 0 w w' := by
  go_enter Tryz.func31, Tryz.ntmps31
  go_wp2
  exact bodyPost_ret (v := cmdV 1 call (.slice ao n c) 0) (by simp [results, Tryz.results31, go_sem]) rfl ⟨rfl, Chg.alloc (Chg.refl 0 0 w) _⟩

/-- A command: its name, its kind, its call, what takes its fields, how many numbers may follow. -/
structure Cmd where
  key : ByteArray
  line : Int
  call : Int
  fns : List Nat
  nums : Int
def FnR (b0 : Nat) (W : World) (sv : Value) (fns : List Nat) : Prop :=
  (fns = [] ∧ sv = .slice none 0 0) ∨ ∃ g, sv = .slice (some ⟨g, 0, none⟩) fns.length fns.length ∧ b0 < g ∧ W.heap[g]? = some (.cells (fns.map fnV).toArray 74 (0, 0))
def CmdOk (b0 : Nat) (W : World) : List Cmd → List (ByteArray × Value) → Prop
  | [], [] => True
  | c :: cs, p :: ps => p.1 = c.key ∧ (∃ sv, p.2 = cmdV c.line c.call sv c.nums ∧ FnR b0 W sv c.fns) ∧ CmdOk b0 W cs ps
  | _, _ => False
def CmdW (w W : World) (cs : List Cmd) : Prop := ∃ ps, MapT W w.heap.size ps ∧ CmdOk w.heap.size W cs ps ∧ Chg 0 0 w W

theorem FnR.keep {b0 : Nat} {W W' : World} {sv : Value} {fns : List Nat} (h : FnR b0 W sv fns) (hk : ∀ g, b0 < g → g < W.heap.size → W'.heap[g]? = W.heap[g]?) : FnR b0 W' sv fns := by
  rcases h with h | ⟨g, hv, hg, hh⟩
  · exact Or.inl h
  · exact Or.inr ⟨g, hv, hg, (hk g hg (Array.getElem?_eq_some_iff.1 hh).1).trans hh⟩
theorem CmdOk.keep {b0 : Nat} {W W' : World} (hk : ∀ g, b0 < g → g < W.heap.size → W'.heap[g]? = W.heap[g]?) : ∀ (cs : List Cmd) (ps : List (ByteArray × Value)), CmdOk b0 W cs ps → CmdOk b0 W' cs ps
  | [], [], h => h
  | _ :: cs, _ :: ps, ⟨h1, ⟨sv, h2, h3⟩, h4⟩ => ⟨h1, ⟨sv, h2, h3.keep hk⟩, CmdOk.keep hk cs ps h4⟩
  | [], _ :: _, h => h.elim
  | _ :: _, [], h => h.elim
theorem CmdOk.app {b0 : Nat} {W : World} {c : Cmd} {p : ByteArray × Value} (hp : p.1 = c.key ∧ ∃ sv, p.2 = cmdV c.line c.call sv c.nums ∧ FnR b0 W sv c.fns) : ∀ (cs : List Cmd) (ps : List (ByteArray × Value)), CmdOk b0 W cs ps → CmdOk b0 W (cs ++ [c]) (ps ++ [p])
  | [], [], _ => ⟨hp.1, hp.2, trivial⟩
  | _ :: cs, _ :: ps, ⟨h1, h2, h4⟩ => ⟨h1, h2, CmdOk.app hp cs ps h4⟩
  | [], _ :: _, h => h.elim
  | _ :: _, [], h => h.elim
theorem CmdOk.keys {b0 : Nat} {W : World} : ∀ (cs : List Cmd) (ps : List (ByteArray × Value)), CmdOk b0 W cs ps → ps.map Prod.fst = cs.map Cmd.key
  | [], [], _ => rfl
  | c :: cs, p :: ps, ⟨h1, _, h4⟩ => by rw [List.map_cons, List.map_cons, h1, CmdOk.keys cs ps h4]
  | [], _ :: _, h => h.elim
  | _ :: _, [], h => h.elim

theorem CmdW.chg {w W W' : World} {cs : List Cmd} (h : CmdW w W cs) (c : Chg 0 0 W W') : CmdW w W' cs := by
  obtain ⟨ps, h1, h2, h3⟩ := h
  exact ⟨ps, (c.block _ (Array.getElem?_eq_some_iff.1 h1).1 (by omega)).trans h1, CmdOk.keep (fun g _ hg => c.block g hg (by omega)) cs ps h2, h3.trans c⟩

theorem cmd_step {w W : World} {cs : List Cmd} (h : CmdW w W cs) (c : Cmd) (sv : Value) (hF : FnR w.heap.size W sv c.fns) (hn : (cs.map fun d => d.key.data.toList).contains c.key.data.toList = false) :
    ∃ W2, (Instr.mapUpdate 52 (.map (some w.heap.size)) (.string c.key) (cmdV c.line c.call sv c.nums)).run Tryz.prog W = .ok () W2 ∧ CmdW w W2 (cs ++ [c]) := by
  obtain ⟨ps, h1, h2, h3⟩ := h
  have hk := CmdOk.keys cs ps h2
  obtain ⟨W2, hr, m2, c2⟩ := run_insertT h1 Tryz.underlying52 Tryz.underlying9 c.key (cmdV c.line c.call sv c.nums) (fun p hp e => by
    have h1 : c.key ∈ cs.map Cmd.key := by rw [← hk, ← e]; exact List.mem_map.2 ⟨p, hp, rfl⟩
    obtain ⟨d, hd, e2⟩ := List.mem_map.1 h1
    have h2 : (cs.map fun d => d.key.data.toList).contains c.key.data.toList = true := by
      rw [List.contains_iff_mem]
      exact List.mem_map.2 ⟨d, hd, by rw [e2]⟩
    rw [hn] at h2
    cases h2)
  have hkeep : ∀ g, w.heap.size < g → g < W.heap.size → W2.heap[g]? = W.heap[g]? := fun g h1 h2 => c2.block g h2 (by omega)
  refine ⟨W2, hr, ps ++ [(c.key, cmdV c.line c.call sv c.nums)], m2, CmdOk.app ⟨rfl, sv, rfl, hF.keep hkeep⟩ cs ps (CmdOk.keep hkeep cs ps h2), h3.step c2 (Or.inr (Or.inl (Nat.le_refl _)))⟩

theorem fnr_new (w W : World) (fns : List Nat) (hs : w.heap.size < W.heap.size) {W' : World} (c : Chg 0 0 (W.alloc (.cells (fns.map fnV).toArray 74)) W') : FnR w.heap.size W' (.slice (some ⟨W.heap.size, 0, none⟩) fns.length fns.length) fns :=
  Or.inr ⟨W.heap.size, rfl, hs, (c.block _ (by simp) (by omega)).trans (heap_new W _)⟩
theorem CmdW.lt {w W : World} {cs : List Cmd} (h : CmdW w W cs) : w.heap.size < W.heap.size := by
  obtain ⟨ps, h1, _, _⟩ := h
  exact (Array.getElem?_eq_some_iff.1 h1).1

/-- All commands. -/
def theCmds : List Cmd := [
  ⟨⟨#[99, 114, 101, 97, 116, 101]⟩, 1, 1, [32], 0⟩,
  ⟨⟨#[109, 107, 100, 105, 114]⟩, 1, 2, [32], 0⟩,
  ⟨⟨#[117, 110, 108, 105, 110, 107]⟩, 1, 3, [32], 0⟩,
  ⟨⟨#[114, 109, 100, 105, 114]⟩, 1, 4, [32], 0⟩,
  ⟨⟨#[114, 101, 110, 97, 109, 101]⟩, 1, 5, [32, 33], 0⟩,
  ⟨⟨#[108, 105, 110, 107]⟩, 1, 9, [32, 33], 0⟩,
  ⟨⟨#[115, 121, 109, 108, 105, 110, 107]⟩, 1, 10, [32, 33], 0⟩,
  ⟨⟨#[97, 112, 112, 101, 110, 100]⟩, 1, 8, [32, 34], 0⟩,
  ⟨⟨#[119, 114, 105, 116, 101]⟩, 1, 6, [32, 35, 34], 0⟩,
  ⟨⟨#[102, 105, 108, 108]⟩, 1, 6, [32, 35, 36, 37], 0⟩,
  ⟨⟨#[116, 114, 117, 110, 99]⟩, 1, 7, [32, 38], 0⟩,
  ⟨⟨#[114, 101, 97, 100]⟩, 1, 17, [32, 35, 38], 0⟩,
  ⟨⟨#[115, 116, 97, 116]⟩, 1, 18, [32], 0⟩,
  ⟨⟨#[108, 115, 116, 97, 116]⟩, 1, 19, [32], 0⟩,
  ⟨⟨#[108, 105, 115, 116]⟩, 1, 20, [32], 0⟩,
  ⟨⟨#[114, 101, 97, 100, 108, 105, 110, 107]⟩, 1, 21, [32], 0⟩,
  ⟨⟨#[111, 112, 101, 110]⟩, 1, 14, [32], 0⟩,
  ⟨⟨#[99, 108, 111, 115, 101]⟩, 1, 13, [39], 0⟩,
  ⟨⟨#[102, 115, 116, 97, 116]⟩, 1, 16, [39], 0⟩,
  ⟨⟨#[112, 119, 114, 105, 116, 101]⟩, 1, 11, [39, 35, 34], 0⟩,
  ⟨⟨#[102, 116, 114, 117, 110, 99]⟩, 1, 12, [39, 38], 0⟩,
  ⟨⟨#[112, 114, 101, 97, 100]⟩, 1, 15, [39, 35, 38], 0⟩,
  ⟨⟨#[115, 121, 110, 99]⟩, 1, 22, [], 0⟩,
  ⟨⟨#[99, 104, 101, 99, 107, 112, 111, 105, 110, 116]⟩, 1, 23, [], 0⟩,
  ⟨⟨#[115, 112, 97, 99, 101]⟩, 1, 24, [], 0⟩,
  ⟨⟨#[108, 111, 103]⟩, 1, 25, [], 0⟩,
  ⟨⟨#[116, 114, 101, 101]⟩, 2, 0, [], 0⟩,
  ⟨⟨#[99, 104, 101, 99, 107]⟩, 3, 0, [], 0⟩,
  ⟨⟨#[109, 111, 117, 110, 116]⟩, 6, 0, [], 0⟩,
  ⟨⟨#[97, 114, 109]⟩, 4, 0, [40], 600⟩,
  ⟨⟨#[99, 114, 97, 115, 104]⟩, 5, 0, [], 600⟩]

set_option maxRecDepth 20000 in
set_option maxHeartbeats 16000000 in
theorem commands_calls (w : World) :
    Calls Tryz.prog 18 #[] w fun e w' => e = .returned (.map (some w.heap.size)) ∧ CmdW w w' theCmds := by
  have hM0 : MapT (w.alloc (.map #[] 0)) w.heap.size [] := heap_new w _
  have H0 : Hid (CmdW w (w.alloc (.map #[] 0)) []) := ⟨[], hM0, trivial, Chg.alloc (Chg.refl 0 0 w) _⟩
  have hmk : (Instr.makeMap 52 none).run Tryz.prog w = .ok (.map (some w.heap.size)) (w.alloc (.map #[] 0)) := run_makeMap _ w
  clear hM0
  go_enter Tryz.func18, Tryz.ntmps18
  go_wp2_with fail
  clear hmk
  have hl0 := H0.out.lt
  rw [show w.heap.size + 1 = (w.alloc (.map #[] 0)).heap.size by simp]
  generalize w.alloc (.map #[] 0) = w0 at *
  -- create
  have cA1 : Chg 0 0 w0 (w0.alloc (.cells ([32].map fnV).toArray 74)) := Chg.alloc (Chg.refl 0 0 w0) _
  refine (callLine_calls _ _ _ _ _).mono ?_
  rintro e v1 ⟨rfl, c1⟩
  obtain ⟨w1, hq, h1⟩ := cmd_step ((H0.out.chg cA1).chg c1) ⟨⟨#[99, 114, 101, 97, 116, 101]⟩, 1, 1, [32], 0⟩ _ (fnr_new w w0 [32] hl0 c1) (by decide)
  have hr : (Instr.mapUpdate 52 (.map (some w.heap.size)) (.string ⟨#[99, 114, 101, 97, 116, 101]⟩) (cmdV 1 1 (.slice (some ⟨w0.heap.size, 0, none⟩) 1 1) 0)).run Tryz.prog v1 = .ok () w1 := hq
  have H1 : Hid (CmdW w w1 ([] ++ [⟨⟨#[99, 114, 101, 97, 116, 101]⟩, 1, 1, [32], 0⟩])) := h1
  have hl1 := h1.lt
  clear hq h1 c1 cA1 H0
  go_wp2_with fail
  clear hr hl0 
  -- mkdir
  have cA2 : Chg 0 0 w1 (w1.alloc (.cells ([32].map fnV).toArray 74)) := Chg.alloc (Chg.refl 0 0 w1) _
  refine (callLine_calls _ _ _ _ _).mono ?_
  rintro e v2 ⟨rfl, c2⟩
  obtain ⟨w2, hq, h2⟩ := cmd_step ((H1.out.chg cA2).chg c2) ⟨⟨#[109, 107, 100, 105, 114]⟩, 1, 2, [32], 0⟩ _ (fnr_new w w1 [32] hl1 c2) (by decide)
  have hr : (Instr.mapUpdate 52 (.map (some w.heap.size)) (.string ⟨#[109, 107, 100, 105, 114]⟩) (cmdV 1 2 (.slice (some ⟨w1.heap.size, 0, none⟩) 1 1) 0)).run Tryz.prog v2 = .ok () w2 := hq
  have H2 : Hid (CmdW w w2 ([⟨⟨#[99, 114, 101, 97, 116, 101]⟩, 1, 1, [32], 0⟩] ++ [⟨⟨#[109, 107, 100, 105, 114]⟩, 1, 2, [32], 0⟩])) := h2
  have hl2 := h2.lt
  clear hq h2 c2 cA2 H1
  go_wp2_with fail
  clear hr hl1 
  -- unlink
  have cA3 : Chg 0 0 w2 (w2.alloc (.cells ([32].map fnV).toArray 74)) := Chg.alloc (Chg.refl 0 0 w2) _
  refine (callLine_calls _ _ _ _ _).mono ?_
  rintro e v3 ⟨rfl, c3⟩
  obtain ⟨w3, hq, h3⟩ := cmd_step ((H2.out.chg cA3).chg c3) ⟨⟨#[117, 110, 108, 105, 110, 107]⟩, 1, 3, [32], 0⟩ _ (fnr_new w w2 [32] hl2 c3) (by decide)
  have hr : (Instr.mapUpdate 52 (.map (some w.heap.size)) (.string ⟨#[117, 110, 108, 105, 110, 107]⟩) (cmdV 1 3 (.slice (some ⟨w2.heap.size, 0, none⟩) 1 1) 0)).run Tryz.prog v3 = .ok () w3 := hq
  have H3 : Hid (CmdW w w3 ([⟨⟨#[99, 114, 101, 97, 116, 101]⟩, 1, 1, [32], 0⟩, ⟨⟨#[109, 107, 100, 105, 114]⟩, 1, 2, [32], 0⟩] ++ [⟨⟨#[117, 110, 108, 105, 110, 107]⟩, 1, 3, [32], 0⟩])) := h3
  have hl3 := h3.lt
  clear hq h3 c3 cA3 H2
  go_wp2_with fail
  clear hr hl2 
  -- rmdir
  have cA4 : Chg 0 0 w3 (w3.alloc (.cells ([32].map fnV).toArray 74)) := Chg.alloc (Chg.refl 0 0 w3) _
  refine (callLine_calls _ _ _ _ _).mono ?_
  rintro e v4 ⟨rfl, c4⟩
  obtain ⟨w4, hq, h4⟩ := cmd_step ((H3.out.chg cA4).chg c4) ⟨⟨#[114, 109, 100, 105, 114]⟩, 1, 4, [32], 0⟩ _ (fnr_new w w3 [32] hl3 c4) (by decide)
  have hr : (Instr.mapUpdate 52 (.map (some w.heap.size)) (.string ⟨#[114, 109, 100, 105, 114]⟩) (cmdV 1 4 (.slice (some ⟨w3.heap.size, 0, none⟩) 1 1) 0)).run Tryz.prog v4 = .ok () w4 := hq
  have H4 : Hid (CmdW w w4 ([⟨⟨#[99, 114, 101, 97, 116, 101]⟩, 1, 1, [32], 0⟩, ⟨⟨#[109, 107, 100, 105, 114]⟩, 1, 2, [32], 0⟩, ⟨⟨#[117, 110, 108, 105, 110, 107]⟩, 1, 3, [32], 0⟩] ++ [⟨⟨#[114, 109, 100, 105, 114]⟩, 1, 4, [32], 0⟩])) := h4
  have hl4 := h4.lt
  clear hq h4 c4 cA4 H3
  go_wp2_with fail
  clear hr hl3 
  -- rename
  have cA5 : Chg 0 0 w4 (w4.alloc (.cells ([32, 33].map fnV).toArray 74)) := Chg.alloc (Chg.refl 0 0 w4) _
  refine (callLine_calls _ _ _ _ _).mono ?_
  rintro e v5 ⟨rfl, c5⟩
  obtain ⟨w5, hq, h5⟩ := cmd_step ((H4.out.chg cA5).chg c5) ⟨⟨#[114, 101, 110, 97, 109, 101]⟩, 1, 5, [32, 33], 0⟩ _ (fnr_new w w4 [32, 33] hl4 c5) (by decide)
  have hr : (Instr.mapUpdate 52 (.map (some w.heap.size)) (.string ⟨#[114, 101, 110, 97, 109, 101]⟩) (cmdV 1 5 (.slice (some ⟨w4.heap.size, 0, none⟩) 2 2) 0)).run Tryz.prog v5 = .ok () w5 := hq
  have H5 : Hid (CmdW w w5 ([⟨⟨#[99, 114, 101, 97, 116, 101]⟩, 1, 1, [32], 0⟩, ⟨⟨#[109, 107, 100, 105, 114]⟩, 1, 2, [32], 0⟩, ⟨⟨#[117, 110, 108, 105, 110, 107]⟩, 1, 3, [32], 0⟩, ⟨⟨#[114, 109, 100, 105, 114]⟩, 1, 4, [32], 0⟩] ++ [⟨⟨#[114, 101, 110, 97, 109, 101]⟩, 1, 5, [32, 33], 0⟩])) := h5
  have hl5 := h5.lt
  clear hq h5 c5 cA5 H4
  go_wp2_with fail
  clear hr hl4 
  -- link
  have cA6 : Chg 0 0 w5 (w5.alloc (.cells ([32, 33].map fnV).toArray 74)) := Chg.alloc (Chg.refl 0 0 w5) _
  refine (callLine_calls _ _ _ _ _).mono ?_
  rintro e v6 ⟨rfl, c6⟩
  obtain ⟨w6, hq, h6⟩ := cmd_step ((H5.out.chg cA6).chg c6) ⟨⟨#[108, 105, 110, 107]⟩, 1, 9, [32, 33], 0⟩ _ (fnr_new w w5 [32, 33] hl5 c6) (by decide)
  have hr : (Instr.mapUpdate 52 (.map (some w.heap.size)) (.string ⟨#[108, 105, 110, 107]⟩) (cmdV 1 9 (.slice (some ⟨w5.heap.size, 0, none⟩) 2 2) 0)).run Tryz.prog v6 = .ok () w6 := hq
  have H6 : Hid (CmdW w w6 ([⟨⟨#[99, 114, 101, 97, 116, 101]⟩, 1, 1, [32], 0⟩, ⟨⟨#[109, 107, 100, 105, 114]⟩, 1, 2, [32], 0⟩, ⟨⟨#[117, 110, 108, 105, 110, 107]⟩, 1, 3, [32], 0⟩, ⟨⟨#[114, 109, 100, 105, 114]⟩, 1, 4, [32], 0⟩, ⟨⟨#[114, 101, 110, 97, 109, 101]⟩, 1, 5, [32, 33], 0⟩] ++ [⟨⟨#[108, 105, 110, 107]⟩, 1, 9, [32, 33], 0⟩])) := h6
  have hl6 := h6.lt
  clear hq h6 c6 cA6 H5
  go_wp2_with fail
  clear hr hl5 
  -- symlink
  have cA7 : Chg 0 0 w6 (w6.alloc (.cells ([32, 33].map fnV).toArray 74)) := Chg.alloc (Chg.refl 0 0 w6) _
  refine (callLine_calls _ _ _ _ _).mono ?_
  rintro e v7 ⟨rfl, c7⟩
  obtain ⟨w7, hq, h7⟩ := cmd_step ((H6.out.chg cA7).chg c7) ⟨⟨#[115, 121, 109, 108, 105, 110, 107]⟩, 1, 10, [32, 33], 0⟩ _ (fnr_new w w6 [32, 33] hl6 c7) (by decide)
  have hr : (Instr.mapUpdate 52 (.map (some w.heap.size)) (.string ⟨#[115, 121, 109, 108, 105, 110, 107]⟩) (cmdV 1 10 (.slice (some ⟨w6.heap.size, 0, none⟩) 2 2) 0)).run Tryz.prog v7 = .ok () w7 := hq
  have H7 : Hid (CmdW w w7 ([⟨⟨#[99, 114, 101, 97, 116, 101]⟩, 1, 1, [32], 0⟩, ⟨⟨#[109, 107, 100, 105, 114]⟩, 1, 2, [32], 0⟩, ⟨⟨#[117, 110, 108, 105, 110, 107]⟩, 1, 3, [32], 0⟩, ⟨⟨#[114, 109, 100, 105, 114]⟩, 1, 4, [32], 0⟩, ⟨⟨#[114, 101, 110, 97, 109, 101]⟩, 1, 5, [32, 33], 0⟩, ⟨⟨#[108, 105, 110, 107]⟩, 1, 9, [32, 33], 0⟩] ++ [⟨⟨#[115, 121, 109, 108, 105, 110, 107]⟩, 1, 10, [32, 33], 0⟩])) := h7
  have hl7 := h7.lt
  clear hq h7 c7 cA7 H6
  go_wp2_with fail
  clear hr hl6 
  -- append
  have cA8 : Chg 0 0 w7 (w7.alloc (.cells ([32, 34].map fnV).toArray 74)) := Chg.alloc (Chg.refl 0 0 w7) _
  refine (callLine_calls _ _ _ _ _).mono ?_
  rintro e v8 ⟨rfl, c8⟩
  obtain ⟨w8, hq, h8⟩ := cmd_step ((H7.out.chg cA8).chg c8) ⟨⟨#[97, 112, 112, 101, 110, 100]⟩, 1, 8, [32, 34], 0⟩ _ (fnr_new w w7 [32, 34] hl7 c8) (by decide)
  have hr : (Instr.mapUpdate 52 (.map (some w.heap.size)) (.string ⟨#[97, 112, 112, 101, 110, 100]⟩) (cmdV 1 8 (.slice (some ⟨w7.heap.size, 0, none⟩) 2 2) 0)).run Tryz.prog v8 = .ok () w8 := hq
  have H8 : Hid (CmdW w w8 ([⟨⟨#[99, 114, 101, 97, 116, 101]⟩, 1, 1, [32], 0⟩, ⟨⟨#[109, 107, 100, 105, 114]⟩, 1, 2, [32], 0⟩, ⟨⟨#[117, 110, 108, 105, 110, 107]⟩, 1, 3, [32], 0⟩, ⟨⟨#[114, 109, 100, 105, 114]⟩, 1, 4, [32], 0⟩, ⟨⟨#[114, 101, 110, 97, 109, 101]⟩, 1, 5, [32, 33], 0⟩, ⟨⟨#[108, 105, 110, 107]⟩, 1, 9, [32, 33], 0⟩, ⟨⟨#[115, 121, 109, 108, 105, 110, 107]⟩, 1, 10, [32, 33], 0⟩] ++ [⟨⟨#[97, 112, 112, 101, 110, 100]⟩, 1, 8, [32, 34], 0⟩])) := h8
  have hl8 := h8.lt
  clear hq h8 c8 cA8 H7
  go_wp2_with fail
  clear hr hl7 
  -- write
  have cA9 : Chg 0 0 w8 (w8.alloc (.cells ([32, 35, 34].map fnV).toArray 74)) := Chg.alloc (Chg.refl 0 0 w8) _
  refine (callLine_calls _ _ _ _ _).mono ?_
  rintro e v9 ⟨rfl, c9⟩
  obtain ⟨w9, hq, h9⟩ := cmd_step ((H8.out.chg cA9).chg c9) ⟨⟨#[119, 114, 105, 116, 101]⟩, 1, 6, [32, 35, 34], 0⟩ _ (fnr_new w w8 [32, 35, 34] hl8 c9) (by decide)
  have hr : (Instr.mapUpdate 52 (.map (some w.heap.size)) (.string ⟨#[119, 114, 105, 116, 101]⟩) (cmdV 1 6 (.slice (some ⟨w8.heap.size, 0, none⟩) 3 3) 0)).run Tryz.prog v9 = .ok () w9 := hq
  have H9 : Hid (CmdW w w9 ([⟨⟨#[99, 114, 101, 97, 116, 101]⟩, 1, 1, [32], 0⟩, ⟨⟨#[109, 107, 100, 105, 114]⟩, 1, 2, [32], 0⟩, ⟨⟨#[117, 110, 108, 105, 110, 107]⟩, 1, 3, [32], 0⟩, ⟨⟨#[114, 109, 100, 105, 114]⟩, 1, 4, [32], 0⟩, ⟨⟨#[114, 101, 110, 97, 109, 101]⟩, 1, 5, [32, 33], 0⟩, ⟨⟨#[108, 105, 110, 107]⟩, 1, 9, [32, 33], 0⟩, ⟨⟨#[115, 121, 109, 108, 105, 110, 107]⟩, 1, 10, [32, 33], 0⟩, ⟨⟨#[97, 112, 112, 101, 110, 100]⟩, 1, 8, [32, 34], 0⟩] ++ [⟨⟨#[119, 114, 105, 116, 101]⟩, 1, 6, [32, 35, 34], 0⟩])) := h9
  have hl9 := h9.lt
  clear hq h9 c9 cA9 H8
  go_wp2_with fail
  clear hr hl8 
  -- fill
  have cA10 : Chg 0 0 w9 (w9.alloc (.cells ([32, 35, 36, 37].map fnV).toArray 74)) := Chg.alloc (Chg.refl 0 0 w9) _
  refine (callLine_calls _ _ _ _ _).mono ?_
  rintro e v10 ⟨rfl, c10⟩
  obtain ⟨w10, hq, h10⟩ := cmd_step ((H9.out.chg cA10).chg c10) ⟨⟨#[102, 105, 108, 108]⟩, 1, 6, [32, 35, 36, 37], 0⟩ _ (fnr_new w w9 [32, 35, 36, 37] hl9 c10) (by decide)
  have hr : (Instr.mapUpdate 52 (.map (some w.heap.size)) (.string ⟨#[102, 105, 108, 108]⟩) (cmdV 1 6 (.slice (some ⟨w9.heap.size, 0, none⟩) 4 4) 0)).run Tryz.prog v10 = .ok () w10 := hq
  have H10 : Hid (CmdW w w10 ([⟨⟨#[99, 114, 101, 97, 116, 101]⟩, 1, 1, [32], 0⟩, ⟨⟨#[109, 107, 100, 105, 114]⟩, 1, 2, [32], 0⟩, ⟨⟨#[117, 110, 108, 105, 110, 107]⟩, 1, 3, [32], 0⟩, ⟨⟨#[114, 109, 100, 105, 114]⟩, 1, 4, [32], 0⟩, ⟨⟨#[114, 101, 110, 97, 109, 101]⟩, 1, 5, [32, 33], 0⟩, ⟨⟨#[108, 105, 110, 107]⟩, 1, 9, [32, 33], 0⟩, ⟨⟨#[115, 121, 109, 108, 105, 110, 107]⟩, 1, 10, [32, 33], 0⟩, ⟨⟨#[97, 112, 112, 101, 110, 100]⟩, 1, 8, [32, 34], 0⟩, ⟨⟨#[119, 114, 105, 116, 101]⟩, 1, 6, [32, 35, 34], 0⟩] ++ [⟨⟨#[102, 105, 108, 108]⟩, 1, 6, [32, 35, 36, 37], 0⟩])) := h10
  have hl10 := h10.lt
  clear hq h10 c10 cA10 H9
  go_wp2_with fail
  clear hr hl9 
  -- trunc
  have cA11 : Chg 0 0 w10 (w10.alloc (.cells ([32, 38].map fnV).toArray 74)) := Chg.alloc (Chg.refl 0 0 w10) _
  refine (callLine_calls _ _ _ _ _).mono ?_
  rintro e v11 ⟨rfl, c11⟩
  obtain ⟨w11, hq, h11⟩ := cmd_step ((H10.out.chg cA11).chg c11) ⟨⟨#[116, 114, 117, 110, 99]⟩, 1, 7, [32, 38], 0⟩ _ (fnr_new w w10 [32, 38] hl10 c11) (by decide)
  have hr : (Instr.mapUpdate 52 (.map (some w.heap.size)) (.string ⟨#[116, 114, 117, 110, 99]⟩) (cmdV 1 7 (.slice (some ⟨w10.heap.size, 0, none⟩) 2 2) 0)).run Tryz.prog v11 = .ok () w11 := hq
  have H11 : Hid (CmdW w w11 ([⟨⟨#[99, 114, 101, 97, 116, 101]⟩, 1, 1, [32], 0⟩, ⟨⟨#[109, 107, 100, 105, 114]⟩, 1, 2, [32], 0⟩, ⟨⟨#[117, 110, 108, 105, 110, 107]⟩, 1, 3, [32], 0⟩, ⟨⟨#[114, 109, 100, 105, 114]⟩, 1, 4, [32], 0⟩, ⟨⟨#[114, 101, 110, 97, 109, 101]⟩, 1, 5, [32, 33], 0⟩, ⟨⟨#[108, 105, 110, 107]⟩, 1, 9, [32, 33], 0⟩, ⟨⟨#[115, 121, 109, 108, 105, 110, 107]⟩, 1, 10, [32, 33], 0⟩, ⟨⟨#[97, 112, 112, 101, 110, 100]⟩, 1, 8, [32, 34], 0⟩, ⟨⟨#[119, 114, 105, 116, 101]⟩, 1, 6, [32, 35, 34], 0⟩, ⟨⟨#[102, 105, 108, 108]⟩, 1, 6, [32, 35, 36, 37], 0⟩] ++ [⟨⟨#[116, 114, 117, 110, 99]⟩, 1, 7, [32, 38], 0⟩])) := h11
  have hl11 := h11.lt
  clear hq h11 c11 cA11 H10
  go_wp2_with fail
  clear hr hl10 
  -- read
  have cA12 : Chg 0 0 w11 (w11.alloc (.cells ([32, 35, 38].map fnV).toArray 74)) := Chg.alloc (Chg.refl 0 0 w11) _
  refine (callLine_calls _ _ _ _ _).mono ?_
  rintro e v12 ⟨rfl, c12⟩
  obtain ⟨w12, hq, h12⟩ := cmd_step ((H11.out.chg cA12).chg c12) ⟨⟨#[114, 101, 97, 100]⟩, 1, 17, [32, 35, 38], 0⟩ _ (fnr_new w w11 [32, 35, 38] hl11 c12) (by decide)
  have hr : (Instr.mapUpdate 52 (.map (some w.heap.size)) (.string ⟨#[114, 101, 97, 100]⟩) (cmdV 1 17 (.slice (some ⟨w11.heap.size, 0, none⟩) 3 3) 0)).run Tryz.prog v12 = .ok () w12 := hq
  have H12 : Hid (CmdW w w12 ([⟨⟨#[99, 114, 101, 97, 116, 101]⟩, 1, 1, [32], 0⟩, ⟨⟨#[109, 107, 100, 105, 114]⟩, 1, 2, [32], 0⟩, ⟨⟨#[117, 110, 108, 105, 110, 107]⟩, 1, 3, [32], 0⟩, ⟨⟨#[114, 109, 100, 105, 114]⟩, 1, 4, [32], 0⟩, ⟨⟨#[114, 101, 110, 97, 109, 101]⟩, 1, 5, [32, 33], 0⟩, ⟨⟨#[108, 105, 110, 107]⟩, 1, 9, [32, 33], 0⟩, ⟨⟨#[115, 121, 109, 108, 105, 110, 107]⟩, 1, 10, [32, 33], 0⟩, ⟨⟨#[97, 112, 112, 101, 110, 100]⟩, 1, 8, [32, 34], 0⟩, ⟨⟨#[119, 114, 105, 116, 101]⟩, 1, 6, [32, 35, 34], 0⟩, ⟨⟨#[102, 105, 108, 108]⟩, 1, 6, [32, 35, 36, 37], 0⟩, ⟨⟨#[116, 114, 117, 110, 99]⟩, 1, 7, [32, 38], 0⟩] ++ [⟨⟨#[114, 101, 97, 100]⟩, 1, 17, [32, 35, 38], 0⟩])) := h12
  have hl12 := h12.lt
  clear hq h12 c12 cA12 H11
  go_wp2_with fail
  clear hr hl11 
  -- stat
  have cA13 : Chg 0 0 w12 (w12.alloc (.cells ([32].map fnV).toArray 74)) := Chg.alloc (Chg.refl 0 0 w12) _
  refine (callLine_calls _ _ _ _ _).mono ?_
  rintro e v13 ⟨rfl, c13⟩
  obtain ⟨w13, hq, h13⟩ := cmd_step ((H12.out.chg cA13).chg c13) ⟨⟨#[115, 116, 97, 116]⟩, 1, 18, [32], 0⟩ _ (fnr_new w w12 [32] hl12 c13) (by decide)
  have hr : (Instr.mapUpdate 52 (.map (some w.heap.size)) (.string ⟨#[115, 116, 97, 116]⟩) (cmdV 1 18 (.slice (some ⟨w12.heap.size, 0, none⟩) 1 1) 0)).run Tryz.prog v13 = .ok () w13 := hq
  have H13 : Hid (CmdW w w13 ([⟨⟨#[99, 114, 101, 97, 116, 101]⟩, 1, 1, [32], 0⟩, ⟨⟨#[109, 107, 100, 105, 114]⟩, 1, 2, [32], 0⟩, ⟨⟨#[117, 110, 108, 105, 110, 107]⟩, 1, 3, [32], 0⟩, ⟨⟨#[114, 109, 100, 105, 114]⟩, 1, 4, [32], 0⟩, ⟨⟨#[114, 101, 110, 97, 109, 101]⟩, 1, 5, [32, 33], 0⟩, ⟨⟨#[108, 105, 110, 107]⟩, 1, 9, [32, 33], 0⟩, ⟨⟨#[115, 121, 109, 108, 105, 110, 107]⟩, 1, 10, [32, 33], 0⟩, ⟨⟨#[97, 112, 112, 101, 110, 100]⟩, 1, 8, [32, 34], 0⟩, ⟨⟨#[119, 114, 105, 116, 101]⟩, 1, 6, [32, 35, 34], 0⟩, ⟨⟨#[102, 105, 108, 108]⟩, 1, 6, [32, 35, 36, 37], 0⟩, ⟨⟨#[116, 114, 117, 110, 99]⟩, 1, 7, [32, 38], 0⟩, ⟨⟨#[114, 101, 97, 100]⟩, 1, 17, [32, 35, 38], 0⟩] ++ [⟨⟨#[115, 116, 97, 116]⟩, 1, 18, [32], 0⟩])) := h13
  have hl13 := h13.lt
  clear hq h13 c13 cA13 H12
  go_wp2_with fail
  clear hr hl12 
  -- lstat
  have cA14 : Chg 0 0 w13 (w13.alloc (.cells ([32].map fnV).toArray 74)) := Chg.alloc (Chg.refl 0 0 w13) _
  refine (callLine_calls _ _ _ _ _).mono ?_
  rintro e v14 ⟨rfl, c14⟩
  obtain ⟨w14, hq, h14⟩ := cmd_step ((H13.out.chg cA14).chg c14) ⟨⟨#[108, 115, 116, 97, 116]⟩, 1, 19, [32], 0⟩ _ (fnr_new w w13 [32] hl13 c14) (by decide)
  have hr : (Instr.mapUpdate 52 (.map (some w.heap.size)) (.string ⟨#[108, 115, 116, 97, 116]⟩) (cmdV 1 19 (.slice (some ⟨w13.heap.size, 0, none⟩) 1 1) 0)).run Tryz.prog v14 = .ok () w14 := hq
  have H14 : Hid (CmdW w w14 ([⟨⟨#[99, 114, 101, 97, 116, 101]⟩, 1, 1, [32], 0⟩, ⟨⟨#[109, 107, 100, 105, 114]⟩, 1, 2, [32], 0⟩, ⟨⟨#[117, 110, 108, 105, 110, 107]⟩, 1, 3, [32], 0⟩, ⟨⟨#[114, 109, 100, 105, 114]⟩, 1, 4, [32], 0⟩, ⟨⟨#[114, 101, 110, 97, 109, 101]⟩, 1, 5, [32, 33], 0⟩, ⟨⟨#[108, 105, 110, 107]⟩, 1, 9, [32, 33], 0⟩, ⟨⟨#[115, 121, 109, 108, 105, 110, 107]⟩, 1, 10, [32, 33], 0⟩, ⟨⟨#[97, 112, 112, 101, 110, 100]⟩, 1, 8, [32, 34], 0⟩, ⟨⟨#[119, 114, 105, 116, 101]⟩, 1, 6, [32, 35, 34], 0⟩, ⟨⟨#[102, 105, 108, 108]⟩, 1, 6, [32, 35, 36, 37], 0⟩, ⟨⟨#[116, 114, 117, 110, 99]⟩, 1, 7, [32, 38], 0⟩, ⟨⟨#[114, 101, 97, 100]⟩, 1, 17, [32, 35, 38], 0⟩, ⟨⟨#[115, 116, 97, 116]⟩, 1, 18, [32], 0⟩] ++ [⟨⟨#[108, 115, 116, 97, 116]⟩, 1, 19, [32], 0⟩])) := h14
  have hl14 := h14.lt
  clear hq h14 c14 cA14 H13
  go_wp2_with fail
  clear hr hl13 
  -- list
  have cA15 : Chg 0 0 w14 (w14.alloc (.cells ([32].map fnV).toArray 74)) := Chg.alloc (Chg.refl 0 0 w14) _
  refine (callLine_calls _ _ _ _ _).mono ?_
  rintro e v15 ⟨rfl, c15⟩
  obtain ⟨w15, hq, h15⟩ := cmd_step ((H14.out.chg cA15).chg c15) ⟨⟨#[108, 105, 115, 116]⟩, 1, 20, [32], 0⟩ _ (fnr_new w w14 [32] hl14 c15) (by decide)
  have hr : (Instr.mapUpdate 52 (.map (some w.heap.size)) (.string ⟨#[108, 105, 115, 116]⟩) (cmdV 1 20 (.slice (some ⟨w14.heap.size, 0, none⟩) 1 1) 0)).run Tryz.prog v15 = .ok () w15 := hq
  have H15 : Hid (CmdW w w15 ([⟨⟨#[99, 114, 101, 97, 116, 101]⟩, 1, 1, [32], 0⟩, ⟨⟨#[109, 107, 100, 105, 114]⟩, 1, 2, [32], 0⟩, ⟨⟨#[117, 110, 108, 105, 110, 107]⟩, 1, 3, [32], 0⟩, ⟨⟨#[114, 109, 100, 105, 114]⟩, 1, 4, [32], 0⟩, ⟨⟨#[114, 101, 110, 97, 109, 101]⟩, 1, 5, [32, 33], 0⟩, ⟨⟨#[108, 105, 110, 107]⟩, 1, 9, [32, 33], 0⟩, ⟨⟨#[115, 121, 109, 108, 105, 110, 107]⟩, 1, 10, [32, 33], 0⟩, ⟨⟨#[97, 112, 112, 101, 110, 100]⟩, 1, 8, [32, 34], 0⟩, ⟨⟨#[119, 114, 105, 116, 101]⟩, 1, 6, [32, 35, 34], 0⟩, ⟨⟨#[102, 105, 108, 108]⟩, 1, 6, [32, 35, 36, 37], 0⟩, ⟨⟨#[116, 114, 117, 110, 99]⟩, 1, 7, [32, 38], 0⟩, ⟨⟨#[114, 101, 97, 100]⟩, 1, 17, [32, 35, 38], 0⟩, ⟨⟨#[115, 116, 97, 116]⟩, 1, 18, [32], 0⟩, ⟨⟨#[108, 115, 116, 97, 116]⟩, 1, 19, [32], 0⟩] ++ [⟨⟨#[108, 105, 115, 116]⟩, 1, 20, [32], 0⟩])) := h15
  have hl15 := h15.lt
  clear hq h15 c15 cA15 H14
  go_wp2_with fail
  clear hr hl14 
  -- readlink
  have cA16 : Chg 0 0 w15 (w15.alloc (.cells ([32].map fnV).toArray 74)) := Chg.alloc (Chg.refl 0 0 w15) _
  refine (callLine_calls _ _ _ _ _).mono ?_
  rintro e v16 ⟨rfl, c16⟩
  obtain ⟨w16, hq, h16⟩ := cmd_step ((H15.out.chg cA16).chg c16) ⟨⟨#[114, 101, 97, 100, 108, 105, 110, 107]⟩, 1, 21, [32], 0⟩ _ (fnr_new w w15 [32] hl15 c16) (by decide)
  have hr : (Instr.mapUpdate 52 (.map (some w.heap.size)) (.string ⟨#[114, 101, 97, 100, 108, 105, 110, 107]⟩) (cmdV 1 21 (.slice (some ⟨w15.heap.size, 0, none⟩) 1 1) 0)).run Tryz.prog v16 = .ok () w16 := hq
  have H16 : Hid (CmdW w w16 ([⟨⟨#[99, 114, 101, 97, 116, 101]⟩, 1, 1, [32], 0⟩, ⟨⟨#[109, 107, 100, 105, 114]⟩, 1, 2, [32], 0⟩, ⟨⟨#[117, 110, 108, 105, 110, 107]⟩, 1, 3, [32], 0⟩, ⟨⟨#[114, 109, 100, 105, 114]⟩, 1, 4, [32], 0⟩, ⟨⟨#[114, 101, 110, 97, 109, 101]⟩, 1, 5, [32, 33], 0⟩, ⟨⟨#[108, 105, 110, 107]⟩, 1, 9, [32, 33], 0⟩, ⟨⟨#[115, 121, 109, 108, 105, 110, 107]⟩, 1, 10, [32, 33], 0⟩, ⟨⟨#[97, 112, 112, 101, 110, 100]⟩, 1, 8, [32, 34], 0⟩, ⟨⟨#[119, 114, 105, 116, 101]⟩, 1, 6, [32, 35, 34], 0⟩, ⟨⟨#[102, 105, 108, 108]⟩, 1, 6, [32, 35, 36, 37], 0⟩, ⟨⟨#[116, 114, 117, 110, 99]⟩, 1, 7, [32, 38], 0⟩, ⟨⟨#[114, 101, 97, 100]⟩, 1, 17, [32, 35, 38], 0⟩, ⟨⟨#[115, 116, 97, 116]⟩, 1, 18, [32], 0⟩, ⟨⟨#[108, 115, 116, 97, 116]⟩, 1, 19, [32], 0⟩, ⟨⟨#[108, 105, 115, 116]⟩, 1, 20, [32], 0⟩] ++ [⟨⟨#[114, 101, 97, 100, 108, 105, 110, 107]⟩, 1, 21, [32], 0⟩])) := h16
  have hl16 := h16.lt
  clear hq h16 c16 cA16 H15
  go_wp2_with fail
  clear hr hl15 
  -- open
  have cA17 : Chg 0 0 w16 (w16.alloc (.cells ([32].map fnV).toArray 74)) := Chg.alloc (Chg.refl 0 0 w16) _
  refine (callLine_calls _ _ _ _ _).mono ?_
  rintro e v17 ⟨rfl, c17⟩
  obtain ⟨w17, hq, h17⟩ := cmd_step ((H16.out.chg cA17).chg c17) ⟨⟨#[111, 112, 101, 110]⟩, 1, 14, [32], 0⟩ _ (fnr_new w w16 [32] hl16 c17) (by decide)
  have hr : (Instr.mapUpdate 52 (.map (some w.heap.size)) (.string ⟨#[111, 112, 101, 110]⟩) (cmdV 1 14 (.slice (some ⟨w16.heap.size, 0, none⟩) 1 1) 0)).run Tryz.prog v17 = .ok () w17 := hq
  have H17 : Hid (CmdW w w17 ([⟨⟨#[99, 114, 101, 97, 116, 101]⟩, 1, 1, [32], 0⟩, ⟨⟨#[109, 107, 100, 105, 114]⟩, 1, 2, [32], 0⟩, ⟨⟨#[117, 110, 108, 105, 110, 107]⟩, 1, 3, [32], 0⟩, ⟨⟨#[114, 109, 100, 105, 114]⟩, 1, 4, [32], 0⟩, ⟨⟨#[114, 101, 110, 97, 109, 101]⟩, 1, 5, [32, 33], 0⟩, ⟨⟨#[108, 105, 110, 107]⟩, 1, 9, [32, 33], 0⟩, ⟨⟨#[115, 121, 109, 108, 105, 110, 107]⟩, 1, 10, [32, 33], 0⟩, ⟨⟨#[97, 112, 112, 101, 110, 100]⟩, 1, 8, [32, 34], 0⟩, ⟨⟨#[119, 114, 105, 116, 101]⟩, 1, 6, [32, 35, 34], 0⟩, ⟨⟨#[102, 105, 108, 108]⟩, 1, 6, [32, 35, 36, 37], 0⟩, ⟨⟨#[116, 114, 117, 110, 99]⟩, 1, 7, [32, 38], 0⟩, ⟨⟨#[114, 101, 97, 100]⟩, 1, 17, [32, 35, 38], 0⟩, ⟨⟨#[115, 116, 97, 116]⟩, 1, 18, [32], 0⟩, ⟨⟨#[108, 115, 116, 97, 116]⟩, 1, 19, [32], 0⟩, ⟨⟨#[108, 105, 115, 116]⟩, 1, 20, [32], 0⟩, ⟨⟨#[114, 101, 97, 100, 108, 105, 110, 107]⟩, 1, 21, [32], 0⟩] ++ [⟨⟨#[111, 112, 101, 110]⟩, 1, 14, [32], 0⟩])) := h17
  have hl17 := h17.lt
  clear hq h17 c17 cA17 H16
  go_wp2_with fail
  clear hr hl16 
  -- close
  have cA18 : Chg 0 0 w17 (w17.alloc (.cells ([39].map fnV).toArray 74)) := Chg.alloc (Chg.refl 0 0 w17) _
  refine (callLine_calls _ _ _ _ _).mono ?_
  rintro e v18 ⟨rfl, c18⟩
  obtain ⟨w18, hq, h18⟩ := cmd_step ((H17.out.chg cA18).chg c18) ⟨⟨#[99, 108, 111, 115, 101]⟩, 1, 13, [39], 0⟩ _ (fnr_new w w17 [39] hl17 c18) (by decide)
  have hr : (Instr.mapUpdate 52 (.map (some w.heap.size)) (.string ⟨#[99, 108, 111, 115, 101]⟩) (cmdV 1 13 (.slice (some ⟨w17.heap.size, 0, none⟩) 1 1) 0)).run Tryz.prog v18 = .ok () w18 := hq
  have H18 : Hid (CmdW w w18 ([⟨⟨#[99, 114, 101, 97, 116, 101]⟩, 1, 1, [32], 0⟩, ⟨⟨#[109, 107, 100, 105, 114]⟩, 1, 2, [32], 0⟩, ⟨⟨#[117, 110, 108, 105, 110, 107]⟩, 1, 3, [32], 0⟩, ⟨⟨#[114, 109, 100, 105, 114]⟩, 1, 4, [32], 0⟩, ⟨⟨#[114, 101, 110, 97, 109, 101]⟩, 1, 5, [32, 33], 0⟩, ⟨⟨#[108, 105, 110, 107]⟩, 1, 9, [32, 33], 0⟩, ⟨⟨#[115, 121, 109, 108, 105, 110, 107]⟩, 1, 10, [32, 33], 0⟩, ⟨⟨#[97, 112, 112, 101, 110, 100]⟩, 1, 8, [32, 34], 0⟩, ⟨⟨#[119, 114, 105, 116, 101]⟩, 1, 6, [32, 35, 34], 0⟩, ⟨⟨#[102, 105, 108, 108]⟩, 1, 6, [32, 35, 36, 37], 0⟩, ⟨⟨#[116, 114, 117, 110, 99]⟩, 1, 7, [32, 38], 0⟩, ⟨⟨#[114, 101, 97, 100]⟩, 1, 17, [32, 35, 38], 0⟩, ⟨⟨#[115, 116, 97, 116]⟩, 1, 18, [32], 0⟩, ⟨⟨#[108, 115, 116, 97, 116]⟩, 1, 19, [32], 0⟩, ⟨⟨#[108, 105, 115, 116]⟩, 1, 20, [32], 0⟩, ⟨⟨#[114, 101, 97, 100, 108, 105, 110, 107]⟩, 1, 21, [32], 0⟩, ⟨⟨#[111, 112, 101, 110]⟩, 1, 14, [32], 0⟩] ++ [⟨⟨#[99, 108, 111, 115, 101]⟩, 1, 13, [39], 0⟩])) := h18
  have hl18 := h18.lt
  clear hq h18 c18 cA18 H17
  go_wp2_with fail
  clear hr hl17 
  -- fstat
  have cA19 : Chg 0 0 w18 (w18.alloc (.cells ([39].map fnV).toArray 74)) := Chg.alloc (Chg.refl 0 0 w18) _
  refine (callLine_calls _ _ _ _ _).mono ?_
  rintro e v19 ⟨rfl, c19⟩
  obtain ⟨w19, hq, h19⟩ := cmd_step ((H18.out.chg cA19).chg c19) ⟨⟨#[102, 115, 116, 97, 116]⟩, 1, 16, [39], 0⟩ _ (fnr_new w w18 [39] hl18 c19) (by decide)
  have hr : (Instr.mapUpdate 52 (.map (some w.heap.size)) (.string ⟨#[102, 115, 116, 97, 116]⟩) (cmdV 1 16 (.slice (some ⟨w18.heap.size, 0, none⟩) 1 1) 0)).run Tryz.prog v19 = .ok () w19 := hq
  have H19 : Hid (CmdW w w19 ([⟨⟨#[99, 114, 101, 97, 116, 101]⟩, 1, 1, [32], 0⟩, ⟨⟨#[109, 107, 100, 105, 114]⟩, 1, 2, [32], 0⟩, ⟨⟨#[117, 110, 108, 105, 110, 107]⟩, 1, 3, [32], 0⟩, ⟨⟨#[114, 109, 100, 105, 114]⟩, 1, 4, [32], 0⟩, ⟨⟨#[114, 101, 110, 97, 109, 101]⟩, 1, 5, [32, 33], 0⟩, ⟨⟨#[108, 105, 110, 107]⟩, 1, 9, [32, 33], 0⟩, ⟨⟨#[115, 121, 109, 108, 105, 110, 107]⟩, 1, 10, [32, 33], 0⟩, ⟨⟨#[97, 112, 112, 101, 110, 100]⟩, 1, 8, [32, 34], 0⟩, ⟨⟨#[119, 114, 105, 116, 101]⟩, 1, 6, [32, 35, 34], 0⟩, ⟨⟨#[102, 105, 108, 108]⟩, 1, 6, [32, 35, 36, 37], 0⟩, ⟨⟨#[116, 114, 117, 110, 99]⟩, 1, 7, [32, 38], 0⟩, ⟨⟨#[114, 101, 97, 100]⟩, 1, 17, [32, 35, 38], 0⟩, ⟨⟨#[115, 116, 97, 116]⟩, 1, 18, [32], 0⟩, ⟨⟨#[108, 115, 116, 97, 116]⟩, 1, 19, [32], 0⟩, ⟨⟨#[108, 105, 115, 116]⟩, 1, 20, [32], 0⟩, ⟨⟨#[114, 101, 97, 100, 108, 105, 110, 107]⟩, 1, 21, [32], 0⟩, ⟨⟨#[111, 112, 101, 110]⟩, 1, 14, [32], 0⟩, ⟨⟨#[99, 108, 111, 115, 101]⟩, 1, 13, [39], 0⟩] ++ [⟨⟨#[102, 115, 116, 97, 116]⟩, 1, 16, [39], 0⟩])) := h19
  have hl19 := h19.lt
  clear hq h19 c19 cA19 H18
  go_wp2_with fail
  clear hr hl18 
  -- pwrite
  have cA20 : Chg 0 0 w19 (w19.alloc (.cells ([39, 35, 34].map fnV).toArray 74)) := Chg.alloc (Chg.refl 0 0 w19) _
  refine (callLine_calls _ _ _ _ _).mono ?_
  rintro e v20 ⟨rfl, c20⟩
  obtain ⟨w20, hq, h20⟩ := cmd_step ((H19.out.chg cA20).chg c20) ⟨⟨#[112, 119, 114, 105, 116, 101]⟩, 1, 11, [39, 35, 34], 0⟩ _ (fnr_new w w19 [39, 35, 34] hl19 c20) (by decide)
  have hr : (Instr.mapUpdate 52 (.map (some w.heap.size)) (.string ⟨#[112, 119, 114, 105, 116, 101]⟩) (cmdV 1 11 (.slice (some ⟨w19.heap.size, 0, none⟩) 3 3) 0)).run Tryz.prog v20 = .ok () w20 := hq
  have H20 : Hid (CmdW w w20 ([⟨⟨#[99, 114, 101, 97, 116, 101]⟩, 1, 1, [32], 0⟩, ⟨⟨#[109, 107, 100, 105, 114]⟩, 1, 2, [32], 0⟩, ⟨⟨#[117, 110, 108, 105, 110, 107]⟩, 1, 3, [32], 0⟩, ⟨⟨#[114, 109, 100, 105, 114]⟩, 1, 4, [32], 0⟩, ⟨⟨#[114, 101, 110, 97, 109, 101]⟩, 1, 5, [32, 33], 0⟩, ⟨⟨#[108, 105, 110, 107]⟩, 1, 9, [32, 33], 0⟩, ⟨⟨#[115, 121, 109, 108, 105, 110, 107]⟩, 1, 10, [32, 33], 0⟩, ⟨⟨#[97, 112, 112, 101, 110, 100]⟩, 1, 8, [32, 34], 0⟩, ⟨⟨#[119, 114, 105, 116, 101]⟩, 1, 6, [32, 35, 34], 0⟩, ⟨⟨#[102, 105, 108, 108]⟩, 1, 6, [32, 35, 36, 37], 0⟩, ⟨⟨#[116, 114, 117, 110, 99]⟩, 1, 7, [32, 38], 0⟩, ⟨⟨#[114, 101, 97, 100]⟩, 1, 17, [32, 35, 38], 0⟩, ⟨⟨#[115, 116, 97, 116]⟩, 1, 18, [32], 0⟩, ⟨⟨#[108, 115, 116, 97, 116]⟩, 1, 19, [32], 0⟩, ⟨⟨#[108, 105, 115, 116]⟩, 1, 20, [32], 0⟩, ⟨⟨#[114, 101, 97, 100, 108, 105, 110, 107]⟩, 1, 21, [32], 0⟩, ⟨⟨#[111, 112, 101, 110]⟩, 1, 14, [32], 0⟩, ⟨⟨#[99, 108, 111, 115, 101]⟩, 1, 13, [39], 0⟩, ⟨⟨#[102, 115, 116, 97, 116]⟩, 1, 16, [39], 0⟩] ++ [⟨⟨#[112, 119, 114, 105, 116, 101]⟩, 1, 11, [39, 35, 34], 0⟩])) := h20
  have hl20 := h20.lt
  clear hq h20 c20 cA20 H19
  go_wp2_with fail
  clear hr hl19 
  -- ftrunc
  have cA21 : Chg 0 0 w20 (w20.alloc (.cells ([39, 38].map fnV).toArray 74)) := Chg.alloc (Chg.refl 0 0 w20) _
  refine (callLine_calls _ _ _ _ _).mono ?_
  rintro e v21 ⟨rfl, c21⟩
  obtain ⟨w21, hq, h21⟩ := cmd_step ((H20.out.chg cA21).chg c21) ⟨⟨#[102, 116, 114, 117, 110, 99]⟩, 1, 12, [39, 38], 0⟩ _ (fnr_new w w20 [39, 38] hl20 c21) (by decide)
  have hr : (Instr.mapUpdate 52 (.map (some w.heap.size)) (.string ⟨#[102, 116, 114, 117, 110, 99]⟩) (cmdV 1 12 (.slice (some ⟨w20.heap.size, 0, none⟩) 2 2) 0)).run Tryz.prog v21 = .ok () w21 := hq
  have H21 : Hid (CmdW w w21 ([⟨⟨#[99, 114, 101, 97, 116, 101]⟩, 1, 1, [32], 0⟩, ⟨⟨#[109, 107, 100, 105, 114]⟩, 1, 2, [32], 0⟩, ⟨⟨#[117, 110, 108, 105, 110, 107]⟩, 1, 3, [32], 0⟩, ⟨⟨#[114, 109, 100, 105, 114]⟩, 1, 4, [32], 0⟩, ⟨⟨#[114, 101, 110, 97, 109, 101]⟩, 1, 5, [32, 33], 0⟩, ⟨⟨#[108, 105, 110, 107]⟩, 1, 9, [32, 33], 0⟩, ⟨⟨#[115, 121, 109, 108, 105, 110, 107]⟩, 1, 10, [32, 33], 0⟩, ⟨⟨#[97, 112, 112, 101, 110, 100]⟩, 1, 8, [32, 34], 0⟩, ⟨⟨#[119, 114, 105, 116, 101]⟩, 1, 6, [32, 35, 34], 0⟩, ⟨⟨#[102, 105, 108, 108]⟩, 1, 6, [32, 35, 36, 37], 0⟩, ⟨⟨#[116, 114, 117, 110, 99]⟩, 1, 7, [32, 38], 0⟩, ⟨⟨#[114, 101, 97, 100]⟩, 1, 17, [32, 35, 38], 0⟩, ⟨⟨#[115, 116, 97, 116]⟩, 1, 18, [32], 0⟩, ⟨⟨#[108, 115, 116, 97, 116]⟩, 1, 19, [32], 0⟩, ⟨⟨#[108, 105, 115, 116]⟩, 1, 20, [32], 0⟩, ⟨⟨#[114, 101, 97, 100, 108, 105, 110, 107]⟩, 1, 21, [32], 0⟩, ⟨⟨#[111, 112, 101, 110]⟩, 1, 14, [32], 0⟩, ⟨⟨#[99, 108, 111, 115, 101]⟩, 1, 13, [39], 0⟩, ⟨⟨#[102, 115, 116, 97, 116]⟩, 1, 16, [39], 0⟩, ⟨⟨#[112, 119, 114, 105, 116, 101]⟩, 1, 11, [39, 35, 34], 0⟩] ++ [⟨⟨#[102, 116, 114, 117, 110, 99]⟩, 1, 12, [39, 38], 0⟩])) := h21
  have hl21 := h21.lt
  clear hq h21 c21 cA21 H20
  go_wp2_with fail
  clear hr hl20 
  -- pread
  have cA22 : Chg 0 0 w21 (w21.alloc (.cells ([39, 35, 38].map fnV).toArray 74)) := Chg.alloc (Chg.refl 0 0 w21) _
  refine (callLine_calls _ _ _ _ _).mono ?_
  rintro e v22 ⟨rfl, c22⟩
  obtain ⟨w22, hq, h22⟩ := cmd_step ((H21.out.chg cA22).chg c22) ⟨⟨#[112, 114, 101, 97, 100]⟩, 1, 15, [39, 35, 38], 0⟩ _ (fnr_new w w21 [39, 35, 38] hl21 c22) (by decide)
  have hr : (Instr.mapUpdate 52 (.map (some w.heap.size)) (.string ⟨#[112, 114, 101, 97, 100]⟩) (cmdV 1 15 (.slice (some ⟨w21.heap.size, 0, none⟩) 3 3) 0)).run Tryz.prog v22 = .ok () w22 := hq
  have H22 : Hid (CmdW w w22 ([⟨⟨#[99, 114, 101, 97, 116, 101]⟩, 1, 1, [32], 0⟩, ⟨⟨#[109, 107, 100, 105, 114]⟩, 1, 2, [32], 0⟩, ⟨⟨#[117, 110, 108, 105, 110, 107]⟩, 1, 3, [32], 0⟩, ⟨⟨#[114, 109, 100, 105, 114]⟩, 1, 4, [32], 0⟩, ⟨⟨#[114, 101, 110, 97, 109, 101]⟩, 1, 5, [32, 33], 0⟩, ⟨⟨#[108, 105, 110, 107]⟩, 1, 9, [32, 33], 0⟩, ⟨⟨#[115, 121, 109, 108, 105, 110, 107]⟩, 1, 10, [32, 33], 0⟩, ⟨⟨#[97, 112, 112, 101, 110, 100]⟩, 1, 8, [32, 34], 0⟩, ⟨⟨#[119, 114, 105, 116, 101]⟩, 1, 6, [32, 35, 34], 0⟩, ⟨⟨#[102, 105, 108, 108]⟩, 1, 6, [32, 35, 36, 37], 0⟩, ⟨⟨#[116, 114, 117, 110, 99]⟩, 1, 7, [32, 38], 0⟩, ⟨⟨#[114, 101, 97, 100]⟩, 1, 17, [32, 35, 38], 0⟩, ⟨⟨#[115, 116, 97, 116]⟩, 1, 18, [32], 0⟩, ⟨⟨#[108, 115, 116, 97, 116]⟩, 1, 19, [32], 0⟩, ⟨⟨#[108, 105, 115, 116]⟩, 1, 20, [32], 0⟩, ⟨⟨#[114, 101, 97, 100, 108, 105, 110, 107]⟩, 1, 21, [32], 0⟩, ⟨⟨#[111, 112, 101, 110]⟩, 1, 14, [32], 0⟩, ⟨⟨#[99, 108, 111, 115, 101]⟩, 1, 13, [39], 0⟩, ⟨⟨#[102, 115, 116, 97, 116]⟩, 1, 16, [39], 0⟩, ⟨⟨#[112, 119, 114, 105, 116, 101]⟩, 1, 11, [39, 35, 34], 0⟩, ⟨⟨#[102, 116, 114, 117, 110, 99]⟩, 1, 12, [39, 38], 0⟩] ++ [⟨⟨#[112, 114, 101, 97, 100]⟩, 1, 15, [39, 35, 38], 0⟩])) := h22
  have hl22 := h22.lt
  clear hq h22 c22 cA22 H21
  go_wp2_with fail
  clear hr hl21 
  -- sync
  refine (callLine_calls _ _ _ _ _).mono ?_
  rintro e v23 ⟨rfl, c23⟩
  obtain ⟨w23, hq, h23⟩ := cmd_step (H22.out.chg c23) ⟨⟨#[115, 121, 110, 99]⟩, 1, 22, [], 0⟩ _ (Or.inl ⟨rfl, rfl⟩) (by decide)
  have hr : (Instr.mapUpdate 52 (.map (some w.heap.size)) (.string ⟨#[115, 121, 110, 99]⟩) (cmdV 1 22 (.slice none 0 0) 0)).run Tryz.prog v23 = .ok () w23 := hq
  have H23 : Hid (CmdW w w23 ([⟨⟨#[99, 114, 101, 97, 116, 101]⟩, 1, 1, [32], 0⟩, ⟨⟨#[109, 107, 100, 105, 114]⟩, 1, 2, [32], 0⟩, ⟨⟨#[117, 110, 108, 105, 110, 107]⟩, 1, 3, [32], 0⟩, ⟨⟨#[114, 109, 100, 105, 114]⟩, 1, 4, [32], 0⟩, ⟨⟨#[114, 101, 110, 97, 109, 101]⟩, 1, 5, [32, 33], 0⟩, ⟨⟨#[108, 105, 110, 107]⟩, 1, 9, [32, 33], 0⟩, ⟨⟨#[115, 121, 109, 108, 105, 110, 107]⟩, 1, 10, [32, 33], 0⟩, ⟨⟨#[97, 112, 112, 101, 110, 100]⟩, 1, 8, [32, 34], 0⟩, ⟨⟨#[119, 114, 105, 116, 101]⟩, 1, 6, [32, 35, 34], 0⟩, ⟨⟨#[102, 105, 108, 108]⟩, 1, 6, [32, 35, 36, 37], 0⟩, ⟨⟨#[116, 114, 117, 110, 99]⟩, 1, 7, [32, 38], 0⟩, ⟨⟨#[114, 101, 97, 100]⟩, 1, 17, [32, 35, 38], 0⟩, ⟨⟨#[115, 116, 97, 116]⟩, 1, 18, [32], 0⟩, ⟨⟨#[108, 115, 116, 97, 116]⟩, 1, 19, [32], 0⟩, ⟨⟨#[108, 105, 115, 116]⟩, 1, 20, [32], 0⟩, ⟨⟨#[114, 101, 97, 100, 108, 105, 110, 107]⟩, 1, 21, [32], 0⟩, ⟨⟨#[111, 112, 101, 110]⟩, 1, 14, [32], 0⟩, ⟨⟨#[99, 108, 111, 115, 101]⟩, 1, 13, [39], 0⟩, ⟨⟨#[102, 115, 116, 97, 116]⟩, 1, 16, [39], 0⟩, ⟨⟨#[112, 119, 114, 105, 116, 101]⟩, 1, 11, [39, 35, 34], 0⟩, ⟨⟨#[102, 116, 114, 117, 110, 99]⟩, 1, 12, [39, 38], 0⟩, ⟨⟨#[112, 114, 101, 97, 100]⟩, 1, 15, [39, 35, 38], 0⟩] ++ [⟨⟨#[115, 121, 110, 99]⟩, 1, 22, [], 0⟩])) := h23
  have hl23 := h23.lt
  clear hq h23 c23  H22
  go_wp2_with fail
  clear hr hl22 
  -- checkpoint
  refine (callLine_calls _ _ _ _ _).mono ?_
  rintro e v24 ⟨rfl, c24⟩
  obtain ⟨w24, hq, h24⟩ := cmd_step (H23.out.chg c24) ⟨⟨#[99, 104, 101, 99, 107, 112, 111, 105, 110, 116]⟩, 1, 23, [], 0⟩ _ (Or.inl ⟨rfl, rfl⟩) (by decide)
  have hr : (Instr.mapUpdate 52 (.map (some w.heap.size)) (.string ⟨#[99, 104, 101, 99, 107, 112, 111, 105, 110, 116]⟩) (cmdV 1 23 (.slice none 0 0) 0)).run Tryz.prog v24 = .ok () w24 := hq
  have H24 : Hid (CmdW w w24 ([⟨⟨#[99, 114, 101, 97, 116, 101]⟩, 1, 1, [32], 0⟩, ⟨⟨#[109, 107, 100, 105, 114]⟩, 1, 2, [32], 0⟩, ⟨⟨#[117, 110, 108, 105, 110, 107]⟩, 1, 3, [32], 0⟩, ⟨⟨#[114, 109, 100, 105, 114]⟩, 1, 4, [32], 0⟩, ⟨⟨#[114, 101, 110, 97, 109, 101]⟩, 1, 5, [32, 33], 0⟩, ⟨⟨#[108, 105, 110, 107]⟩, 1, 9, [32, 33], 0⟩, ⟨⟨#[115, 121, 109, 108, 105, 110, 107]⟩, 1, 10, [32, 33], 0⟩, ⟨⟨#[97, 112, 112, 101, 110, 100]⟩, 1, 8, [32, 34], 0⟩, ⟨⟨#[119, 114, 105, 116, 101]⟩, 1, 6, [32, 35, 34], 0⟩, ⟨⟨#[102, 105, 108, 108]⟩, 1, 6, [32, 35, 36, 37], 0⟩, ⟨⟨#[116, 114, 117, 110, 99]⟩, 1, 7, [32, 38], 0⟩, ⟨⟨#[114, 101, 97, 100]⟩, 1, 17, [32, 35, 38], 0⟩, ⟨⟨#[115, 116, 97, 116]⟩, 1, 18, [32], 0⟩, ⟨⟨#[108, 115, 116, 97, 116]⟩, 1, 19, [32], 0⟩, ⟨⟨#[108, 105, 115, 116]⟩, 1, 20, [32], 0⟩, ⟨⟨#[114, 101, 97, 100, 108, 105, 110, 107]⟩, 1, 21, [32], 0⟩, ⟨⟨#[111, 112, 101, 110]⟩, 1, 14, [32], 0⟩, ⟨⟨#[99, 108, 111, 115, 101]⟩, 1, 13, [39], 0⟩, ⟨⟨#[102, 115, 116, 97, 116]⟩, 1, 16, [39], 0⟩, ⟨⟨#[112, 119, 114, 105, 116, 101]⟩, 1, 11, [39, 35, 34], 0⟩, ⟨⟨#[102, 116, 114, 117, 110, 99]⟩, 1, 12, [39, 38], 0⟩, ⟨⟨#[112, 114, 101, 97, 100]⟩, 1, 15, [39, 35, 38], 0⟩, ⟨⟨#[115, 121, 110, 99]⟩, 1, 22, [], 0⟩] ++ [⟨⟨#[99, 104, 101, 99, 107, 112, 111, 105, 110, 116]⟩, 1, 23, [], 0⟩])) := h24
  have hl24 := h24.lt
  clear hq h24 c24  H23
  go_wp2_with fail
  clear hr hl23 
  -- space
  refine (callLine_calls _ _ _ _ _).mono ?_
  rintro e v25 ⟨rfl, c25⟩
  obtain ⟨w25, hq, h25⟩ := cmd_step (H24.out.chg c25) ⟨⟨#[115, 112, 97, 99, 101]⟩, 1, 24, [], 0⟩ _ (Or.inl ⟨rfl, rfl⟩) (by decide)
  have hr : (Instr.mapUpdate 52 (.map (some w.heap.size)) (.string ⟨#[115, 112, 97, 99, 101]⟩) (cmdV 1 24 (.slice none 0 0) 0)).run Tryz.prog v25 = .ok () w25 := hq
  have H25 : Hid (CmdW w w25 ([⟨⟨#[99, 114, 101, 97, 116, 101]⟩, 1, 1, [32], 0⟩, ⟨⟨#[109, 107, 100, 105, 114]⟩, 1, 2, [32], 0⟩, ⟨⟨#[117, 110, 108, 105, 110, 107]⟩, 1, 3, [32], 0⟩, ⟨⟨#[114, 109, 100, 105, 114]⟩, 1, 4, [32], 0⟩, ⟨⟨#[114, 101, 110, 97, 109, 101]⟩, 1, 5, [32, 33], 0⟩, ⟨⟨#[108, 105, 110, 107]⟩, 1, 9, [32, 33], 0⟩, ⟨⟨#[115, 121, 109, 108, 105, 110, 107]⟩, 1, 10, [32, 33], 0⟩, ⟨⟨#[97, 112, 112, 101, 110, 100]⟩, 1, 8, [32, 34], 0⟩, ⟨⟨#[119, 114, 105, 116, 101]⟩, 1, 6, [32, 35, 34], 0⟩, ⟨⟨#[102, 105, 108, 108]⟩, 1, 6, [32, 35, 36, 37], 0⟩, ⟨⟨#[116, 114, 117, 110, 99]⟩, 1, 7, [32, 38], 0⟩, ⟨⟨#[114, 101, 97, 100]⟩, 1, 17, [32, 35, 38], 0⟩, ⟨⟨#[115, 116, 97, 116]⟩, 1, 18, [32], 0⟩, ⟨⟨#[108, 115, 116, 97, 116]⟩, 1, 19, [32], 0⟩, ⟨⟨#[108, 105, 115, 116]⟩, 1, 20, [32], 0⟩, ⟨⟨#[114, 101, 97, 100, 108, 105, 110, 107]⟩, 1, 21, [32], 0⟩, ⟨⟨#[111, 112, 101, 110]⟩, 1, 14, [32], 0⟩, ⟨⟨#[99, 108, 111, 115, 101]⟩, 1, 13, [39], 0⟩, ⟨⟨#[102, 115, 116, 97, 116]⟩, 1, 16, [39], 0⟩, ⟨⟨#[112, 119, 114, 105, 116, 101]⟩, 1, 11, [39, 35, 34], 0⟩, ⟨⟨#[102, 116, 114, 117, 110, 99]⟩, 1, 12, [39, 38], 0⟩, ⟨⟨#[112, 114, 101, 97, 100]⟩, 1, 15, [39, 35, 38], 0⟩, ⟨⟨#[115, 121, 110, 99]⟩, 1, 22, [], 0⟩, ⟨⟨#[99, 104, 101, 99, 107, 112, 111, 105, 110, 116]⟩, 1, 23, [], 0⟩] ++ [⟨⟨#[115, 112, 97, 99, 101]⟩, 1, 24, [], 0⟩])) := h25
  have hl25 := h25.lt
  clear hq h25 c25  H24
  go_wp2_with fail
  clear hr hl24 
  -- log
  refine (callLine_calls _ _ _ _ _).mono ?_
  rintro e v26 ⟨rfl, c26⟩
  obtain ⟨w26, hq, h26⟩ := cmd_step (H25.out.chg c26) ⟨⟨#[108, 111, 103]⟩, 1, 25, [], 0⟩ _ (Or.inl ⟨rfl, rfl⟩) (by decide)
  have hr : (Instr.mapUpdate 52 (.map (some w.heap.size)) (.string ⟨#[108, 111, 103]⟩) (cmdV 1 25 (.slice none 0 0) 0)).run Tryz.prog v26 = .ok () w26 := hq
  have H26 : Hid (CmdW w w26 ([⟨⟨#[99, 114, 101, 97, 116, 101]⟩, 1, 1, [32], 0⟩, ⟨⟨#[109, 107, 100, 105, 114]⟩, 1, 2, [32], 0⟩, ⟨⟨#[117, 110, 108, 105, 110, 107]⟩, 1, 3, [32], 0⟩, ⟨⟨#[114, 109, 100, 105, 114]⟩, 1, 4, [32], 0⟩, ⟨⟨#[114, 101, 110, 97, 109, 101]⟩, 1, 5, [32, 33], 0⟩, ⟨⟨#[108, 105, 110, 107]⟩, 1, 9, [32, 33], 0⟩, ⟨⟨#[115, 121, 109, 108, 105, 110, 107]⟩, 1, 10, [32, 33], 0⟩, ⟨⟨#[97, 112, 112, 101, 110, 100]⟩, 1, 8, [32, 34], 0⟩, ⟨⟨#[119, 114, 105, 116, 101]⟩, 1, 6, [32, 35, 34], 0⟩, ⟨⟨#[102, 105, 108, 108]⟩, 1, 6, [32, 35, 36, 37], 0⟩, ⟨⟨#[116, 114, 117, 110, 99]⟩, 1, 7, [32, 38], 0⟩, ⟨⟨#[114, 101, 97, 100]⟩, 1, 17, [32, 35, 38], 0⟩, ⟨⟨#[115, 116, 97, 116]⟩, 1, 18, [32], 0⟩, ⟨⟨#[108, 115, 116, 97, 116]⟩, 1, 19, [32], 0⟩, ⟨⟨#[108, 105, 115, 116]⟩, 1, 20, [32], 0⟩, ⟨⟨#[114, 101, 97, 100, 108, 105, 110, 107]⟩, 1, 21, [32], 0⟩, ⟨⟨#[111, 112, 101, 110]⟩, 1, 14, [32], 0⟩, ⟨⟨#[99, 108, 111, 115, 101]⟩, 1, 13, [39], 0⟩, ⟨⟨#[102, 115, 116, 97, 116]⟩, 1, 16, [39], 0⟩, ⟨⟨#[112, 119, 114, 105, 116, 101]⟩, 1, 11, [39, 35, 34], 0⟩, ⟨⟨#[102, 116, 114, 117, 110, 99]⟩, 1, 12, [39, 38], 0⟩, ⟨⟨#[112, 114, 101, 97, 100]⟩, 1, 15, [39, 35, 38], 0⟩, ⟨⟨#[115, 121, 110, 99]⟩, 1, 22, [], 0⟩, ⟨⟨#[99, 104, 101, 99, 107, 112, 111, 105, 110, 116]⟩, 1, 23, [], 0⟩, ⟨⟨#[115, 112, 97, 99, 101]⟩, 1, 24, [], 0⟩] ++ [⟨⟨#[108, 111, 103]⟩, 1, 25, [], 0⟩])) := h26
  have hl26 := h26.lt
  clear hq h26 c26  H25
  obtain ⟨w27, hr27, h27⟩ := cmd_step H26.out ⟨⟨#[116, 114, 101, 101]⟩, 2, 0, [], 0⟩ (.slice none 0 0) (Or.inl ⟨rfl, rfl⟩) (by decide)
  obtain ⟨w28, hr28, h28⟩ := cmd_step h27 ⟨⟨#[99, 104, 101, 99, 107]⟩, 3, 0, [], 0⟩ (.slice none 0 0) (Or.inl ⟨rfl, rfl⟩) (by decide)
  obtain ⟨w29, hr29, h29⟩ := cmd_step h28 ⟨⟨#[109, 111, 117, 110, 116]⟩, 6, 0, [], 0⟩ (.slice none 0 0) (Or.inl ⟨rfl, rfl⟩) (by decide)
  have hl29 := h29.lt
  have cA : Chg 0 0 w29 (w29.alloc (.cells ([40].map fnV).toArray 74)) := Chg.alloc (Chg.refl 0 0 w29) _
  obtain ⟨w30, hr30, h30⟩ := cmd_step (h29.chg cA) ⟨⟨#[97, 114, 109]⟩, 4, 0, [40], 600⟩ _ (fnr_new w w29 [40] hl29 (Chg.refl _ _ _)) (by decide)
  obtain ⟨w31, hr31, h31⟩ := cmd_step h30 ⟨⟨#[99, 114, 97, 115, 104]⟩, 5, 0, [], 600⟩ (.slice none 0 0) (Or.inl ⟨rfl, rfl⟩) (by decide)
  have hr27 : (Instr.mapUpdate 52 (.map (some w.heap.size)) (.string ⟨#[116, 114, 101, 101]⟩) (cmdV 2 0 (.slice none 0 0) 0)).run Tryz.prog w26 = .ok () w27 := hr27
  have hr28 : (Instr.mapUpdate 52 (.map (some w.heap.size)) (.string ⟨#[99, 104, 101, 99, 107]⟩) (cmdV 3 0 (.slice none 0 0) 0)).run Tryz.prog w27 = .ok () w28 := hr28
  have hr29 : (Instr.mapUpdate 52 (.map (some w.heap.size)) (.string ⟨#[109, 111, 117, 110, 116]⟩) (cmdV 6 0 (.slice none 0 0) 0)).run Tryz.prog w28 = .ok () w29 := hr29
  have hr30 : (Instr.mapUpdate 52 (.map (some w.heap.size)) (.string ⟨#[97, 114, 109]⟩) (cmdV 4 0 (.slice (some ⟨w29.heap.size, 0, none⟩) 1 1) 600)).run Tryz.prog (w29.alloc (.cells #[fnV 40] 74)) = .ok () w30 := hr30
  have hr31 : (Instr.mapUpdate 52 (.map (some w.heap.size)) (.string ⟨#[99, 114, 97, 115, 104]⟩) (cmdV 5 0 (.slice none 0 0) 600)).run Tryz.prog w30 = .ok () w31 := hr31
  have HZ : Hid (CmdW w w31 theCmds) := h31
  clear h27 h28 h29 h30 h31 cA H26
  go_wp2
  go_ret
  exact ⟨rfl, HZ.out⟩

end Go.Proofs.YtacfkgfemmgpkaaGreatDoor
