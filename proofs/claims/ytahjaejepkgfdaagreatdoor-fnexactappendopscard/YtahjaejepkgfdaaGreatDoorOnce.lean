/- Several short texts in one: HeldW, OnceP, Once. -/
import Derived.Test.YtahjaejepkgfdaaGreatDoorMagC
import Derived.Test.YtahjaejepkgfdaaGreatDoorGoodBlk
import Derived.Defers
import Derived.Laws.Pointers
import Derived.Laws.LoneSync
import Derived.RegionTactic
import Derived.RegionCalls
import Derived.Deep.RegionWith
namespace Go.Proofs.YtahjaejepkgfdaaGreatDoor
open Go.RowKit Go.Shelf

section
variable {P : Program} {n : Nat} {md : Region.Mode} {ops : Array Oper} {Q : Exit → Act → World → Prop} {S : World → Prop}

def wpAnyHW (n : Nat) (P : Program) (md : Region.Mode) (ops : Array Oper) (Q : Exit → Act → World → Prop) (S : World → Prop) : Nat → Array Bool → Act → World → Prop
  | 0, listed, a, w => Region.ready md ops listed = [] ∧ Q .normal a w
  | fuel + 1, listed, a, w => (Region.ready md ops listed = [] → Q .normal a w) ∧
    ∀ i ∈ Region.ready md ops listed, wpOpIn Fence.wide n P ops Q i (fun a' w' => S w' ∧ wpAnyHW n P md ops Q S fuel (listed.setIfInBounds i true) a' w') a w

theorem anyIn_of_HW : ∀ (fuel : Nat) (listed : Array Bool) (a : Act) (w : World), wpAnyHW n P md ops Q S fuel listed a w → wpAnyIn Fence.wide n P md ops Q fuel listed a w
  | 0, _, _, _, h => h
  | fuel + 1, _, _, _, h => ⟨h.1, fun i hi => wpOpIn_mono (fun a' w' h' => anyIn_of_HW fuel _ a' w' h'.2) (h.2 i hi)⟩

theorem yields_opInW {i : Nat} {o : Oper} {v : Value} {a : Act} (hi : ops[i]? = some o) (_hd : ∀ c, o.op ≠ .defer c) (hy : YieldsIf P ops S o v a) {K : Act → World → Prop} {w : World} (hS : S w) (h : K (a.put o.dst v) w) : wpOpIn Fence.wide n P ops Q i K a w := by
  unfold wpOpIn
  simp only [hi]
  rcases hy with ⟨hw, hv⟩ | ⟨hw, rfl⟩
  · rw [if_pos hw]
    refine ⟨fun _ _ => trivial, ?_⟩
    rw [show Fence.wide.round = none from rfl, Oper.semAt_none, hv w hS]
    exact h
  · rw [if_neg (by rw [hw]; simp)]
    exact ⟨fun _ _ => trivial, h⟩

theorem opIn_putW {j : Nat} {oi oj : Oper} {v : Value} (hj : ops[j]? = some oj) (_hd : ∀ c, oj.op ≠ .defer c) (hap : oi.apart ops oj = true)
    (hsi : ∀ cs b, oi.op ≠ .select cs b) (hsj : ∀ cs b, oj.op ≠ .select cs b)
    (hQ : ∀ c a w, Q (.panic c) (a.put oi.dst v) w → Q (.panic c) a w) {K : Act → World → Prop} {a : Act} {w : World}
    (hy : YieldsIf P ops S oi v a) (h : wpOpIn Fence.wide n P ops Q j K (a.put oi.dst v) w) :
    wpOpIn Fence.wide n P ops Q j (fun a' w' => YieldsIf P ops S oi v a' ∧ K (a'.put oi.dst v) w') a w := by
  obtain ⟨h1, h2, h3⟩ := Oper.apart_spec hap
  have keep : ∀ (a : Act), YieldsIf P ops S oi v a → ∀ u, YieldsIf P ops S oi v (a.put oj.dst u) := fun a hy u =>
    hy.of_same (execOp_put oi hsi a oj.dst u h3) (wanted_put oi a oj.dst u h3)
  have keepD : ∀ d, YieldsIf P ops S oi v { a with defers := d :: a.defers } := fun d => hy.of_same rfl rfl
  unfold wpOpIn at *
  simp only [hj] at *
  rw [wanted_put oj a oi.dst v h1] at h
  split
  · rename_i hw
    simp only [hw, if_true] at h
    unfold Oper.wpIn at *
    refine ⟨fun _ _ => trivial, ?_⟩
    have h := h.2
    rw [show Fence.wide.round = none from rfl, Oper.semAt_none, execOp_put oj hsj a oi.dst v h1] at h
    rw [show Fence.wide.round = none from rfl, Oper.semAt_none]
    generalize (execOp a.eval oj).run P w = r at *
    cases r with
    | ok x w' =>
      cases x <;> simp only [Oper.uponIn] at h ⊢
      case value u => exact ⟨keep a hy u, by rw [← Act.put_comm a v u h2]; exact h⟩
      case skip => exact ⟨keep a hy _, by rw [← Act.put_comm a v undef h2]; exact h⟩
      case defer d =>
        refine ⟨keep _ (keepD d) _, ?_⟩
        rw [← Act.put_comm _ v undef h2, ← Act.put_defers]
        exact h
      case enter f args =>
        refine ⟨h.1, CallsIn.mono h.2 fun e w'' he => ?_⟩
        cases e with
        | returned u => exact ⟨keep a hy u, by rw [← Act.put_comm a v u h2]; exact he⟩
        | panicked c => exact hQ _ _ _ he
        | outgrown => exact he
      case row row args => exact ⟨h.1, RowsIn.mono h.2 fun u w'' he => ⟨keep a hy u, by rw [← Act.put_comm a v u h2]; exact he⟩⟩
      case round l f tmps assign body =>
        refine ⟨h.1, RoundIn.mono h.2 fun e w'' he => ?_⟩
        cases e with
        | returned u => exact ⟨keep a hy u, by rw [← Act.put_comm a v u h2]; exact he⟩
        | panicked c => exact hQ _ _ _ he
        | outgrown => exact he
    | halt x w' =>
      cases x <;> simp only [Oper.uponIn] at h ⊢
      case panic u => exact hQ _ _ _ h
  · rename_i hw
    simp only [hw] at h
    exact ⟨fun _ _ => trivial, keep a hy _, by rw [← Act.put_comm a v undef h2]; exact h.2⟩

theorem heldW_first {i : Nat} {oi : Oper} {v : Value} (hi : ops[i]? = some oi) (hn : noDefer ops = true) (hsel : Region.noSelect ops = true)
    (hQ : ∀ c a w, Q (.panic c) (a.put oi.dst v) w → Q (.panic c) a w) : ∀ (fuel : Nat) (listed : Array Bool) (a : Act) (w : World),
      (∀ j oj, ops[j]? = some oj → j ≠ i → listed.getD j true = false → (∀ e ∈ oj.after, Region.binds md e = true → e.on ≠ i) → oi.apart ops oj = true) →
      i ∈ Region.ready md ops listed → YieldsIf P ops S oi v a → S w →
      wpAnyHW n P md ops Q S fuel (listed.setIfInBounds i true) (a.put oi.dst v) w → wpAnyHW n P md ops Q S (fuel + 1) listed a w
  | 0, listed, a, w, _, hr, hy, hS, H => by
    refine ⟨fun h => absurd hr (by rw [h]; simp), fun j hj => ?_⟩
    rcases Nat.decEq j i with hji | hji
    · exact absurd (ready_mono hj hji) (by rw [H.1]; simp)
    · subst hji; exact yields_opInW hi (noDefer_spec hn hi) hy hS ⟨hS, H⟩
  | fuel + 1, listed, a, w, hfree, hr, hy, hS, H => by
    refine ⟨fun h => absurd hr (by rw [h]; simp), fun j hj => ?_⟩
    rcases Nat.decEq j i with hji | hji
    · obtain ⟨hjun, oj, hoj, hall⟩ := mem_ready.1 hj
      have hi0 := (mem_ready.1 hr).1
      have hnot : ∀ e ∈ oj.after, Region.binds md e = true → e.on ≠ i := by
        intro e he hb heq
        have h1 := hall e he hb
        rw [heq] at h1
        simp only [Array.getD_eq_getD_getElem?] at h1 hi0
        cases hx : listed[i]? with
        | none => rw [hx] at h1; simp at h1
        | some b => rw [hx] at h1 hi0; simp at h1 hi0; rw [h1] at hi0; cases hi0
      have h2 := opIn_putW hoj (noDefer_spec hn hoj) (hfree j oj hoj hji hjun hnot) (fun cs b => Region.noSelect_spec hsel i oi cs b hi) (fun cs b => Region.noSelect_spec hsel j oj cs b hoj) hQ hy (H.2 j (ready_mono hj hji))
      have hri := ready_mono hr (Ne.symm hji)
      refine wpOpIn_mono (fun a' w' h3 => ?_) h2
      obtain ⟨hy', hS', H'⟩ := h3
      rw [Array.setIfInBounds_comm _ _ (Ne.symm hji)] at H'
      refine ⟨hS', heldW_first hi hn hsel hQ fuel (listed.setIfInBounds j true) a' w' ?_ hri hy' hS' H'⟩
      intro k ok hk hki hun hno
      refine hfree k ok hk hki ?_ hno
      by_cases hjk : j = k
      · subst hjk; exact hjun
      · rw [getD_set_ne true hjk] at hun; exact hun
    · subst hji; exact yields_opInW hi (noDefer_spec hn hi) hy hS ⟨hS, H⟩

theorem heldW_take (i : Nat) {oi : Oper} (v : Value) {fuel : Nat} {listed : Array Bool} {a : Act} {w : World} (hi : ops[i]? = some oi) (hn : noDefer ops = true)
    (hs : Region.noSelect ops = true) (hf : Region.free md ops listed i = true) (hr : (Region.ready md ops listed).contains i = true)
    (hQ : ∀ c a w, Q (.panic c) (a.put oi.dst v) w → Q (.panic c) a w) (hy : YieldsIf P ops S oi v a) (hS : S w)
    (h : wpAnyHW n P md ops Q S fuel (listed.setIfInBounds i true) (a.put oi.dst v) w) : wpAnyHW n P md ops Q S (fuel + 1) listed a w :=
  heldW_first hi hn hs hQ fuel listed a w (Region.free_spec hi hf) (by simpa using hr) hy hS h

theorem opIn_ofW {o : Oper} {a : Act} {w : World} {K : Act → World → Prop} (h : o.wp P a w K Q) : o.wpIn Fence.wide n P a w K Q := by
  unfold Oper.wp at h
  refine ⟨fun _ _ => trivial, ?_⟩
  rw [show Fence.wide.round = none from rfl, Oper.semAt_none]
  generalize (execOp a.eval o).run P w = r at h ⊢
  cases r with
  | ok x w' =>
    cases x with
    | value v => exact h
    | skip => exact h
    | defer d => exact h
    | enter f args => exact ⟨(fun h => by cases h), callsIn_wide.2 h⟩
    | row row args => exact ⟨(fun h => by cases h), fun c cs _ => let ⟨v, w'', r, s⟩ := h c cs; ⟨v, w'', r, stepsIn_wide.2 s⟩⟩
    | _ => exact (h : False).elim
  | halt x w' => cases x <;> first | exact h | exact (h : False).elim

theorem heldW_one (i : Nat) {o : Oper} {fuel : Nat} {listed : Array Bool} {a : Act} {w : World} (hi : ops[i]? = some o) (_hn : noDefer ops = true) (hw : o.guard = none) (hr : Region.ready md ops listed = [i])
    (h : o.wp P a w (fun a' w' => S w' ∧ wpAnyHW n P md ops Q S fuel (listed.setIfInBounds i true) a' w') Q) : wpAnyHW n P md ops Q S (fuel + 1) listed a w := by
  refine ⟨fun h0 => (by rw [hr] at h0; cases h0), fun j hj => ?_⟩
  rw [hr] at hj
  obtain rfl := List.mem_singleton.1 hj
  unfold wpOpIn
  simp only [hi]
  rw [if_pos (by simp [Region.wanted, hw])]
  exact opIn_ofW h

/-- A call of yield. -/
theorem heldW_round (i : Nat) {o : Oper} {fuel : Nat} {listed : Array Bool} {a : Act} {w : World} {l' : Nat} {fn : FuncId} {tmps : Array Value} {assign body : Code} {R : Ending → World → Prop} (hi : ops[i]? = some o) (_hn : noDefer ops = true) (hw : o.guard = none) (hr : Region.ready md ops listed = [i])
    (hrun : (execOp a.eval o).run P w = .ok (.round l' fn tmps assign body) w) (hR : RoundIn Fence.wide 0 P l' fn tmps assign body w R)
    (h : ∀ e w', R e w' → ∃ v, e = .returned v ∧ S w' ∧ wpAnyHW n P md ops Q S fuel (listed.setIfInBounds i true) (a.put o.dst v) w') : wpAnyHW n P md ops Q S (fuel + 1) listed a w := by
  refine ⟨fun h0 => (by rw [hr] at h0; cases h0), fun j hj => ?_⟩
  rw [hr] at hj
  obtain rfl := List.mem_singleton.1 hj
  unfold wpOpIn
  simp only [hi]
  rw [if_pos (by simp [Region.wanted, hw])]
  refine ⟨fun _ _ => trivial, ?_⟩
  rw [show Fence.wide.round = none from rfl, Oper.semAt_none, hrun]
  refine ⟨(fun h => by cases h), (round_wide hR).mono ?_⟩
  intro e w' hr
  obtain ⟨v, rfl, hk⟩ := h e w' hr
  exact hk

theorem heldW_done {listed : Array Bool} {a : Act} {w : World} (hr : Region.ready md ops listed = []) (h : Q .normal a w) : wpAnyHW n P md ops Q S 0 listed a w := ⟨hr, h⟩

theorem heldW_region (S : World → Prop) {id : Nat} {a : Act} {w : World} (hm : P.follows .mixedOrders = true)
    (h : wpAnyHW n P .any ops (OnlyN Q) S ops.size (Array.replicate ops.size false) a w.drew) : (Code.region id ops true).wpIn Fence.wide n P Q a w :=
  wpIn_mono (wpIn_region_any hm (anyIn_of_HW _ _ _ _ h)) OnlyN.imp
end

end Go.Proofs.YtahjaejepkgfdaaGreatDoor

namespace Go.Proofs.YtahjaejepkgfdaaGreatDoor
open Go.RowKit

theorem once_disable (w : World) : (callFunc 123 #[]).run Tryz.prog w = .ok (.value (.tuple #[])) w := run_call_mark0 Tryz.func123 (by kernel_rfl) (by kernel_rfl) (by kernel_rfl) .disable (by kernel_rfl) w
theorem once_enable (w : World) : (callFunc 125 #[]).run Tryz.prog w = .ok (.value (.tuple #[])) w := run_call_mark0 Tryz.func125 (by kernel_rfl) (by kernel_rfl) (by kernel_rfl) .enable (by kernel_rfl) w
theorem once_acquire (a : Addr) (w : World) : (callFunc 126 #[.pointer (some a)]).run Tryz.prog w = .ok (.value (.tuple #[])) w := run_call_marked Tryz.func126 (by kernel_rfl) (by kernel_rfl) (by kernel_rfl) .acquire (by kernel_rfl) a w
theorem once_release (a : Addr) (w : World) : (callFunc 128 #[.pointer (some a)]).run Tryz.prog w = .ok (.value (.tuple #[])) w := run_call_marked Tryz.func128 (by kernel_rfl) (by kernel_rfl) (by kernel_rfl) .releaseMerge (by kernel_rfl) a w

set_option maxRecDepth 100000 in
/-- The done mark is stored, as a deferred call. -/
theorem once_store (a : Addr) (x : Value) (u : FrameMode) (w : World) (hc : w.cell? a = some x) (hz : w.frozen? a = false) :
    CallsD Tryz.prog 110 #[.pointer (some a), .bool true] u w fun e u' w' => u' = u ∧ (e = .returned (.tuple #[]) ∧ w' = w.drew.setCell a (.int .u32 1)) := by
  have hc' : w.drew.cell? a = some x := by go_simp
  have hz' : w.drew.frozen? a = false := by go_simp
  have hst := run_call_store (P := Tryz.prog) Tryz.func118 (by kernel_rfl) (by kernel_rfl) (by kernel_rfl) (by kernel_rfl) (k := .u32) (y := 1) hc' hz'
  go_enter_d Tryz.func110, Tryz.ntmps110
  go_wp2
  go_region_calls
  all_goals (go_end0; exact ⟨rfl, rfl⟩)

set_option maxRecDepth 100000 in
/-- The lock is let go, as a deferred call. -/
theorem once_unlock (a : Addr) (u : FrameMode) (w : World) (hc : w.cell? a = some (.int .i32 1)) (hz : w.frozen? a = false) :
    CallsD Tryz.prog 109 #[.pointer (some a)] u w fun e u' w' => u' = u ∧ (e = .returned (.tuple #[]) ∧ w' = w.setCell a (.int .i32 0)) := by
  have hd := once_disable
  have he := once_enable
  have hr := once_release
  have hadd := run_call_add (P := Tryz.prog) Tryz.func129 (by kernel_rfl) (by kernel_rfl) (by kernel_rfl) .i32 (by kernel_rfl) (y := -1) (s := 0) hc hz (by simp [go_sem]; rfl)
  have hcv := run_convert_to_unsafe (P := Tryz.prog) (src := 211) (dst := 183) Tryz.underlying211 Tryz.underlying183 (by kernel_rfl) hc
  go_enter_d Tryz.func109, Tryz.ntmps109
  go_wp2
  go_end0
  go_wp2
  go_end0
  exact ⟨rfl, rfl⟩

set_option maxRecDepth 100000 in
/-- The lock, which is free, is taken. -/
theorem once_lock (a : Addr) (w : World) (hc : w.cell? a = some (.int .i32 0)) (hz : w.frozen? a = false) :
    Calls Tryz.prog 108 #[.pointer (some a)] w fun e w' => e = .returned (.tuple #[]) ∧ w' = w.setCell a (.int .i32 1) := by
  have hd := once_disable
  have he := once_enable
  have ha := once_acquire
  have hcas := run_call_cas_hit (P := Tryz.prog) Tryz.func124 (by kernel_rfl) (by kernel_rfl) (by kernel_rfl) .i32 (by kernel_rfl) (y := 1) hc hz
  have hc' : (w.setCell a (.int .i32 1)).cell? a = some (.int .i32 1) := World.cell?_setCell_same w a _ hc
  have hcv := run_convert_to_unsafe (P := Tryz.prog) (src := 211) (dst := 183) Tryz.underlying211 Tryz.underlying183 (by kernel_rfl) hc'
  go_enter Tryz.func108, Tryz.ntmps108
  go_wp2
  first | go_end0 | (simp only [Exit.inBlock, Exit.then]; refine bodyPost_ret (results_none rfl _ _ _) rfl ?_) | refine bodyPost_ret (results_none rfl _ _ _) rfl ?_
  go_wp2
  go_end0
  exact ⟨rfl, rfl⟩

end Go.Proofs.YtahjaejepkgfdaaGreatDoor

namespace Go.Proofs.YtahjaejepkgfdaaGreatDoor
open Go.RowKit

/-- A sums in memory: its done mark, its lock, its table's first k words. -/
structure Sm (w : World) (b : Nat) (d s : Int) (k : Nat) : Prop where
  c0 : w.cell? ⟨b, 0, none⟩ = some (.int .u32 d)
  c1 : w.cell? ⟨b, 1, none⟩ = some (.int .i32 s)
  fr : ∀ o, w.frozen? ⟨b, o, none⟩ = false
  ex : ∀ i, i < 256 → ∃ x, w.cell? ⟨b, 3 + i, none⟩ = some x
  tab : ∀ i, i < k → w.cell? ⟨b, 3 + i, none⟩ = some (.int .u32 (regK 8 i 0 : Nat))
  ty : ∃ cs : Array Value, w.heap[b]? = some (.cells cs 100 (0, 0))

theorem Sm.drew {w : World} {b : Nat} {d s : Int} {k : Nat} (h : Sm w b d s k) : Sm w.drew b d s k :=
  ⟨h.c0, h.c1, h.fr, h.ex, h.tab, h.ty⟩

theorem cell_set_ne {w : World} {p q : Addr} {v x : Value} (h : w.cell? q = some x) (hn : p ≠ q) : (w.setCell p v).cell? q = some x := (World.cell?_setCell_other w p q v hn).trans h

theorem addr_ne {b i j : Nat} (h : i ≠ j) : (⟨b, i, none⟩ : Addr) ≠ ⟨b, j, none⟩ := fun e => h (by injection e)

theorem ty_set {w : World} {b o : Nat} {v : Value} (h : ∃ cs : Array Value, w.heap[b]? = some (.cells cs 100 (0, 0))) : ∃ cs : Array Value, (w.setCell ⟨b, o, none⟩ v).heap[b]? = some (.cells cs 100 (0, 0)) := by
  obtain ⟨cs, h⟩ := h
  exact ⟨_, heap_setCell_same w b o cs _ v h⟩

theorem Sm.put {w : World} {b : Nat} {d s : Int} {k : Nat} (h : Sm w b d s k) (hk : k < 256) : Sm (w.setCell ⟨b, 3 + k, none⟩ (.int .u32 (regK 8 k 0 : Nat))) b d s (k + 1) := by
  obtain ⟨c0, c1, fr, ex, tab, ty⟩ := h
  obtain ⟨x, hx⟩ := ex k hk
  refine ⟨cell_set_ne c0 (addr_ne (by omega)), cell_set_ne c1 (addr_ne (by omega)), fun o => by simp [fr o], fun i hi => ?_, fun i hi => ?_, ty_set ty⟩
  · by_cases e : i = k
    · subst e; exact ⟨_, World.cell?_setCell_same w _ _ hx⟩
    · obtain ⟨y, hy⟩ := ex i hi
      exact ⟨y, cell_set_ne hy (addr_ne (by omega))⟩
  · by_cases e : i = k
    · subst e; exact World.cell?_setCell_same w _ _ hx
    · exact cell_set_ne (tab i (by omega)) (addr_ne (by omega))

theorem Sm.lock {w : World} {b : Nat} {d s : Int} {k : Nat} (h : Sm w b d s k) (s' : Int) : Sm (w.setCell ⟨b, 1, none⟩ (.int .i32 s')) b d s' k := by
  obtain ⟨c0, c1, fr, ex, tab, ty⟩ := h
  refine ⟨cell_set_ne c0 (addr_ne (by omega)), World.cell?_setCell_same w _ _ c1, fun o => by simp [fr o], fun i hi => ?_, fun i hi => cell_set_ne (tab i hi) (addr_ne (by omega)), ty_set ty⟩
  obtain ⟨y, hy⟩ := ex i hi
  exact ⟨y, cell_set_ne hy (addr_ne (by omega))⟩

theorem Sm.done {w : World} {b : Nat} {d s : Int} {k : Nat} (h : Sm w b d s k) (d' : Int) : Sm (w.setCell ⟨b, 0, none⟩ (.int .u32 d')) b d' s k := by
  obtain ⟨c0, c1, fr, ex, tab, ty⟩ := h
  refine ⟨World.cell?_setCell_same w _ _ c0, cell_set_ne c1 (addr_ne (by omega)), fun o => by simp [fr o], fun i hi => ?_, fun i hi => cell_set_ne (tab i hi) (addr_ne (by omega)), ty_set ty⟩
  obtain ⟨y, hy⟩ := ex i hi
  exact ⟨y, cell_set_ne hy (addr_ne (by omega))⟩

theorem Chg.own (w : World) (b o : Nat) (v : Value) : Chg b (b + 1) w (w.setCell ⟨b, o, none⟩ v) :=
  Chg.setCell (p := ⟨b, o, none⟩) (Chg.refl b (b + 1) w) (Or.inl ⟨Nat.le_refl _, Nat.lt_succ_self _⟩) v

set_option maxHeartbeats 1000000 in
theorem makeTable_calls (w : World) (b : Nat) (d s : Int) (h : Sm w b d s 0) :
    Calls Tryz.prog 83 #[.pointer (some ⟨b, 0, none⟩)] w fun e w' => e = .returned (.tuple #[]) ∧ Sm w' b d s 256 ∧ Chg b (b + 1) w w' := by
  have HS : Hid (Sm w b d s 0) := h
  clear h
  go_enter Tryz.func83, Tryz.ntmps83
  go_wp2
  go_loopw [3] (fun i wr => ∃ k : Nat, k ≤ 256 ∧ i = .int .i64 k ∧ Sm wr b d s k ∧ Chg b (b + 1) w wr) (fun i _ => 256 - (intOf i).toNat)
  case atStart => exact ⟨0, Nat.zero_le _, rfl, HS.out, Chg.refl _ _ _⟩
  case round =>
    obtain ⟨k, hk, rfl, hs, hc⟩ := hrel
    clear HS
    by_cases hlt : k < 256
    · have hi : (k : Int) < 256 := by omega
      obtain ⟨x, cx⟩ := hs.ex k hlt
      have fx := hs.fr (3 + k)
      have HR : Hid (Sm (wr.setCell ⟨b, 3 + k, none⟩ (.int .u32 (regK 8 k 0 : Nat))) b d s (k + 1)) := hs.put hlt
      have HC : Hid (Chg b (b + 1) w (wr.setCell ⟨b, 3 + k, none⟩ (.int .u32 (regK 8 k 0 : Nat)))) := hc.setCell (Or.inl ⟨Nat.le_refl _, Nat.lt_succ_self _⟩) _
      have HW : Hid (IntKind.u32.wrap (k : Int) = (k : Int)) := by show _ = _; rw [IntKind.wrap_u32']; omega
      clear hs hc
      go_wp2
      go_region_with (go_at_call 101; rw [HW.out]; refine (eightSteps_calls _ k (by omega)).mono ?_; rintro e w1 ⟨rfl, rfl⟩)
      all_goals
        go_wp2
        go_roundw
        case rel => exact ⟨k + 1, by omega, by go_num, HR.out.drew, HC.out.drew⟩
        case measure => simp [intOf]; omega
    · obtain rfl : k = 256 := by omega
      have HR : Hid (Sm wr b d s 256) := hs
      clear hs
      go_wp2
      go_end0
      exact ⟨rfl, HR.out, hc⟩

set_option maxRecDepth 100000 in
set_option maxHeartbeats 1600000 in
theorem doSlow_calls (w : World) (b : Nat) (h : Sm w b 0 0 0) :
    Calls Tryz.prog 100 #[.pointer (some ⟨b, 0, none⟩), .func (.func 83) #[.pointer (some ⟨b, 0, none⟩)] #[]] w fun e w' => e = .returned (.tuple #[]) ∧ Sm w' b 1 0 256 ∧ Chg b (b + 1) w w' := by
  have h1 := h.lock 1
  have C1 : Chg b (b + 1) w (w.setCell ⟨b, 1, none⟩ (.int .i32 1)) := Chg.own w b 1 _
  have hl := run_call_load (P := Tryz.prog) Tryz.func107 (by kernel_rfl) (by kernel_rfl) (by kernel_rfl) .u32 (by kernel_rfl) h1.c0
  have hnot : ∀ (x : Bool) (w : World), (Op.unary .not (.bool x)).run Tryz.prog w = .ok (.bool (!x)) w := fun _ _ => rfl
  have c1 := h.c1
  have f1 := h.fr 1
  have H1 : Hid (Sm (w.setCell ⟨b, 1, none⟩ (.int .i32 1)) b 0 1 0) := h1
  have HC1 : Hid _ := C1
  clear h h1 C1
  go_enter_defers Tryz.func100, Tryz.ntmps100
  go_wp2_with (go_at_call 108; refine (once_lock ⟨b, 1, none⟩ _ (by go_simp) (by go_simp)).mono ?_; rintro e w' ⟨rfl, rfl⟩)
  go_wp2_with (first | (go_at_call 99; go_in) | (go_at_call 83; refine (makeTable_calls _ b 0 1 H1.out).mono ?_; rintro e w2 ⟨rfl, hs, hc⟩))
  have s1 := hs.drew.done 1
  have HS2 : Hid (Sm ((w2.drew.setCell ⟨b, 0, none⟩ (.int .u32 1)).setCell ⟨b, 1, none⟩ (.int .i32 0)) b 1 0 256) := s1.lock 0
  have HC2 : Hid (Chg b (b + 1) w ((w2.drew.setCell ⟨b, 0, none⟩ (.int .u32 1)).setCell ⟨b, 1, none⟩ (.int .i32 0))) := (((HC1.out.trans hc).drew).trans (Chg.own _ b 0 _)).trans (Chg.own _ b 1 _)
  have k0 := hs.c0
  have k1 := s1.c1
  have g0 := hs.fr 0
  have g1 := s1.fr 1
  clear hs hc s1
  refine leaves_cons (f := 110) (args := #[.pointer (some ⟨b, 0, none⟩), .bool true]) (by simp) (by simp [go_sem]) ?_
  refine (once_store ⟨b, 0, none⟩ (.int .u32 0) .returning _ k0 g0).mono ?_
  rintro e u' w'' ⟨rfl, rfl, rfl⟩
  refine leaves_cons (f := 109) (args := #[.pointer (some ⟨b, 1, none⟩)]) (by simp [settle]) (by simp [go_sem]) ?_
  refine (once_unlock ⟨b, 1, none⟩ _ _ k1 g1).mono ?_
  rintro e u' w'' ⟨rfl, rfl, rfl⟩
  simp [Leaves, settle, results, Tryz.results100]
  exact ⟨HS2.out, HC2.out⟩

set_option maxRecDepth 100000 in
set_option maxHeartbeats 1600000 in
theorem onceDo_calls (w : World) (b : Nat) (h : Sm w b 0 0 0) :
    Calls Tryz.prog 82 #[.pointer (some ⟨b, 0, none⟩), .func (.func 83) #[.pointer (some ⟨b, 0, none⟩)] #[]] w fun e w' => e = .returned (.tuple #[]) ∧ Sm w' b 1 0 256 ∧ Chg b (b + 1) w w' := by
  have hl := run_call_load (P := Tryz.prog) Tryz.func107 (by kernel_rfl) (by kernel_rfl) (by kernel_rfl) .u32 (by kernel_rfl) h.c0
  have hnot : ∀ (x : Bool) (w : World), (Op.unary .not (.bool x)).run Tryz.prog w = .ok (.bool (!x)) w := fun _ _ => rfl
  have HS : Hid (Sm w b 0 0 0) := h
  clear h
  go_enter Tryz.func82, Tryz.ntmps82
  go_wp2_with (first | (go_at_call 100; refine (doSlow_calls _ b HS.out).mono ?_; rintro e w' ⟨rfl, hs, hc⟩) | (go_at_call 99; go_in))
  go_end0
  exact ⟨rfl, hs, hc⟩

end Go.Proofs.YtahjaejepkgfdaaGreatDoor
