/- The table, made once: makeTable, doSlow, Do, on of the program. -/
import Derived.Test.YtfkkfifjgkoicaaOnceP
import Derived.Deep.RegionWith
namespace Go.Proofs.Ytfkkfifjgkoicaa
open Go.RowKit

/-- A sums in memory: its done mark, its lock, its table's first k words. -/
structure Sm (w : World) (b : Nat) (d s : Int) (k : Nat) : Prop where
  c0 : w.cell? ⟨b, 0, none⟩ = some (.int .u32 d)
  c1 : w.cell? ⟨b, 1, none⟩ = some (.int .i32 s)
  fr : ∀ o, w.frozen? ⟨b, o, none⟩ = false
  ex : ∀ i, i < 256 → ∃ x, w.cell? ⟨b, 3 + i, none⟩ = some x
  tab : ∀ i, i < k → w.cell? ⟨b, 3 + i, none⟩ = some (.int .u32 (regK 8 i 0 : Nat))
  ty : ∃ cs : Array Value, w.heap[b]? = some (.cells cs 53 (0, 0))

theorem Sm.drew {w : World} {b : Nat} {d s : Int} {k : Nat} (h : Sm w b d s k) : Sm w.drew b d s k :=
  ⟨h.c0, h.c1, h.fr, h.ex, h.tab, h.ty⟩

theorem cell_set_ne {w : World} {p q : Addr} {v x : Value} (h : w.cell? q = some x) (hn : p ≠ q) : (w.setCell p v).cell? q = some x := (World.cell?_setCell_other w p q v hn).trans h

theorem addr_ne {b i j : Nat} (h : i ≠ j) : (⟨b, i, none⟩ : Addr) ≠ ⟨b, j, none⟩ := fun e => h (by injection e)

theorem ty_set {w : World} {b o : Nat} {v : Value} (h : ∃ cs : Array Value, w.heap[b]? = some (.cells cs 53 (0, 0))) : ∃ cs : Array Value, (w.setCell ⟨b, o, none⟩ v).heap[b]? = some (.cells cs 53 (0, 0)) := by
  obtain ⟨cs, h⟩ := h
  exact ⟨_, heap_setCell_same w b o cs _ v h⟩

theorem Sm.put {w : World} {b : Nat} {d s : Int} {k : Nat} (h : Sm w b d s k) (hk : k < 256) : Sm (w.setCell ⟨b, 3 + k, none⟩ (.int .u32 (regK 8 k 0 : Nat))) b d s (k + 1) := by
  obtain ⟨c0, c1, fr, ex, tab, ty⟩ := h
  obtain ⟨x, hx⟩ := ex k hk
  refine ⟨cell_set_ne c0 (addr_ne (by omega)), cell_set_ne c1 (addr_ne (by omega)), fun o => by simp [fr o], fun i hi => ?_, fun i hi => ?_, ty_set ty⟩
  · by_cases e : i = k
    · subst e; exact ⟨_, World.cell?_setCell_same w _ _ hx⟩
    · obtain ⟨y, hy⟩ := ex i hi
      exact ⟨y, cell_set_ne hy (addr_ne (by omega))⟩
  · by_cases e : i = k
    · subst e; exact World.cell?_setCell_same w _ _ hx
    · exact cell_set_ne (tab i (by omega)) (addr_ne (by omega))

theorem Sm.lock {w : World} {b : Nat} {d s : Int} {k : Nat} (h : Sm w b d s k) (s' : Int) : Sm (w.setCell ⟨b, 1, none⟩ (.int .i32 s')) b d s' k := by
  obtain ⟨c0, c1, fr, ex, tab, ty⟩ := h
  refine ⟨cell_set_ne c0 (addr_ne (by omega)), World.cell?_setCell_same w _ _ c1, fun o => by simp [fr o], fun i hi => ?_, fun i hi => cell_set_ne (tab i hi) (addr_ne (by omega)), ty_set ty⟩
  obtain ⟨y, hy⟩ := ex i hi
  exact ⟨y, cell_set_ne hy (addr_ne (by omega))⟩

theorem Sm.done {w : World} {b : Nat} {d s : Int} {k : Nat} (h : Sm w b d s k) (d' : Int) : Sm (w.setCell ⟨b, 0, none⟩ (.int .u32 d')) b d' s k := by
  obtain ⟨c0, c1, fr, ex, tab, ty⟩ := h
  refine ⟨World.cell?_setCell_same w _ _ c0, cell_set_ne c1 (addr_ne (by omega)), fun o => by simp [fr o], fun i hi => ?_, fun i hi => cell_set_ne (tab i hi) (addr_ne (by omega)), ty_set ty⟩
  obtain ⟨y, hy⟩ := ex i hi
  exact ⟨y, cell_set_ne hy (addr_ne (by omega))⟩

theorem Chg.own (w : World) (b o : Nat) (v : Value) : Chg b (b + 1) w (w.setCell ⟨b, o, none⟩ v) :=
  Chg.setCell (p := ⟨b, o, none⟩) (Chg.refl b (b + 1) w) (Or.inl ⟨Nat.le_refl _, Nat.lt_succ_self _⟩) v

set_option maxHeartbeats 1000000 in
theorem makeTable_calls (w : World) (b : Nat) (d s : Int) (h : Sm w b d s 0) :
    Calls Try.prog 19 #[.pointer (some ⟨b, 0, none⟩)] w fun e w' => e = .returned (.tuple #[]) ∧ Sm w' b d s 256 ∧ Chg b (b + 1) w w' := by
  have HS : Hid (Sm w b d s 0) := h
  clear h
  go_enter Try.func19, Try.ntmps19
  go_wp2
  go_loopw [3] (fun i wr => ∃ k : Nat, k ≤ 256 ∧ i = .int .i64 k ∧ Sm wr b d s k ∧ Chg b (b + 1) w wr) (fun i _ => 256 - (intOf i).toNat)
  case atStart => exact ⟨0, Nat.zero_le _, rfl, HS.out, Chg.refl _ _ _⟩
  case round =>
    obtain ⟨k, hk, rfl, hs, hc⟩ := hrel
    clear HS
    by_cases hlt : k < 256
    · have hi : (k : Int) < 256 := by omega
      obtain ⟨x, cx⟩ := hs.ex k hlt
      have fx := hs.fr (3 + k)
      have HR : Hid (Sm (wr.setCell ⟨b, 3 + k, none⟩ (.int .u32 (regK 8 k 0 : Nat))) b d s (k + 1)) := hs.put hlt
      have HC : Hid (Chg b (b + 1) w (wr.setCell ⟨b, 3 + k, none⟩ (.int .u32 (regK 8 k 0 : Nat)))) := hc.setCell (Or.inl ⟨Nat.le_refl _, Nat.lt_succ_self _⟩) _
      have HW : Hid (IntKind.u32.wrap (k : Int) = (k : Int)) := by show _ = _; rw [IntKind.wrap_u32']; omega
      clear hs hc
      go_wp2
      go_region_with (go_at_call 22; rw [HW.out]; refine (eightSteps_calls _ k (by omega)).mono ?_; rintro e w1 ⟨rfl, rfl⟩)
      all_goals
        go_wp2
        go_roundw
        case rel => exact ⟨k + 1, by omega, by go_num, HR.out.drew, HC.out.drew⟩
        case measure => simp [intOf]; omega
    · obtain rfl : k = 256 := by omega
      have HR : Hid (Sm wr b d s 256) := hs
      clear hs
      go_wp2
      go_end0
      exact ⟨rfl, HR.out, hc⟩

set_option maxRecDepth 100000 in
set_option maxHeartbeats 1600000 in
theorem doSlow_calls (w : World) (b : Nat) (h : Sm w b 0 0 0) :
    Calls Try.prog 21 #[.pointer (some ⟨b, 0, none⟩), .func (.func 19) #[.pointer (some ⟨b, 0, none⟩)] #[]] w fun e w' => e = .returned (.tuple #[]) ∧ Sm w' b 1 0 256 ∧ Chg b (b + 1) w w' := by
  have h1 := h.lock 1
  have C1 : Chg b (b + 1) w (w.setCell ⟨b, 1, none⟩ (.int .i32 1)) := Chg.own w b 1 _
  have hl := run_call_load (P := Try.prog) Try.func23 (by kernel_rfl) (by kernel_rfl) (by kernel_rfl) .u32 (by kernel_rfl) h1.c0
  have hnot : ∀ (x : Bool) (w : World), (Op.unary .not (.bool x)).run Try.prog w = .ok (.bool (!x)) w := fun _ _ => rfl
  have c1 := h.c1
  have f1 := h.fr 1
  have H1 : Hid (Sm (w.setCell ⟨b, 1, none⟩ (.int .i32 1)) b 0 1 0) := h1
  have HC1 : Hid _ := C1
  clear h h1 C1
  go_enter_defers Try.func21, Try.ntmps21
  go_wp2_with (go_at_call 24; refine (once_lock ⟨b, 1, none⟩ _ (by go_simp) (by go_simp)).mono ?_; rintro e w' ⟨rfl, rfl⟩)
  go_wp2_with (first | (go_at_call 20; go_in) | (go_at_call 19; refine (makeTable_calls _ b 0 1 H1.out).mono ?_; rintro e w2 ⟨rfl, hs, hc⟩))
  have s1 := hs.drew.done 1
  have HS2 : Hid (Sm ((w2.drew.setCell ⟨b, 0, none⟩ (.int .u32 1)).setCell ⟨b, 1, none⟩ (.int .i32 0)) b 1 0 256) := s1.lock 0
  have HC2 : Hid (Chg b (b + 1) w ((w2.drew.setCell ⟨b, 0, none⟩ (.int .u32 1)).setCell ⟨b, 1, none⟩ (.int .i32 0))) := (((HC1.out.trans hc).drew).trans (Chg.own _ b 0 _)).trans (Chg.own _ b 1 _)
  have k0 := hs.c0
  have k1 := s1.c1
  have g0 := hs.fr 0
  have g1 := s1.fr 1
  clear hs hc s1
  refine leaves_cons (f := 26) (args := #[.pointer (some ⟨b, 0, none⟩), .bool true]) (by simp) (by simp [go_sem]) ?_
  refine (once_store ⟨b, 0, none⟩ (.int .u32 0) .returning _ k0 g0).mono ?_
  rintro e u' w'' ⟨rfl, rfl, rfl⟩
  refine leaves_cons (f := 25) (args := #[.pointer (some ⟨b, 1, none⟩)]) (by simp [settle]) (by simp [go_sem]) ?_
  refine (once_unlock ⟨b, 1, none⟩ _ _ k1 g1).mono ?_
  rintro e u' w'' ⟨rfl, rfl, rfl⟩
  simp [Leaves, settle, results, Try.results21]
  exact ⟨HS2.out, HC2.out⟩

set_option maxRecDepth 100000 in
set_option maxHeartbeats 1600000 in
theorem onceDo_calls (w : World) (b : Nat) (h : Sm w b 0 0 0) :
    Calls Try.prog 18 #[.pointer (some ⟨b, 0, none⟩), .func (.func 19) #[.pointer (some ⟨b, 0, none⟩)] #[]] w fun e w' => e = .returned (.tuple #[]) ∧ Sm w' b 1 0 256 ∧ Chg b (b + 1) w w' := by
  have hl := run_call_load (P := Try.prog) Try.func23 (by kernel_rfl) (by kernel_rfl) (by kernel_rfl) .u32 (by kernel_rfl) h.c0
  have hnot : ∀ (x : Bool) (w : World), (Op.unary .not (.bool x)).run Try.prog w = .ok (.bool (!x)) w := fun _ _ => rfl
  have HS : Hid (Sm w b 0 0 0) := h
  clear h
  go_enter Try.func18, Try.ntmps18
  go_wp2_with (first | (go_at_call 21; refine (doSlow_calls _ b HS.out).mono ?_; rintro e w' ⟨rfl, hs, hc⟩) | (go_at_call 20; go_in))
  go_end0
  exact ⟨rfl, hs, hc⟩

end Go.Proofs.Ytfkkfifjgkoicaa
