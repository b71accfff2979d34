/- Several short texts in one: OnceP, Once, ImplCrc. -/
import Derived.Test.YtmfkgnifkkkkiaaDoorSteps
import Derived.Defers
import Derived.Laws.Pointers
import Derived.Laws.LoneSync
import Derived.RegionTactic
import Derived.RegionCalls
import Derived.Deep.RegionWith
namespace Go.Proofs.YtmfkgnifkkkkiaaDoor
open Go.RowKit

theorem once_disable (w : World) : (callFunc 85 #[]).run Tryd.prog w = .ok (.value (.tuple #[])) w := run_call_mark0 Tryd.func85 (by kernel_rfl) (by kernel_rfl) (by kernel_rfl) .disable (by kernel_rfl) w
theorem once_enable (w : World) : (callFunc 87 #[]).run Tryd.prog w = .ok (.value (.tuple #[])) w := run_call_mark0 Tryd.func87 (by kernel_rfl) (by kernel_rfl) (by kernel_rfl) .enable (by kernel_rfl) w
theorem once_acquire (a : Addr) (w : World) : (callFunc 88 #[.pointer (some a)]).run Tryd.prog w = .ok (.value (.tuple #[])) w := run_call_marked Tryd.func88 (by kernel_rfl) (by kernel_rfl) (by kernel_rfl) .acquire (by kernel_rfl) a w
theorem once_release (a : Addr) (w : World) : (callFunc 90 #[.pointer (some a)]).run Tryd.prog w = .ok (.value (.tuple #[])) w := run_call_marked Tryd.func90 (by kernel_rfl) (by kernel_rfl) (by kernel_rfl) .releaseMerge (by kernel_rfl) a w

set_option maxRecDepth 100000 in
/-- The done mark is stored, as a deferred call. -/
theorem once_store (a : Addr) (x : Value) (u : FrameMode) (w : World) (hc : w.cell? a = some x) (hz : w.frozen? a = false) :
    CallsD Tryd.prog 80 #[.pointer (some a), .bool true] u w fun e u' w' => u' = u ∧ (e = .returned (.tuple #[]) ∧ w' = w.drew.setCell a (.int .u32 1)) := by
  have hc' : w.drew.cell? a = some x := by go_simp
  have hz' : w.drew.frozen? a = false := by go_simp
  have hst := run_call_store (P := Tryd.prog) Tryd.func83 (by kernel_rfl) (by kernel_rfl) (by kernel_rfl) (by kernel_rfl) (k := .u32) (y := 1) hc' hz'
  go_enter_d Tryd.func80, Tryd.ntmps80
  go_wp2
  go_region_calls
  all_goals (go_end0; exact ⟨rfl, rfl⟩)

set_option maxRecDepth 100000 in
/-- The lock is let go, as a deferred call. -/
theorem once_unlock (a : Addr) (u : FrameMode) (w : World) (hc : w.cell? a = some (.int .i32 1)) (hz : w.frozen? a = false) :
    CallsD Tryd.prog 79 #[.pointer (some a)] u w fun e u' w' => u' = u ∧ (e = .returned (.tuple #[]) ∧ w' = w.setCell a (.int .i32 0)) := by
  have hd := once_disable
  have he := once_enable
  have hr := once_release
  have hadd := run_call_add (P := Tryd.prog) Tryd.func91 (by kernel_rfl) (by kernel_rfl) (by kernel_rfl) .i32 (by kernel_rfl) (y := -1) (s := 0) hc hz (by simp [go_sem]; rfl)
  have hcv := run_convert_to_unsafe (P := Tryd.prog) (src := 147) (dst := 151) Tryd.underlying147 Tryd.underlying151 (by kernel_rfl) hc
  go_enter_d Tryd.func79, Tryd.ntmps79
  go_wp2
  go_end0
  go_wp2
  go_end0
  exact ⟨rfl, rfl⟩

set_option maxRecDepth 100000 in
/-- The lock, which is free, is taken. -/
theorem once_lock (a : Addr) (w : World) (hc : w.cell? a = some (.int .i32 0)) (hz : w.frozen? a = false) :
    Calls Tryd.prog 78 #[.pointer (some a)] w fun e w' => e = .returned (.tuple #[]) ∧ w' = w.setCell a (.int .i32 1) := by
  have hd := once_disable
  have he := once_enable
  have ha := once_acquire
  have hcas := run_call_cas_hit (P := Tryd.prog) Tryd.func86 (by kernel_rfl) (by kernel_rfl) (by kernel_rfl) .i32 (by kernel_rfl) (y := 1) hc hz
  have hc' : (w.setCell a (.int .i32 1)).cell? a = some (.int .i32 1) := World.cell?_setCell_same w a _ hc
  have hcv := run_convert_to_unsafe (P := Tryd.prog) (src := 147) (dst := 151) Tryd.underlying147 Tryd.underlying151 (by kernel_rfl) hc'
  go_enter Tryd.func78, Tryd.ntmps78
  go_wp2
  first | go_end0 | (simp only [Exit.inBlock, Exit.then]; refine bodyPost_ret (results_none rfl _ _ _) rfl ?_) | refine bodyPost_ret (results_none rfl _ _ _) rfl ?_
  go_wp2
  go_end0
  exact ⟨rfl, rfl⟩

end Go.Proofs.YtmfkgnifkkkkiaaDoor

namespace Go.Proofs.YtmfkgnifkkkkiaaDoor
open Go.RowKit

/-- A sums in memory: its done mark, its lock, its table's first k words. -/
structure Sm (w : World) (b : Nat) (d s : Int) (k : Nat) : Prop where
  c0 : w.cell? ⟨b, 0, none⟩ = some (.int .u32 d)
  c1 : w.cell? ⟨b, 1, none⟩ = some (.int .i32 s)
  fr : ∀ o, w.frozen? ⟨b, o, none⟩ = false
  ex : ∀ i, i < 256 → ∃ x, w.cell? ⟨b, 3 + i, none⟩ = some x
  tab : ∀ i, i < k → w.cell? ⟨b, 3 + i, none⟩ = some (.int .u32 (regK 8 i 0 : Nat))
  ty : ∃ cs : Array Value, w.heap[b]? = some (.cells cs 133 (0, 0))

theorem Sm.drew {w : World} {b : Nat} {d s : Int} {k : Nat} (h : Sm w b d s k) : Sm w.drew b d s k :=
  ⟨h.c0, h.c1, h.fr, h.ex, h.tab, h.ty⟩

theorem cell_set_ne {w : World} {p q : Addr} {v x : Value} (h : w.cell? q = some x) (hn : p ≠ q) : (w.setCell p v).cell? q = some x := (World.cell?_setCell_other w p q v hn).trans h

theorem addr_ne {b i j : Nat} (h : i ≠ j) : (⟨b, i, none⟩ : Addr) ≠ ⟨b, j, none⟩ := fun e => h (by injection e)

theorem ty_set {w : World} {b o : Nat} {v : Value} (h : ∃ cs : Array Value, w.heap[b]? = some (.cells cs 133 (0, 0))) : ∃ cs : Array Value, (w.setCell ⟨b, o, none⟩ v).heap[b]? = some (.cells cs 133 (0, 0)) := by
  obtain ⟨cs, h⟩ := h
  exact ⟨_, heap_setCell_same w b o cs _ v h⟩

theorem Sm.put {w : World} {b : Nat} {d s : Int} {k : Nat} (h : Sm w b d s k) (hk : k < 256) : Sm (w.setCell ⟨b, 3 + k, none⟩ (.int .u32 (regK 8 k 0 : Nat))) b d s (k + 1) := by
  obtain ⟨c0, c1, fr, ex, tab, ty⟩ := h
  obtain ⟨x, hx⟩ := ex k hk
  refine ⟨cell_set_ne c0 (addr_ne (by omega)), cell_set_ne c1 (addr_ne (by omega)), fun o => by simp [fr o], fun i hi => ?_, fun i hi => ?_, ty_set ty⟩
  · by_cases e : i = k
    · subst e; exact ⟨_, World.cell?_setCell_same w _ _ hx⟩
    · obtain ⟨y, hy⟩ := ex i hi
      exact ⟨y, cell_set_ne hy (addr_ne (by omega))⟩
  · by_cases e : i = k
    · subst e; exact World.cell?_setCell_same w _ _ hx
    · exact cell_set_ne (tab i (by omega)) (addr_ne (by omega))

theorem Sm.lock {w : World} {b : Nat} {d s : Int} {k : Nat} (h : Sm w b d s k) (s' : Int) : Sm (w.setCell ⟨b, 1, none⟩ (.int .i32 s')) b d s' k := by
  obtain ⟨c0, c1, fr, ex, tab, ty⟩ := h
  refine ⟨cell_set_ne c0 (addr_ne (by omega)), World.cell?_setCell_same w _ _ c1, fun o => by simp [fr o], fun i hi => ?_, fun i hi => cell_set_ne (tab i hi) (addr_ne (by omega)), ty_set ty⟩
  obtain ⟨y, hy⟩ := ex i hi
  exact ⟨y, cell_set_ne hy (addr_ne (by omega))⟩

theorem Sm.done {w : World} {b : Nat} {d s : Int} {k : Nat} (h : Sm w b d s k) (d' : Int) : Sm (w.setCell ⟨b, 0, none⟩ (.int .u32 d')) b d' s k := by
  obtain ⟨c0, c1, fr, ex, tab, ty⟩ := h
  refine ⟨World.cell?_setCell_same w _ _ c0, cell_set_ne c1 (addr_ne (by omega)), fun o => by simp [fr o], fun i hi => ?_, fun i hi => cell_set_ne (tab i hi) (addr_ne (by omega)), ty_set ty⟩
  obtain ⟨y, hy⟩ := ex i hi
  exact ⟨y, cell_set_ne hy (addr_ne (by omega))⟩

theorem Chg.own (w : World) (b o : Nat) (v : Value) : Chg b (b + 1) w (w.setCell ⟨b, o, none⟩ v) :=
  Chg.setCell (p := ⟨b, o, none⟩) (Chg.refl b (b + 1) w) (Or.inl ⟨Nat.le_refl _, Nat.lt_succ_self _⟩) v

set_option maxHeartbeats 1000000 in
theorem makeTable_calls (w : World) (b : Nat) (d s : Int) (h : Sm w b d s 0) :
    Calls Tryd.prog 73 #[.pointer (some ⟨b, 0, none⟩)] w fun e w' => e = .returned (.tuple #[]) ∧ Sm w' b d s 256 ∧ Chg b (b + 1) w w' := by
  have HS : Hid (Sm w b d s 0) := h
  clear h
  go_enter Tryd.func73, Tryd.ntmps73
  go_wp2
  go_loopw [3] (fun i wr => ∃ k : Nat, k ≤ 256 ∧ i = .int .i64 k ∧ Sm wr b d s k ∧ Chg b (b + 1) w wr) (fun i _ => 256 - (intOf i).toNat)
  case atStart => exact ⟨0, Nat.zero_le _, rfl, HS.out, Chg.refl _ _ _⟩
  case round =>
    obtain ⟨k, hk, rfl, hs, hc⟩ := hrel
    clear HS
    by_cases hlt : k < 256
    · have hi : (k : Int) < 256 := by omega
      obtain ⟨x, cx⟩ := hs.ex k hlt
      have fx := hs.fr (3 + k)
      have HR : Hid (Sm (wr.setCell ⟨b, 3 + k, none⟩ (.int .u32 (regK 8 k 0 : Nat))) b d s (k + 1)) := hs.put hlt
      have HC : Hid (Chg b (b + 1) w (wr.setCell ⟨b, 3 + k, none⟩ (.int .u32 (regK 8 k 0 : Nat)))) := hc.setCell (Or.inl ⟨Nat.le_refl _, Nat.lt_succ_self _⟩) _
      have HW : Hid (IntKind.u32.wrap (k : Int) = (k : Int)) := by show _ = _; rw [IntKind.wrap_u32']; omega
      clear hs hc
      go_wp2
      go_region_with (go_at_call 76; rw [HW.out]; refine (eightSteps_calls _ k (by omega)).mono ?_; rintro e w1 ⟨rfl, rfl⟩)
      all_goals
        go_wp2
        go_roundw
        case rel => exact ⟨k + 1, by omega, by go_num, HR.out.drew, HC.out.drew⟩
        case measure => simp [intOf]; omega
    · obtain rfl : k = 256 := by omega
      have HR : Hid (Sm wr b d s 256) := hs
      clear hs
      go_wp2
      go_end0
      exact ⟨rfl, HR.out, hc⟩

set_option maxRecDepth 100000 in
set_option maxHeartbeats 1600000 in
theorem doSlow_calls (w : World) (b : Nat) (h : Sm w b 0 0 0) :
    Calls Tryd.prog 75 #[.pointer (some ⟨b, 0, none⟩), .func (.func 73) #[.pointer (some ⟨b, 0, none⟩)] #[]] w fun e w' => e = .returned (.tuple #[]) ∧ Sm w' b 1 0 256 ∧ Chg b (b + 1) w w' := by
  have h1 := h.lock 1
  have C1 : Chg b (b + 1) w (w.setCell ⟨b, 1, none⟩ (.int .i32 1)) := Chg.own w b 1 _
  have hl := run_call_load (P := Tryd.prog) Tryd.func77 (by kernel_rfl) (by kernel_rfl) (by kernel_rfl) .u32 (by kernel_rfl) h1.c0
  have hnot : ∀ (x : Bool) (w : World), (Op.unary .not (.bool x)).run Tryd.prog w = .ok (.bool (!x)) w := fun _ _ => rfl
  have c1 := h.c1
  have f1 := h.fr 1
  have H1 : Hid (Sm (w.setCell ⟨b, 1, none⟩ (.int .i32 1)) b 0 1 0) := h1
  have HC1 : Hid _ := C1
  clear h h1 C1
  go_enter_defers Tryd.func75, Tryd.ntmps75
  go_wp2_with (go_at_call 78; refine (once_lock ⟨b, 1, none⟩ _ (by go_simp) (by go_simp)).mono ?_; rintro e w' ⟨rfl, rfl⟩)
  go_wp2_with (first | (go_at_call 74; go_in) | (go_at_call 73; refine (makeTable_calls _ b 0 1 H1.out).mono ?_; rintro e w2 ⟨rfl, hs, hc⟩))
  have s1 := hs.drew.done 1
  have HS2 : Hid (Sm ((w2.drew.setCell ⟨b, 0, none⟩ (.int .u32 1)).setCell ⟨b, 1, none⟩ (.int .i32 0)) b 1 0 256) := s1.lock 0
  have HC2 : Hid (Chg b (b + 1) w ((w2.drew.setCell ⟨b, 0, none⟩ (.int .u32 1)).setCell ⟨b, 1, none⟩ (.int .i32 0))) := (((HC1.out.trans hc).drew).trans (Chg.own _ b 0 _)).trans (Chg.own _ b 1 _)
  have k0 := hs.c0
  have k1 := s1.c1
  have g0 := hs.fr 0
  have g1 := s1.fr 1
  clear hs hc s1
  refine leaves_cons (f := 80) (args := #[.pointer (some ⟨b, 0, none⟩), .bool true]) (by simp) (by simp [go_sem]) ?_
  refine (once_store ⟨b, 0, none⟩ (.int .u32 0) .returning _ k0 g0).mono ?_
  rintro e u' w'' ⟨rfl, rfl, rfl⟩
  refine leaves_cons (f := 79) (args := #[.pointer (some ⟨b, 1, none⟩)]) (by simp [settle]) (by simp [go_sem]) ?_
  refine (once_unlock ⟨b, 1, none⟩ _ _ k1 g1).mono ?_
  rintro e u' w'' ⟨rfl, rfl, rfl⟩
  simp [Leaves, settle, results, Tryd.results75]
  exact ⟨HS2.out, HC2.out⟩

set_option maxRecDepth 100000 in
set_option maxHeartbeats 1600000 in
theorem onceDo_calls (w : World) (b : Nat) (h : Sm w b 0 0 0) :
    Calls Tryd.prog 72 #[.pointer (some ⟨b, 0, none⟩), .func (.func 73) #[.pointer (some ⟨b, 0, none⟩)] #[]] w fun e w' => e = .returned (.tuple #[]) ∧ Sm w' b 1 0 256 ∧ Chg b (b + 1) w w' := by
  have hl := run_call_load (P := Tryd.prog) Tryd.func77 (by kernel_rfl) (by kernel_rfl) (by kernel_rfl) .u32 (by kernel_rfl) h.c0
  have hnot : ∀ (x : Bool) (w : World), (Op.unary .not (.bool x)).run Tryd.prog w = .ok (.bool (!x)) w := fun _ _ => rfl
  have HS : Hid (Sm w b 0 0 0) := h
  clear h
  go_enter Tryd.func72, Tryd.ntmps72
  go_wp2_with (first | (go_at_call 75; refine (doSlow_calls _ b HS.out).mono ?_; rintro e w' ⟨rfl, hs, hc⟩) | (go_at_call 74; go_in))
  go_end0
  exact ⟨rfl, hs, hc⟩

end Go.Proofs.YtmfkgnifkkkkiaaDoor

namespace Go.Proofs.YtmfkgnifkkkkiaaDoor
open Go.RowKit

theorem xor_low (r d : Nat) (hd : d < 256) : bits .xor .u8 ((r : Int) % 256) (d : Int) = ((r % 256 ^^^ d : Nat) : Int) := by
  have := u8_xor_nat (r % 256) d (by omega) hd
  rw [← this]; congr 1

theorem xor_high (r t : Nat) (hr : r < 4294967296) (ht : t < 4294967296) : bits .xor .u32 ((r : Int) / 256) (t : Int) = ((r / 256 ^^^ t : Nat) : Int) := by
  have := u32_xor_nat (r / 256) t (by omega) ht
  rw [← this]; congr 1

theorem not32' (a : Nat) (ha : a < 4294967296) : bits .xor .u32 IntKind.u32.max (a : Int) = ((4294967295 - a : Nat) : Int) := by
  have h : IntKind.u32.max = 4294967295 := by decide
  rw [h]; exact not32 a ha

set_option maxHeartbeats 1000000 in
theorem on_some (w : World) (b c : Nat) (hc : c ≤ 4294967295) (h : Sm w b 0 0 0) (xs : List Int) (g off cap : Nat) (hB : Byt xs) (hl : xs.length ≤ 9223372036854775807) (hg : g ≠ b)
    (h1 : ∀ i, i < xs.length → w.cell? ⟨g, off + i, none⟩ = some (.int .u8 (xs.getD i 0))) :
    Calls Tryd.prog 71 #[.pointer (some ⟨b, 0, none⟩), .int .u32 c, .slice (some ⟨g, off, none⟩) xs.length cap] w fun e w' => e = .returned (.int .u32 (4294967295 - reg (4294967295 - c) (nb xs) : Nat)) ∧ Chg b (b + 1) w w' := by
  have HS : Hid _ := h
  have HB : Hid (Byt xs) := hB
  have HG : Hid _ := h1
  have HN : Hid (bits .xor .u32 IntKind.u32.max (c : Int) = ((4294967295 - c : Nat) : Int)) := not32' c (by omega)
  go_enter Tryd.func71, Tryd.ntmps71
  go_wp2_with (go_at_call 72; refine (onceDo_calls _ b HS.out).mono ?_; rintro e w1 ⟨rfl, hs, hch⟩)
  go_wp2
  go_loop [7, 20] (fun y i => ∃ k : Nat, k ≤ xs.length ∧ i = .int .i64 k ∧ y = .int .u32 (reg (4294967295 - c) (nb (xs.take k)) : Nat)) (fun _ i => xs.length - (intOf i).toNat)
  case atStart => exact ⟨0, Nat.zero_le _, rfl, by rw [HN.out]; rfl⟩
  case round =>
    obtain ⟨k, hk, rfl, rfl⟩ := hrel
    clear HS HN
    have b1 := reg_lt (nb (xs.take k)) (4294967295 - c) (by omega)
    by_cases hlt : k < xs.length
    · have c1 := hch.cell (HG.out k hlt) (by omega)
      have b3 := HB.out.getD k
      have hi : (k : Int) < (xs.length : Int) := by omega
      have HE : Hid (reg (4294967295 - c) (nb (xs.take (k + 1))) = regK 8 (reg (4294967295 - c) (nb (xs.take k))) (xs.getD k 0).toNat) := reg_take_succ _ xs k hlt
      generalize reg (4294967295 - c) (nb (xs.take k)) = r at *
      obtain ⟨d, hd⟩ : ∃ d : Nat, xs.getD k 0 = (d : Int) := ⟨(xs.getD k 0).toNat, by omega⟩
      rw [hd] at c1 b3
      have hx := xor_low r d (by omega)
      have ht : r % 256 ^^^ d < 256 := Nat.xor_lt_two_pow (n := 8) (by omega) (by omega)
      have HE' : Hid (reg (4294967295 - c) (nb (xs.take (k + 1))) = r / 256 ^^^ regK 8 (r % 256 ^^^ d) 0) := by
        show _ = _
        rw [HE.out, hd]; exact regK_table r d (by omega)
      clear HE hd
      generalize r % 256 ^^^ d = t at *
      have ct := hs.tab t ht
      have bt := regK_lt 8 t 0 (by omega)
      generalize regK 8 t 0 = z at *
      have hz := xor_high r z b1 bt
      clear hs hch
      go_wp2
      go_round
      case rel => exact ⟨k + 1, by omega, by go_num, by rw [HE'.out]⟩
      case measure => simp [intOf]; omega
    · obtain rfl : k = xs.length := by omega
      rw [List.take_length] at *
      generalize hr : reg (4294967295 - c) (nb xs) = r at *
      have HR : Hid (reg (4294967295 - c) (nb xs) = r) := hr
      have HN : Hid (bits .xor .u32 IntKind.u32.max (r : Int) = ((4294967295 - r : Nat) : Int)) := not32' r (by omega)
      clear hs hr
      go_wp2
      go_ret
      exact ⟨by rw [HR.out, ← HN.out]; rfl, hch⟩

set_option maxHeartbeats 1000000 in
theorem on_none (w : World) (b c : Nat) (hc : c ≤ 4294967295) (h : Sm w b 0 0 0) (ao : Option Addr) (cap : Nat) :
    Calls Tryd.prog 71 #[.pointer (some ⟨b, 0, none⟩), .int .u32 c, .slice ao 0 cap] w fun e w' => e = .returned (.int .u32 (4294967295 - (4294967295 - c) : Nat)) ∧ Chg b (b + 1) w w' := by
  have HS : Hid _ := h
  have hn := not32' c (by omega)
  have hn2 := not32' (4294967295 - c) (by omega)
  generalize 4294967295 - c = r at *
  generalize 4294967295 - r = q at *
  go_enter Tryd.func71, Tryd.ntmps71
  go_wp2_with (go_at_call 72; refine (onceDo_calls _ b HS.out).mono ?_; rintro e w1 ⟨rfl, hs, hch⟩)
  go_wp2
  refine wp_loop_rounds 1 ?_; rw [rounds_succ]
  go_wp2
  go_ret
  exact ⟨rfl, hch⟩

theorem on_calls (w : World) (b c : Nat) (hc : c ≤ 4294967295) (h : Sm w b 0 0 0) {lo hi : Nat} {a : Value} {xs : List Int} (hB : Byt xs) (h1 : View w lo hi .u8 a xs) (hb : b < lo ∨ hi ≤ b) :
    Calls Tryd.prog 71 #[.pointer (some ⟨b, 0, none⟩), .int .u32 c, a] w fun e w' => e = .returned (.int .u32 (4294967295 - reg (4294967295 - c) (nb xs) : Nat)) ∧ Chg b (b + 1) w w' := by
  obtain ⟨ao, cap, rfl, hl, _, h1⟩ := h1
  rcases h1 with rfl | ⟨x, off, rfl, hx1, hx2, h1⟩
  · exact on_none w b c hc h ao cap
  · exact on_some w b c hc h xs x off cap hB hl (by omega) h1

/-- The cells of a sums that was never written. -/
def ZS : Array Value := (.int .u32 0 :: .int .i32 0 :: .int .u32 0 :: List.replicate 256 (Value.int .u32 0)).toArray
theorem Tryd.infoSm : (Tryd.prog.info? 133).map (fun i => (i.zero, i.size, i.bytes)) = some (some (.agg ZS), 259, 1036) := by kernel_rfl
theorem zero_sums (w : World) : (zeroValue 133).run Tryd.prog w = .ok (.agg ZS) w := by
  obtain ⟨i, hi, hz0, hz1, hz2⟩ := info_parts Tryd.infoSm
  simp only [zeroValue, typeInfo, Sem.run_bind]
  simp [hi, hz0]

theorem ZS_at0 : ZS[0]? = some (.int .u32 0) := by unfold ZS; rw [List.getElem?_toArray, List.getElem?_cons_zero]
theorem ZS_at1 : ZS[1]? = some (.int .i32 0) := by unfold ZS; rw [List.getElem?_toArray, List.getElem?_cons_succ, List.getElem?_cons_zero]
theorem ZS_at3 (i : Nat) (hi : i < 256) : ZS[3 + i]? = some (.int .u32 0) := by
  unfold ZS
  rw [List.getElem?_toArray, show 3 + i = i + 1 + 1 + 1 by omega, List.getElem?_cons_succ, List.getElem?_cons_succ, List.getElem?_cons_succ, List.getElem?_replicate, if_pos hi]

/-- A new sums. -/
theorem Sm.new (w : World) : Sm (w.alloc (.cells ZS 133)) w.heap.size 0 0 0 := by
  have hn := heap_new w (.cells ZS 133)
  have hc : ∀ o, (w.alloc (.cells ZS 133)).cell? ⟨w.heap.size, o, none⟩ = ZS[o]? := by
    intro o; simp only [World.cell?, hn]; simp
  refine ⟨by rw [hc, ZS_at0], by rw [hc, ZS_at1], fun o => ?_, fun i hi => ⟨.int .u32 0, by rw [hc, ZS_at3 i hi]⟩, fun i hi => by omega, ⟨_, hn⟩⟩
  simp only [World.frozen?, hn]
  simp

set_option maxHeartbeats 1000000 in
theorem implCrcOn_calls (w : World) (c : Int) {lo hi : Nat} {a : Value} {xs : List Int} (hB : Byt xs) (h1 : View w lo hi .u8 a xs) (hb : hi ≤ w.heap.size) :
    Calls Tryd.prog 69 #[.int .i64 c, a] w fun e w' => e = .returned (.int .i64 (crcOnV c xs)) ∧ Chg 0 0 w w' := by
  by_cases h : c < 0 ∨ c > 4294967295
  · have hv : crcOnV c xs = -1 := by unfold crcOnV; rw [if_pos h]
    rw [hv]
    by_cases h0 : c < 0
    · go_enter Tryd.func69, Tryd.ntmps69
      go_wp2
      go_ret
      exact ⟨rfl, Chg.refl _ _ _⟩
    · have h2 : c > 4294967295 := by omega
      go_enter Tryd.func69, Tryd.ntmps69
      go_wp2
      go_ret
      exact ⟨rfl, Chg.refl _ _ _⟩
  · obtain ⟨n, rfl⟩ : ∃ n : Nat, c = (n : Int) := ⟨c.toNat, by omega⟩
    have hn : n ≤ 4294967295 := by omega
    have hv : crcOnV n xs = 4294967295 - (reg (4294967295 - n) (nb xs) : Nat) := by unfold crcOnV; rw [if_neg h]; rfl
    rw [hv]
    have h0 : ¬ (n : Int) < 0 := by omega
    have h2 : ¬ (n : Int) > 4294967295 := by omega
    have hlt := reg_lt (nb xs) (4294967295 - n) (by omega)
    have hzs := zero_sums
    go_enter Tryd.func69, Tryd.ntmps69
    go_wp2_with fail
    have hA : Chg 0 0 w (w.alloc (.cells ZS 133)) := Chg.alloc (Chg.refl 0 0 w) _
    have hS := Sm.new w
    generalize w.alloc (.cells ZS 133) = w1 at *
    try rw [HW.out]
    refine (on_calls _ w.heap.size n hn hS hB (h1.chg hA (by omega)) (Or.inr hb)).mono ?_
    rintro e w2 ⟨rfl, hc⟩
    have hC : Chg 0 0 w w2 := hA.step hc (Or.inr (Or.inl (Nat.le_refl _)))
    generalize hr : reg (4294967295 - n) (nb xs) = r at *
    have HR : Hid _ := hr
    have HE : Hid (((4294967295 - r : Nat) : Int) = 4294967295 - (r : Int)) := by show _ = _; omega
    go_wp2
    go_ret
    exact ⟨by rw [HR.out, ← HE.out]; rfl, hC⟩

set_option maxHeartbeats 400000 in
theorem implCrc_calls (w : World) {lo hi : Nat} {a : Value} {xs : List Int} (hB : Byt xs) (h1 : View w lo hi .u8 a xs) (hb : hi ≤ w.heap.size) :
    Calls Tryd.prog 62 #[a] w fun e w' => e = .returned (.int .i64 (crcV xs)) ∧ Chg 0 0 w w' := by
  go_enter Tryd.func62, Tryd.ntmps62
  go_wp2_with fail
  refine (implCrcOn_calls _ 0 hB h1 hb).mono ?_
  rintro e w1 ⟨rfl, hc⟩
  rw [crcOnV_zero]
  go_wp2
  go_ret
  exact ⟨rfl, hc⟩

end Go.Proofs.YtmfkgnifkkkkiaaDoor
