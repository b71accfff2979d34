/- Geometries: toGeometry, eqPlaces of the laws; l7Up, l7Places, ValidGeometry, Layout of the model. -/
import Derived.Test.YthfhleddpiemoaaDoorRows
import Derived.Test.YthfhleddpiemoaaDoorMem
import Derived.Deep.DeepCutAuto
namespace Go.Proofs.YthfhleddpiemoaaDoor
open Go.RowKit

abbrev geoV (b l n : Int) : Value := .agg #[.int .i64 b, .int .i64 l, .int .i64 n]
abbrev plV (a b c d e f g : Int) : Value := .agg #[.int .i64 a, .int .i64 b, .int .i64 c, .int .i64 d, .int .i64 e, .int .i64 f, .int .i64 g]

/-- a divided by b, rounded up. -/
def upN (a b : Nat) : Nat := (a + (b - 1)) / b

set_option maxRecDepth 20000 in
set_option maxHeartbeats 400000 in
theorem l7Up_512 (w : World) (a : Nat) (ha : a ≤ 8192) : Calls Tryd.prog 29 #[.int .i64 a, .int .i64 512] w fun e w' => e = .returned (.int .i64 (upN a 512)) ∧ w' = w := by
  have HU : Hid (upN a 512 = (a + 511) / 512) := rfl
  go_enter Tryd.func29, Tryd.ntmps29
  go_wp2
  go_loopw [5] (fun x wr => wr = w ∧ ∃ k : Nat, x = .int .i64 k ∧ (k = 0 ∨ (k - 1) * 512 < a)) (fun x _ => a - (intOf x).toNat * 512)
  case atStart => exact ⟨rfl, 0, rfl, Or.inl rfl⟩
  case round =>
    obtain ⟨rfl, k, rfl, hk⟩ := hrel
    by_cases hlt : k * 512 < a
    · have h1 : (k : Int) * 512 < (a : Int) := by omega
      go_wp2
      go_roundw
      case rel => exact ⟨trivial, k + 1, by go_num, Or.inr (by omega)⟩
      case measure => simp [intOf]; omega
    · have h1 : ¬ (k : Int) * 512 < (a : Int) := by omega
      have h2 : k ≤ 17 := by omega
      have Hk : Hid (upN a 512 = k) := by have := HU.out; show _ = _; omega
      clear hk
      go_wp2
      go_ret
      exact ⟨by rw [Hk.out]; rfl, rfl⟩

set_option maxRecDepth 20000 in
set_option maxHeartbeats 400000 in
theorem l7Up_64 (w : World) (a : Nat) (ha : a ≤ 8192) : Calls Tryd.prog 29 #[.int .i64 a, .int .i64 64] w fun e w' => e = .returned (.int .i64 (upN a 64)) ∧ w' = w := by
  have HU : Hid (upN a 64 = (a + 63) / 64) := rfl
  go_enter Tryd.func29, Tryd.ntmps29
  go_wp2
  go_loopw [5] (fun x wr => wr = w ∧ ∃ k : Nat, x = .int .i64 k ∧ (k = 0 ∨ (k - 1) * 64 < a)) (fun x _ => a - (intOf x).toNat * 64)
  case atStart => exact ⟨rfl, 0, rfl, Or.inl rfl⟩
  case round =>
    obtain ⟨rfl, k, rfl, hk⟩ := hrel
    by_cases hlt : k * 64 < a
    · have h1 : (k : Int) * 64 < (a : Int) := by omega
      go_wp2
      go_roundw
      case rel => exact ⟨trivial, k + 1, by go_num, Or.inr (by omega)⟩
      case measure => simp [intOf]; omega
    · have h1 : ¬ (k : Int) * 64 < (a : Int) := by omega
      have h2 : k ≤ 130 := by omega
      have Hk : Hid (upN a 64 = k) := by have := HU.out; show _ = _; omega
      clear hk
      go_wp2
      go_ret
      exact ⟨by rw [Hk.out]; rfl, rfl⟩

theorem plV_ext {a b c d e f g a' b' c' d' e' f' g' : Int} (h1 : a = a') (h2 : b = b') (h3 : c = c') (h4 : d = d') (h5 : e = e') (h6 : f = f') (h7 : g = g') : plV a b c d e f g = plV a' b' c' d' e' f' g' := by
  subst h1 h2 h3 h4 h5 h6 h7; rfl

/-- Where the data begin. -/
def dataAt (b l n : Nat) : Nat := 3 + l + upN b 512 + upN (n * 32) 64
def placesV (b l n : Nat) : Value :=
  plV ((2 + l : Nat) : Int) ((3 + l : Nat) : Int) (upN b 512) ((3 + l + upN b 512 : Nat) : Int) (upN (n * 32) 64) (dataAt b l n) ((b : Int) - dataAt b l n)

theorem up512_le {a : Nat} (h : a ≤ 8192) : upN a 512 ≤ 16 := by unfold upN; omega
theorem up64_le {a : Nat} (h : a ≤ 8192) : upN a 64 ≤ 128 := by unfold upN; omega

set_option maxRecDepth 20000 in
set_option maxHeartbeats 1000000 in
theorem l7Places_calls (w : World) (b l n : Nat) (hb : b ≤ 2048) (hl : l ≤ 512) (hn : n ≤ 256) : Calls Tryd.prog 22 #[geoV b l n] w fun e w' => e = .returned (placesV b l n) ∧ Chg 0 0 w w' := by
  have k1 := up512_le (a := b) (by omega)
  have k2 := up64_le (a := n * 32) (by omega)
  obtain ⟨mb, Hmb⟩ : ∃ m, Hid (upN b 512 = m) := ⟨_, rfl⟩
  obtain ⟨tb, Htb⟩ : ∃ m, Hid (upN (n * 32) 64 = m) := ⟨_, rfl⟩
  rw [Hmb.out] at k1
  rw [Htb.out] at k2
  go_enter Tryd.func22, Tryd.ntmps22
  go_wp2_with fail
  refine (l7Up_512 _ b (by omega)).mono ?_
  rintro e w1 ⟨rfl, rfl⟩
  rw [Hmb.out]
  have hU := fun w : World => l7Up_64 w (n * 32) (by omega)
  rw [show ((n * 32 : Nat) : Int) = (n : Int) * 32 by omega] at hU
  go_wp2_with fail
  refine (hU _).mono ?_
  rintro e w1 ⟨rfl, rfl⟩
  rw [Htb.out]
  go_wp2
  refine bodyPost_ret (v := placesV b l n) (by simp [results, Tryd.results22, go_sem]; unfold placesV dataAt; rw [Hmb.out, Htb.out]; exact plV_ext (by omega) (by omega) rfl (by omega) rfl (by omega) (by omega)) rfl ⟨rfl, ?_⟩
  exact ((Chg.alloc (Chg.refl 0 0 w) _).alloc _).alloc _

theorem field_pl (w : World) (a b c d e f g : Int) : (Instr.field 46 (.agg #[.int .i64 a, .int .i64 b, .int .i64 c, .int .i64 d, .int .i64 e, .int .i64 f, .int .i64 g]) 6).run Tryd.prog w = .ok (.int .i64 g) w := by
  simp [Instr.field, run_underlying Tryd.underlying46, asAgg, part, isAgg, run_underlying Tryd.underlying2]

/-- Its numbers are within their bounds. -/
abbrev GeoIn (b l n : Int) : Prop := 16 ≤ l ∧ l ≤ 512 ∧ 1 ≤ n ∧ n ≤ 256 ∧ 1 ≤ b ∧ b ≤ 2048
def geoB (b l n : Int) : Bool := decide (GeoIn b l n) && decide (dataAt b.toNat l.toNat n.toNat < b.toNat)
def layV (b l n : Int) : Value := if geoB b l n = true then placesV b.toNat l.toNat n.toNat else plV 0 0 0 0 0 0 0

theorem geoB_in {b l n : Nat} (h : GeoIn b l n) : geoB b l n = decide (dataAt b l n < b) := by unfold geoB; rw [decide_eq_true h]; simp
theorem geoB_out {b l n : Int} (h : ¬ GeoIn b l n) : geoB b l n = false := by unfold geoB; rw [decide_eq_false h]; simp

set_option maxRecDepth 20000 in
set_option maxHeartbeats 1000000 in
theorem specValidGeometry_in (w : World) (b l n : Nat) (h1 : 16 ≤ l) (h2 : l ≤ 512) (h3 : 1 ≤ n) (h4 : n ≤ 256) (h5 : 1 ≤ b) (h6 : b ≤ 2048) :
    Calls Tryd.prog 14 #[geoV b l n] w fun e w' => e = .returned (.bool (decide (dataAt b l n < b))) ∧ Chg 0 0 w w' := by
  have e1 : ¬ ((l : Int) < 16) := by omega
  have e2 : ¬ (512 < (l : Int)) := by omega
  have e3 : ¬ ((n : Int) < 1) := by omega
  have e4 : ¬ (256 < (n : Int)) := by omega
  have e5 : ¬ ((b : Int) < 1) := by omega
  have e6 : ¬ (2048 < (b : Int)) := by omega
  have HA : Hid (Chg 0 0 w (w.alloc (.cells #[.int .i64 b, .int .i64 l, .int .i64 n] 24))) := Chg.alloc (Chg.refl 0 0 w) _
  have hN := l7Places_calls (w.alloc (.cells #[.int .i64 b, .int .i64 l, .int .i64 n] 24)) b l n h6 h2 h4
  obtain ⟨c0, c1, c2, c3, c4, c5, HP⟩ : ∃ c0 c1 c2 c3 c4 c5, Hid (placesV b l n = .agg #[.int .i64 c0, .int .i64 c1, .int .i64 c2, .int .i64 c3, .int .i64 c4, .int .i64 c5, .int .i64 ((b : Int) - dataAt b l n)]) := ⟨_, _, _, _, _, _, rfl⟩
  rw [HP.out] at hN
  have hfd := fun W => field_pl W c0 c1 c2 c3 c4 c5 ((b : Int) - dataAt b l n)
  clear HP
  obtain ⟨D, HD⟩ : ∃ D, Hid (dataAt b l n = D) := ⟨_, rfl⟩
  rw [HD.out] at hN hfd
  go_enter Tryd.func14, Tryd.ntmps14
  go_wp2_with fail
  refine hN.mono ?_
  rintro e w1 ⟨rfl, hc⟩
  clear hN
  have HC : Hid (Chg 0 0 w w1) := HA.out.trans hc
  clear hc
  by_cases hD : D < b
  · have hd : (1 : Int) ≤ (b : Int) - (D : Int) := by omega
    go_wp2
    go_ret
    exact ⟨by rw [HD.out, decide_eq_true hD]; rfl, HC.out⟩
  · have hd : ¬ (1 : Int) ≤ (b : Int) - (D : Int) := by omega
    go_wp2
    go_ret
    exact ⟨by rw [HD.out, decide_eq_false hD, ← decide_eq_false (show ¬ (1 : Int) ≤ (b : Int) - (D : Int) by omega)]; rfl, HC.out⟩

set_option maxRecDepth 20000 in
set_option maxHeartbeats 1000000 in
theorem specValidGeometry_out (w : World) (b l n : Int) (hx : ¬ (16 ≤ l ∧ l ≤ 512 ∧ 1 ≤ n ∧ n ≤ 256 ∧ 1 ≤ b ∧ b ≤ 2048)) :
    Calls Tryd.prog 14 #[geoV b l n] w fun e w' => e = .returned (.bool false) ∧ Chg 0 0 w w' := by
  have HA : Hid (Chg 0 0 w (w.alloc (.cells #[.int .i64 b, .int .i64 l, .int .i64 n] 24))) := Chg.alloc (Chg.refl 0 0 w) _
  by_cases e1 : l < 16
  · clear hx
    go_enter Tryd.func14, Tryd.ntmps14
    go_wp2
    go_ret
    exact ⟨rfl, HA.out⟩
  by_cases e2 : 512 < l
  · clear hx
    go_enter Tryd.func14, Tryd.ntmps14
    go_wp2
    go_ret
    exact ⟨rfl, HA.out⟩
  by_cases e3 : n < 1
  · clear hx
    go_enter Tryd.func14, Tryd.ntmps14
    go_wp2
    go_ret
    exact ⟨rfl, HA.out⟩
  by_cases e4 : 256 < n
  · clear hx
    go_enter Tryd.func14, Tryd.ntmps14
    go_wp2
    go_ret
    exact ⟨rfl, HA.out⟩
  by_cases e5 : b < 1
  · clear hx
    go_enter Tryd.func14, Tryd.ntmps14
    go_wp2
    go_ret
    exact ⟨rfl, HA.out⟩
  have e6 : 2048 < b := by omega
  clear hx
  go_enter Tryd.func14, Tryd.ntmps14
  go_wp2
  go_ret
  exact ⟨rfl, HA.out⟩

theorem specValidGeometry_calls (w : World) (b l n : Int) :
    Calls Tryd.prog 14 #[geoV b l n] w fun e w' => e = .returned (.bool (geoB b l n)) ∧ Chg 0 0 w w' := by
  by_cases h : GeoIn b l n
  · obtain ⟨h1, h2, h3, h4, h5, h6⟩ := id h
    obtain ⟨p, rfl⟩ : ∃ p : Nat, b = p := ⟨b.toNat, by omega⟩
    obtain ⟨q, rfl⟩ : ∃ q : Nat, l = q := ⟨l.toNat, by omega⟩
    obtain ⟨r, rfl⟩ : ∃ r : Nat, n = r := ⟨n.toNat, by omega⟩
    rw [geoB_in h]
    exact specValidGeometry_in w p q r (by omega) (by omega) (by omega) (by omega) (by omega) (by omega)
  · rw [geoB_out h]
    exact specValidGeometry_out w b l n h

theorem geo3 {w : World} {s : Nat} {a b c : Value} {t : TypeId} (h : w.heap[s]? = some (.cells #[a, b, c] t (0, 0))) :
    w.cell? ⟨s, 0, none⟩ = some a ∧ w.cell? ⟨s, 1, none⟩ = some b ∧ w.cell? ⟨s, 2, none⟩ = some c := by
  simp [World.cell?, h]
theorem seven_all {w : World} {s : Nat} {a b c d e f g : Value} {t : TypeId} (h : w.heap[s]? = some (.cells #[a, b, c, d, e, f, g] t (0, 0))) :
    (w.cell? ⟨s, 0, none⟩ = some a ∧ w.cell? ⟨s, 1, none⟩ = some b ∧ w.cell? ⟨s, 2, none⟩ = some c ∧ w.cell? ⟨s, 3, none⟩ = some d ∧ w.cell? ⟨s, 4, none⟩ = some e ∧ w.cell? ⟨s, 5, none⟩ = some f ∧ w.cell? ⟨s, 6, none⟩ = some g) ∧
      w.frozen? ⟨s, 0, none⟩ = false ∧ w.frozen? ⟨s, 1, none⟩ = false ∧ w.frozen? ⟨s, 2, none⟩ = false ∧ w.frozen? ⟨s, 3, none⟩ = false ∧ w.frozen? ⟨s, 4, none⟩ = false ∧ w.frozen? ⟨s, 5, none⟩ = false ∧ w.frozen? ⟨s, 6, none⟩ = false := by
  simp [World.cell?, World.frozen?, h]

abbrev geoO (t : TypeId) (b l n : Int) : Obj := .cells #[.int .i64 b, .int .i64 l, .int .i64 n] t
abbrev plO (t : TypeId) (a b c d e f g : Int) : Obj := .cells #[.int .i64 a, .int .i64 b, .int .i64 c, .int .i64 d, .int .i64 e, .int .i64 f, .int .i64 g] t

end Go.Proofs.YthfhleddpiemoaaDoor
