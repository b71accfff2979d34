/- Calls as lines: lwLine of the laws. (made by tools/mklwline.py) -/
import Derived.Test.YtacfkgfemmgpkaaGreatDoorLwUsedD
namespace Go.Proofs.YtacfkgfemmgpkaaGreatDoor
open Go.RowKit

set_option maxRecDepth 20000 in
set_option maxHeartbeats 4000000 in
theorem line_sync (w : World) : Calls Tryz.prog 6 #[.agg #[.int .i64 22, .string ⟨#[]⟩, .string ⟨#[]⟩, .int .i64 0, .int .i64 0, .int .i64 0, .string ⟨#[]⟩]] w fun e w' => e = .returned (.string (J [⟨#[115, 121, 110, 99]⟩])) ∧ Chg 0 0 w w' := by
  go_enter Tryz.func6, Tryz.ntmps6
  go_wp2
  go_ret
  exact ⟨rfl, Chg.alloc (Chg.alloc (Chg.alloc (Chg.refl 0 0 w) _) _) _⟩

set_option maxRecDepth 20000 in
set_option maxHeartbeats 4000000 in
theorem line_checkpoint (w : World) : Calls Tryz.prog 6 #[.agg #[.int .i64 23, .string ⟨#[]⟩, .string ⟨#[]⟩, .int .i64 0, .int .i64 0, .int .i64 0, .string ⟨#[]⟩]] w fun e w' => e = .returned (.string (J [⟨#[99, 104, 101, 99, 107, 112, 111, 105, 110, 116]⟩])) ∧ Chg 0 0 w w' := by
  go_enter Tryz.func6, Tryz.ntmps6
  go_wp2
  go_ret
  exact ⟨rfl, Chg.alloc (Chg.alloc (Chg.alloc (Chg.refl 0 0 w) _) _) _⟩

set_option maxRecDepth 20000 in
set_option maxHeartbeats 4000000 in
theorem line_space (w : World) : Calls Tryz.prog 6 #[.agg #[.int .i64 24, .string ⟨#[]⟩, .string ⟨#[]⟩, .int .i64 0, .int .i64 0, .int .i64 0, .string ⟨#[]⟩]] w fun e w' => e = .returned (.string (J [⟨#[115, 112, 97, 99, 101]⟩])) ∧ Chg 0 0 w w' := by
  go_enter Tryz.func6, Tryz.ntmps6
  go_wp2
  go_ret
  exact ⟨rfl, Chg.alloc (Chg.alloc (Chg.alloc (Chg.refl 0 0 w) _) _) _⟩

set_option maxRecDepth 20000 in
set_option maxHeartbeats 4000000 in
theorem line_log (w : World) : Calls Tryz.prog 6 #[.agg #[.int .i64 25, .string ⟨#[]⟩, .string ⟨#[]⟩, .int .i64 0, .int .i64 0, .int .i64 0, .string ⟨#[]⟩]] w fun e w' => e = .returned (.string (J [⟨#[108, 111, 103]⟩])) ∧ Chg 0 0 w w' := by
  go_enter Tryz.func6, Tryz.ntmps6
  go_wp2
  go_ret
  exact ⟨rfl, Chg.alloc (Chg.alloc (Chg.alloc (Chg.refl 0 0 w) _) _) _⟩

set_option maxRecDepth 20000 in
set_option maxHeartbeats 4000000 in
theorem line_create (w : World) (p : ByteArray) (_hp : Fld p) (hps : p.size ≤ 3000) : Calls Tryz.prog 6 #[.agg #[.int .i64 1, .string p, .string ⟨#[]⟩, .int .i64 0, .int .i64 0, .int .i64 0, .string ⟨#[]⟩]] w fun e w' => e = .returned (.string (J [⟨#[99, 114, 101, 97, 116, 101]⟩, p])) ∧ Chg 0 0 w w' := by
  have z1 : (⟨#[99, 114, 101, 97, 116, 101]⟩ : ByteArray).size + (⟨#[32]⟩ : ByteArray).size ≤ 10000 := by decide
  have z2 : ((⟨#[99, 114, 101, 97, 116, 101]⟩ : ByteArray) ++ ⟨#[32]⟩).size + p.size ≤ 10000 := by rw [ByteArray.size_append]; have e1 : (⟨#[99, 114, 101, 97, 116, 101]⟩ : ByteArray).size = 6 := rfl; have e2 : (⟨#[32]⟩ : ByteArray).size = 1 := rfl; omega
  have HT : Hid (((⟨#[99, 114, 101, 97, 116, 101]⟩ : ByteArray) ++ ⟨#[32]⟩) ++ p = J [⟨#[99, 114, 101, 97, 116, 101]⟩, p]) := app_assoc _ _ _
  go_enter Tryz.func6, Tryz.ntmps6
  go_wp2
  go_region
  go_wp2
  go_ret
  exact ⟨by rw [← HT.out]; rfl, Chg.drew (Chg.alloc (Chg.alloc (Chg.alloc (Chg.refl 0 0 w) _) _) _)⟩

set_option maxRecDepth 20000 in
set_option maxHeartbeats 4000000 in
theorem line_mkdir (w : World) (p : ByteArray) (_hp : Fld p) (hps : p.size ≤ 3000) : Calls Tryz.prog 6 #[.agg #[.int .i64 2, .string p, .string ⟨#[]⟩, .int .i64 0, .int .i64 0, .int .i64 0, .string ⟨#[]⟩]] w fun e w' => e = .returned (.string (J [⟨#[109, 107, 100, 105, 114]⟩, p])) ∧ Chg 0 0 w w' := by
  have z1 : (⟨#[109, 107, 100, 105, 114]⟩ : ByteArray).size + (⟨#[32]⟩ : ByteArray).size ≤ 10000 := by decide
  have z2 : ((⟨#[109, 107, 100, 105, 114]⟩ : ByteArray) ++ ⟨#[32]⟩).size + p.size ≤ 10000 := by rw [ByteArray.size_append]; have e1 : (⟨#[109, 107, 100, 105, 114]⟩ : ByteArray).size = 5 := rfl; have e2 : (⟨#[32]⟩ : ByteArray).size = 1 := rfl; omega
  have HT : Hid (((⟨#[109, 107, 100, 105, 114]⟩ : ByteArray) ++ ⟨#[32]⟩) ++ p = J [⟨#[109, 107, 100, 105, 114]⟩, p]) := app_assoc _ _ _
  go_enter Tryz.func6, Tryz.ntmps6
  go_wp2
  go_region
  go_wp2
  go_ret
  exact ⟨by rw [← HT.out]; rfl, Chg.drew (Chg.alloc (Chg.alloc (Chg.alloc (Chg.refl 0 0 w) _) _) _)⟩

set_option maxRecDepth 20000 in
set_option maxHeartbeats 4000000 in
theorem line_unlink (w : World) (p : ByteArray) (_hp : Fld p) (hps : p.size ≤ 3000) : Calls Tryz.prog 6 #[.agg #[.int .i64 3, .string p, .string ⟨#[]⟩, .int .i64 0, .int .i64 0, .int .i64 0, .string ⟨#[]⟩]] w fun e w' => e = .returned (.string (J [⟨#[117, 110, 108, 105, 110, 107]⟩, p])) ∧ Chg 0 0 w w' := by
  have z1 : (⟨#[117, 110, 108, 105, 110, 107]⟩ : ByteArray).size + (⟨#[32]⟩ : ByteArray).size ≤ 10000 := by decide
  have z2 : ((⟨#[117, 110, 108, 105, 110, 107]⟩ : ByteArray) ++ ⟨#[32]⟩).size + p.size ≤ 10000 := by rw [ByteArray.size_append]; have e1 : (⟨#[117, 110, 108, 105, 110, 107]⟩ : ByteArray).size = 6 := rfl; have e2 : (⟨#[32]⟩ : ByteArray).size = 1 := rfl; omega
  have HT : Hid (((⟨#[117, 110, 108, 105, 110, 107]⟩ : ByteArray) ++ ⟨#[32]⟩) ++ p = J [⟨#[117, 110, 108, 105, 110, 107]⟩, p]) := app_assoc _ _ _
  go_enter Tryz.func6, Tryz.ntmps6
  go_wp2
  go_region
  go_wp2
  go_ret
  exact ⟨by rw [← HT.out]; rfl, Chg.drew (Chg.alloc (Chg.alloc (Chg.alloc (Chg.refl 0 0 w) _) _) _)⟩

set_option maxRecDepth 20000 in
set_option maxHeartbeats 4000000 in
theorem line_rmdir (w : World) (p : ByteArray) (_hp : Fld p) (hps : p.size ≤ 3000) : Calls Tryz.prog 6 #[.agg #[.int .i64 4, .string p, .string ⟨#[]⟩, .int .i64 0, .int .i64 0, .int .i64 0, .string ⟨#[]⟩]] w fun e w' => e = .returned (.string (J [⟨#[114, 109, 100, 105, 114]⟩, p])) ∧ Chg 0 0 w w' := by
  have z1 : (⟨#[114, 109, 100, 105, 114]⟩ : ByteArray).size + (⟨#[32]⟩ : ByteArray).size ≤ 10000 := by decide
  have z2 : ((⟨#[114, 109, 100, 105, 114]⟩ : ByteArray) ++ ⟨#[32]⟩).size + p.size ≤ 10000 := by rw [ByteArray.size_append]; have e1 : (⟨#[114, 109, 100, 105, 114]⟩ : ByteArray).size = 5 := rfl; have e2 : (⟨#[32]⟩ : ByteArray).size = 1 := rfl; omega
  have HT : Hid (((⟨#[114, 109, 100, 105, 114]⟩ : ByteArray) ++ ⟨#[32]⟩) ++ p = J [⟨#[114, 109, 100, 105, 114]⟩, p]) := app_assoc _ _ _
  go_enter Tryz.func6, Tryz.ntmps6
  go_wp2
  go_region
  go_wp2
  go_ret
  exact ⟨by rw [← HT.out]; rfl, Chg.drew (Chg.alloc (Chg.alloc (Chg.alloc (Chg.refl 0 0 w) _) _) _)⟩

set_option maxRecDepth 20000 in
set_option maxHeartbeats 4000000 in
theorem line_open (w : World) (p : ByteArray) (_hp : Fld p) (hps : p.size ≤ 3000) : Calls Tryz.prog 6 #[.agg #[.int .i64 14, .string p, .string ⟨#[]⟩, .int .i64 0, .int .i64 0, .int .i64 0, .string ⟨#[]⟩]] w fun e w' => e = .returned (.string (J [⟨#[111, 112, 101, 110]⟩, p])) ∧ Chg 0 0 w w' := by
  have z1 : (⟨#[111, 112, 101, 110, 32]⟩ : ByteArray).size + p.size ≤ 10000 := by have e1 : (⟨#[111, 112, 101, 110, 32]⟩ : ByteArray).size = 5 := rfl; omega
  have HT : Hid ((⟨#[111, 112, 101, 110, 32]⟩ : ByteArray) ++ p = J [⟨#[111, 112, 101, 110]⟩, p]) := J_word _ _ (by rfl) _
  go_enter Tryz.func6, Tryz.ntmps6
  go_wp2
  go_ret
  exact ⟨by rw [← HT.out]; rfl, Chg.alloc (Chg.alloc (Chg.alloc (Chg.refl 0 0 w) _) _) _⟩

set_option maxRecDepth 20000 in
set_option maxHeartbeats 4000000 in
theorem line_stat (w : World) (p : ByteArray) (_hp : Fld p) (hps : p.size ≤ 3000) : Calls Tryz.prog 6 #[.agg #[.int .i64 18, .string p, .string ⟨#[]⟩, .int .i64 0, .int .i64 0, .int .i64 0, .string ⟨#[]⟩]] w fun e w' => e = .returned (.string (J [⟨#[115, 116, 97, 116]⟩, p])) ∧ Chg 0 0 w w' := by
  have z1 : (⟨#[115, 116, 97, 116, 32]⟩ : ByteArray).size + p.size ≤ 10000 := by have e1 : (⟨#[115, 116, 97, 116, 32]⟩ : ByteArray).size = 5 := rfl; omega
  have HT : Hid ((⟨#[115, 116, 97, 116, 32]⟩ : ByteArray) ++ p = J [⟨#[115, 116, 97, 116]⟩, p]) := J_word _ _ (by rfl) _
  go_enter Tryz.func6, Tryz.ntmps6
  go_wp2
  go_ret
  exact ⟨by rw [← HT.out]; rfl, Chg.alloc (Chg.alloc (Chg.alloc (Chg.refl 0 0 w) _) _) _⟩

set_option maxRecDepth 20000 in
set_option maxHeartbeats 4000000 in
theorem line_lstat (w : World) (p : ByteArray) (_hp : Fld p) (hps : p.size ≤ 3000) : Calls Tryz.prog 6 #[.agg #[.int .i64 19, .string p, .string ⟨#[]⟩, .int .i64 0, .int .i64 0, .int .i64 0, .string ⟨#[]⟩]] w fun e w' => e = .returned (.string (J [⟨#[108, 115, 116, 97, 116]⟩, p])) ∧ Chg 0 0 w w' := by
  have z1 : (⟨#[108, 115, 116, 97, 116, 32]⟩ : ByteArray).size + p.size ≤ 10000 := by have e1 : (⟨#[108, 115, 116, 97, 116, 32]⟩ : ByteArray).size = 6 := rfl; omega
  have HT : Hid ((⟨#[108, 115, 116, 97, 116, 32]⟩ : ByteArray) ++ p = J [⟨#[108, 115, 116, 97, 116]⟩, p]) := J_word _ _ (by rfl) _
  go_enter Tryz.func6, Tryz.ntmps6
  go_wp2
  go_ret
  exact ⟨by rw [← HT.out]; rfl, Chg.alloc (Chg.alloc (Chg.alloc (Chg.refl 0 0 w) _) _) _⟩

set_option maxRecDepth 20000 in
set_option maxHeartbeats 4000000 in
theorem line_list (w : World) (p : ByteArray) (_hp : Fld p) (hps : p.size ≤ 3000) : Calls Tryz.prog 6 #[.agg #[.int .i64 20, .string p, .string ⟨#[]⟩, .int .i64 0, .int .i64 0, .int .i64 0, .string ⟨#[]⟩]] w fun e w' => e = .returned (.string (J [⟨#[108, 105, 115, 116]⟩, p])) ∧ Chg 0 0 w w' := by
  have z1 : (⟨#[108, 105, 115, 116, 32]⟩ : ByteArray).size + p.size ≤ 10000 := by have e1 : (⟨#[108, 105, 115, 116, 32]⟩ : ByteArray).size = 5 := rfl; omega
  have HT : Hid ((⟨#[108, 105, 115, 116, 32]⟩ : ByteArray) ++ p = J [⟨#[108, 105, 115, 116]⟩, p]) := J_word _ _ (by rfl) _
  go_enter Tryz.func6, Tryz.ntmps6
  go_wp2
  go_ret
  exact ⟨by rw [← HT.out]; rfl, Chg.alloc (Chg.alloc (Chg.alloc (Chg.refl 0 0 w) _) _) _⟩

set_option maxRecDepth 20000 in
set_option maxHeartbeats 4000000 in
theorem line_readlink (w : World) (p : ByteArray) (_hp : Fld p) (hps : p.size ≤ 3000) : Calls Tryz.prog 6 #[.agg #[.int .i64 21, .string p, .string ⟨#[]⟩, .int .i64 0, .int .i64 0, .int .i64 0, .string ⟨#[]⟩]] w fun e w' => e = .returned (.string (J [⟨#[114, 101, 97, 100, 108, 105, 110, 107]⟩, p])) ∧ Chg 0 0 w w' := by
  have z1 : (⟨#[114, 101, 97, 100, 108, 105, 110, 107, 32]⟩ : ByteArray).size + p.size ≤ 10000 := by have e1 : (⟨#[114, 101, 97, 100, 108, 105, 110, 107, 32]⟩ : ByteArray).size = 9 := rfl; omega
  have HT : Hid ((⟨#[114, 101, 97, 100, 108, 105, 110, 107, 32]⟩ : ByteArray) ++ p = J [⟨#[114, 101, 97, 100, 108, 105, 110, 107]⟩, p]) := J_word _ _ (by rfl) _
  go_enter Tryz.func6, Tryz.ntmps6
  go_wp2
  go_ret
  exact ⟨by rw [← HT.out]; rfl, Chg.alloc (Chg.alloc (Chg.alloc (Chg.refl 0 0 w) _) _) _⟩

set_option maxRecDepth 20000 in
set_option maxHeartbeats 4000000 in
theorem line_rename (w : World) (p : ByteArray) (_hp : Fld p) (hps : p.size ≤ 3000) (t : ByteArray) (_ht : Fld t) (hts : t.size ≤ 3000) : Calls Tryz.prog 6 #[.agg #[.int .i64 5, .string p, .string t, .int .i64 0, .int .i64 0, .int .i64 0, .string ⟨#[]⟩]] w fun e w' => e = .returned (.string (J [⟨#[114, 101, 110, 97, 109, 101]⟩, p, t])) ∧ Chg 0 0 w w' := by
  have e1 : (⟨#[114, 101, 110, 97, 109, 101, 32]⟩ : ByteArray).size = 7 := rfl
  have e2 : (⟨#[32]⟩ : ByteArray).size = 1 := rfl
  have z1 : (⟨#[114, 101, 110, 97, 109, 101, 32]⟩ : ByteArray).size + p.size ≤ 10000 := by omega
  have z2 : ((⟨#[114, 101, 110, 97, 109, 101, 32]⟩ : ByteArray) ++ p).size + (⟨#[32]⟩ : ByteArray).size ≤ 10000 := by rw [ByteArray.size_append]; omega
  have z3 : (((⟨#[114, 101, 110, 97, 109, 101, 32]⟩ : ByteArray) ++ p) ++ ⟨#[32]⟩).size + t.size ≤ 10000 := by rw [ByteArray.size_append, ByteArray.size_append]; omega
  have HT : Hid ((((⟨#[114, 101, 110, 97, 109, 101, 32]⟩ : ByteArray) ++ p) ++ ⟨#[32]⟩) ++ t = J [⟨#[114, 101, 110, 97, 109, 101]⟩, p, t]) := by show _ = _; rw [J_word ⟨#[114, 101, 110, 97, 109, 101]⟩ ⟨#[114, 101, 110, 97, 109, 101, 32]⟩ (by rfl) p]; exact J_more _ _ _
  clear e1 e2
  go_enter Tryz.func6, Tryz.ntmps6
  go_wp2
  go_ret
  exact ⟨by rw [← HT.out]; rfl, Chg.alloc (Chg.alloc (Chg.alloc (Chg.refl 0 0 w) _) _) _⟩

set_option maxRecDepth 20000 in
set_option maxHeartbeats 4000000 in
theorem line_link (w : World) (p : ByteArray) (_hp : Fld p) (hps : p.size ≤ 3000) (t : ByteArray) (_ht : Fld t) (hts : t.size ≤ 3000) : Calls Tryz.prog 6 #[.agg #[.int .i64 9, .string p, .string t, .int .i64 0, .int .i64 0, .int .i64 0, .string ⟨#[]⟩]] w fun e w' => e = .returned (.string (J [⟨#[108, 105, 110, 107]⟩, p, t])) ∧ Chg 0 0 w w' := by
  have e1 : (⟨#[108, 105, 110, 107, 32]⟩ : ByteArray).size = 5 := rfl
  have e2 : (⟨#[32]⟩ : ByteArray).size = 1 := rfl
  have z1 : (⟨#[108, 105, 110, 107, 32]⟩ : ByteArray).size + p.size ≤ 10000 := by omega
  have z2 : ((⟨#[108, 105, 110, 107, 32]⟩ : ByteArray) ++ p).size + (⟨#[32]⟩ : ByteArray).size ≤ 10000 := by rw [ByteArray.size_append]; omega
  have z3 : (((⟨#[108, 105, 110, 107, 32]⟩ : ByteArray) ++ p) ++ ⟨#[32]⟩).size + t.size ≤ 10000 := by rw [ByteArray.size_append, ByteArray.size_append]; omega
  have HT : Hid ((((⟨#[108, 105, 110, 107, 32]⟩ : ByteArray) ++ p) ++ ⟨#[32]⟩) ++ t = J [⟨#[108, 105, 110, 107]⟩, p, t]) := by show _ = _; rw [J_word ⟨#[108, 105, 110, 107]⟩ ⟨#[108, 105, 110, 107, 32]⟩ (by rfl) p]; exact J_more _ _ _
  clear e1 e2
  go_enter Tryz.func6, Tryz.ntmps6
  go_wp2
  go_ret
  exact ⟨by rw [← HT.out]; rfl, Chg.alloc (Chg.alloc (Chg.alloc (Chg.refl 0 0 w) _) _) _⟩

set_option maxRecDepth 20000 in
set_option maxHeartbeats 4000000 in
theorem line_symlink (w : World) (p : ByteArray) (_hp : Fld p) (hps : p.size ≤ 3000) (t : ByteArray) (_ht : Fld t) (hts : t.size ≤ 3000) : Calls Tryz.prog 6 #[.agg #[.int .i64 10, .string p, .string t, .int .i64 0, .int .i64 0, .int .i64 0, .string ⟨#[]⟩]] w fun e w' => e = .returned (.string (J [⟨#[115, 121, 109, 108, 105, 110, 107]⟩, p, t])) ∧ Chg 0 0 w w' := by
  have e1 : (⟨#[115, 121, 109, 108, 105, 110, 107, 32]⟩ : ByteArray).size = 8 := rfl
  have e2 : (⟨#[32]⟩ : ByteArray).size = 1 := rfl
  have z1 : (⟨#[115, 121, 109, 108, 105, 110, 107, 32]⟩ : ByteArray).size + p.size ≤ 10000 := by omega
  have z2 : ((⟨#[115, 121, 109, 108, 105, 110, 107, 32]⟩ : ByteArray) ++ p).size + (⟨#[32]⟩ : ByteArray).size ≤ 10000 := by rw [ByteArray.size_append]; omega
  have z3 : (((⟨#[115, 121, 109, 108, 105, 110, 107, 32]⟩ : ByteArray) ++ p) ++ ⟨#[32]⟩).size + t.size ≤ 10000 := by rw [ByteArray.size_append, ByteArray.size_append]; omega
  have HT : Hid ((((⟨#[115, 121, 109, 108, 105, 110, 107, 32]⟩ : ByteArray) ++ p) ++ ⟨#[32]⟩) ++ t = J [⟨#[115, 121, 109, 108, 105, 110, 107]⟩, p, t]) := by show _ = _; rw [J_word ⟨#[115, 121, 109, 108, 105, 110, 107]⟩ ⟨#[115, 121, 109, 108, 105, 110, 107, 32]⟩ (by rfl) p]; exact J_more _ _ _
  clear e1 e2
  go_enter Tryz.func6, Tryz.ntmps6
  go_wp2
  go_ret
  exact ⟨by rw [← HT.out]; rfl, Chg.alloc (Chg.alloc (Chg.alloc (Chg.refl 0 0 w) _) _) _⟩

set_option maxRecDepth 20000 in
set_option maxHeartbeats 4000000 in
theorem line_close (w : World) (h : Int) (hh : -1000000000 < h) (hhs : h < 1000000000) : Calls Tryz.prog 6 #[.agg #[.int .i64 13, .string ⟨#[]⟩, .string ⟨#[]⟩, .int .i64 h, .int .i64 0, .int .i64 0, .string ⟨#[]⟩]] w fun e w' => e = .returned (.string (J [⟨#[99, 108, 111, 115, 101]⟩, (dec h)])) ∧ Chg 0 0 w w' := by
  have cA : Chg 0 0 w (((w.alloc (.cells #[.int .i64 13, .string ⟨#[]⟩, .string ⟨#[]⟩, .int .i64 h, .int .i64 0, .int .i64 0, .string ⟨#[]⟩] 29)).alloc (.cells #[.string ⟨#[115, 121, 110, 99]⟩, .string ⟨#[99, 104, 101, 99, 107, 112, 111, 105, 110, 116]⟩, .string ⟨#[115, 112, 97, 99, 101]⟩, .string ⟨#[108, 111, 103]⟩] 9)).alloc (.cells #[.string ⟨#[99, 114, 101, 97, 116, 101]⟩, .string ⟨#[109, 107, 100, 105, 114]⟩, .string ⟨#[117, 110, 108, 105, 110, 107]⟩, .string ⟨#[114, 109, 100, 105, 114]⟩] 9)) := Chg.alloc (Chg.alloc (Chg.alloc (Chg.refl 0 0 w) _) _) _
  have cB : Chg 0 0 (w.alloc (.cells #[.int .i64 13, .string ⟨#[]⟩, .string ⟨#[]⟩, .int .i64 h, .int .i64 0, .int .i64 0, .string ⟨#[]⟩] 29)) (((w.alloc (.cells #[.int .i64 13, .string ⟨#[]⟩, .string ⟨#[]⟩, .int .i64 h, .int .i64 0, .int .i64 0, .string ⟨#[]⟩] 29)).alloc (.cells #[.string ⟨#[115, 121, 110, 99]⟩, .string ⟨#[99, 104, 101, 99, 107, 112, 111, 105, 110, 116]⟩, .string ⟨#[115, 112, 97, 99, 101]⟩, .string ⟨#[108, 111, 103]⟩] 9)).alloc (.cells #[.string ⟨#[99, 114, 101, 97, 116, 101]⟩, .string ⟨#[109, 107, 100, 105, 114]⟩, .string ⟨#[117, 110, 108, 105, 110, 107]⟩, .string ⟨#[114, 109, 100, 105, 114]⟩] 9)) := Chg.alloc (Chg.alloc (Chg.refl 0 0 _) _) _
  have hBx := (cB.block w.heap.size (by simp) (by omega)).trans (heap_new w (.cells #[.int .i64 13, .string ⟨#[]⟩, .string ⟨#[]⟩, .int .i64 h, .int .i64 0, .int .i64 0, .string ⟨#[]⟩] 29))
  have HT : Hid (say ⟨#[99, 108, 111, 115, 101]⟩ [h] = J [⟨#[99, 108, 111, 115, 101]⟩, (dec h)]) := say_1 _ _
  have hws : (⟨#[99, 108, 111, 115, 101]⟩ : ByteArray).size ≤ 4000 := by decide
  have hI : In64 [h] := by intro x hx; simp only [List.mem_cons, List.not_mem_nil, or_false] at hx; rcases hx with rfl <;> omega
  have hI2 : ∀ x ∈ [h], -9223372036854775807 ≤ x := by intro x hx; simp only [List.mem_cons, List.not_mem_nil, or_false] at hx; rcases hx with rfl <;> omega
  go_enter Tryz.func6, Tryz.ntmps6
  obtain ⟨res, HRes⟩ : ∃ r, Hid (r = say ⟨#[99, 108, 111, 115, 101]⟩ [h]) := ⟨_, rfl⟩
  go_upto_region 3 with fail
  generalize (((w.alloc (.cells #[.int .i64 13, .string ⟨#[]⟩, .string ⟨#[]⟩, .int .i64 h, .int .i64 0, .int .i64 0, .string ⟨#[]⟩] 29)).alloc (.cells #[.string ⟨#[115, 121, 110, 99]⟩, .string ⟨#[99, 104, 101, 99, 107, 112, 111, 105, 110, 116]⟩, .string ⟨#[115, 112, 97, 99, 101]⟩, .string ⟨#[108, 111, 103]⟩] 9)).alloc (.cells #[.string ⟨#[99, 114, 101, 97, 116, 101]⟩, .string ⟨#[109, 107, 100, 105, 114]⟩, .string ⟨#[117, 110, 108, 105, 110, 107]⟩, .string ⟨#[114, 109, 100, 105, 114]⟩] 9)) = W3 at *
  obtain ⟨⟨y0, y1, y2, y3, y4, y5, y6⟩, _⟩ := sevenC hBx
  have hS := lwSay_calls (W3.alloc (.cells #[.int .i64 h] 2)) ⟨#[99, 108, 111, 115, 101]⟩ [h] (by simp) hws hI hI2 (view_i1 W3 h)
  have HC : Hid (Chg 0 0 w (W3.alloc (.cells #[.int .i64 h] 2))) := cA.alloc _
  clear hI hI2 cA cB hBx
  go_wp2_with fail
  refine hS.mono ?_
  rintro e w5 ⟨rfl, c5⟩
  have HC5 : Hid (Chg 0 0 w w5) := HC.out.trans c5
  clear hS c5
  rw [← HRes.out]
  go_wp2
  go_ret
  exact ⟨by rw [← HT.out, ← HRes.out]; rfl, HC5.out⟩

set_option maxRecDepth 20000 in
set_option maxHeartbeats 4000000 in
theorem line_fstat (w : World) (h : Int) (hh : -1000000000 < h) (hhs : h < 1000000000) : Calls Tryz.prog 6 #[.agg #[.int .i64 16, .string ⟨#[]⟩, .string ⟨#[]⟩, .int .i64 h, .int .i64 0, .int .i64 0, .string ⟨#[]⟩]] w fun e w' => e = .returned (.string (J [⟨#[102, 115, 116, 97, 116]⟩, (dec h)])) ∧ Chg 0 0 w w' := by
  have cA : Chg 0 0 w (((w.alloc (.cells #[.int .i64 16, .string ⟨#[]⟩, .string ⟨#[]⟩, .int .i64 h, .int .i64 0, .int .i64 0, .string ⟨#[]⟩] 29)).alloc (.cells #[.string ⟨#[115, 121, 110, 99]⟩, .string ⟨#[99, 104, 101, 99, 107, 112, 111, 105, 110, 116]⟩, .string ⟨#[115, 112, 97, 99, 101]⟩, .string ⟨#[108, 111, 103]⟩] 9)).alloc (.cells #[.string ⟨#[99, 114, 101, 97, 116, 101]⟩, .string ⟨#[109, 107, 100, 105, 114]⟩, .string ⟨#[117, 110, 108, 105, 110, 107]⟩, .string ⟨#[114, 109, 100, 105, 114]⟩] 9)) := Chg.alloc (Chg.alloc (Chg.alloc (Chg.refl 0 0 w) _) _) _
  have cB : Chg 0 0 (w.alloc (.cells #[.int .i64 16, .string ⟨#[]⟩, .string ⟨#[]⟩, .int .i64 h, .int .i64 0, .int .i64 0, .string ⟨#[]⟩] 29)) (((w.alloc (.cells #[.int .i64 16, .string ⟨#[]⟩, .string ⟨#[]⟩, .int .i64 h, .int .i64 0, .int .i64 0, .string ⟨#[]⟩] 29)).alloc (.cells #[.string ⟨#[115, 121, 110, 99]⟩, .string ⟨#[99, 104, 101, 99, 107, 112, 111, 105, 110, 116]⟩, .string ⟨#[115, 112, 97, 99, 101]⟩, .string ⟨#[108, 111, 103]⟩] 9)).alloc (.cells #[.string ⟨#[99, 114, 101, 97, 116, 101]⟩, .string ⟨#[109, 107, 100, 105, 114]⟩, .string ⟨#[117, 110, 108, 105, 110, 107]⟩, .string ⟨#[114, 109, 100, 105, 114]⟩] 9)) := Chg.alloc (Chg.alloc (Chg.refl 0 0 _) _) _
  have hBx := (cB.block w.heap.size (by simp) (by omega)).trans (heap_new w (.cells #[.int .i64 16, .string ⟨#[]⟩, .string ⟨#[]⟩, .int .i64 h, .int .i64 0, .int .i64 0, .string ⟨#[]⟩] 29))
  have HT : Hid (say ⟨#[102, 115, 116, 97, 116]⟩ [h] = J [⟨#[102, 115, 116, 97, 116]⟩, (dec h)]) := say_1 _ _
  have hws : (⟨#[102, 115, 116, 97, 116]⟩ : ByteArray).size ≤ 4000 := by decide
  have hI : In64 [h] := by intro x hx; simp only [List.mem_cons, List.not_mem_nil, or_false] at hx; rcases hx with rfl <;> omega
  have hI2 : ∀ x ∈ [h], -9223372036854775807 ≤ x := by intro x hx; simp only [List.mem_cons, List.not_mem_nil, or_false] at hx; rcases hx with rfl <;> omega
  go_enter Tryz.func6, Tryz.ntmps6
  obtain ⟨res, HRes⟩ : ∃ r, Hid (r = say ⟨#[102, 115, 116, 97, 116]⟩ [h]) := ⟨_, rfl⟩
  go_upto_region 3 with fail
  generalize (((w.alloc (.cells #[.int .i64 16, .string ⟨#[]⟩, .string ⟨#[]⟩, .int .i64 h, .int .i64 0, .int .i64 0, .string ⟨#[]⟩] 29)).alloc (.cells #[.string ⟨#[115, 121, 110, 99]⟩, .string ⟨#[99, 104, 101, 99, 107, 112, 111, 105, 110, 116]⟩, .string ⟨#[115, 112, 97, 99, 101]⟩, .string ⟨#[108, 111, 103]⟩] 9)).alloc (.cells #[.string ⟨#[99, 114, 101, 97, 116, 101]⟩, .string ⟨#[109, 107, 100, 105, 114]⟩, .string ⟨#[117, 110, 108, 105, 110, 107]⟩, .string ⟨#[114, 109, 100, 105, 114]⟩] 9)) = W3 at *
  obtain ⟨⟨y0, y1, y2, y3, y4, y5, y6⟩, _⟩ := sevenC hBx
  have hS := lwSay_calls (W3.alloc (.cells #[.int .i64 h] 2)) ⟨#[102, 115, 116, 97, 116]⟩ [h] (by simp) hws hI hI2 (view_i1 W3 h)
  have HC : Hid (Chg 0 0 w (W3.alloc (.cells #[.int .i64 h] 2))) := cA.alloc _
  clear hI hI2 cA cB hBx
  go_wp2_with fail
  refine hS.mono ?_
  rintro e w5 ⟨rfl, c5⟩
  have HC5 : Hid (Chg 0 0 w w5) := HC.out.trans c5
  clear hS c5
  rw [← HRes.out]
  go_wp2
  go_ret
  exact ⟨by rw [← HT.out, ← HRes.out]; rfl, HC5.out⟩

set_option maxRecDepth 20000 in
set_option maxHeartbeats 4000000 in
theorem line_ftrunc (w : World) (h : Int) (hh : -1000000000 < h) (hhs : h < 1000000000) (z : Int) (hz : -1000000000 < z) (hzs : z < 1000000000) : Calls Tryz.prog 6 #[.agg #[.int .i64 12, .string ⟨#[]⟩, .string ⟨#[]⟩, .int .i64 h, .int .i64 0, .int .i64 z, .string ⟨#[]⟩]] w fun e w' => e = .returned (.string (J [⟨#[102, 116, 114, 117, 110, 99]⟩, (dec h), (dec z)])) ∧ Chg 0 0 w w' := by
  have cA : Chg 0 0 w (((w.alloc (.cells #[.int .i64 12, .string ⟨#[]⟩, .string ⟨#[]⟩, .int .i64 h, .int .i64 0, .int .i64 z, .string ⟨#[]⟩] 29)).alloc (.cells #[.string ⟨#[115, 121, 110, 99]⟩, .string ⟨#[99, 104, 101, 99, 107, 112, 111, 105, 110, 116]⟩, .string ⟨#[115, 112, 97, 99, 101]⟩, .string ⟨#[108, 111, 103]⟩] 9)).alloc (.cells #[.string ⟨#[99, 114, 101, 97, 116, 101]⟩, .string ⟨#[109, 107, 100, 105, 114]⟩, .string ⟨#[117, 110, 108, 105, 110, 107]⟩, .string ⟨#[114, 109, 100, 105, 114]⟩] 9)) := Chg.alloc (Chg.alloc (Chg.alloc (Chg.refl 0 0 w) _) _) _
  have cB : Chg 0 0 (w.alloc (.cells #[.int .i64 12, .string ⟨#[]⟩, .string ⟨#[]⟩, .int .i64 h, .int .i64 0, .int .i64 z, .string ⟨#[]⟩] 29)) (((w.alloc (.cells #[.int .i64 12, .string ⟨#[]⟩, .string ⟨#[]⟩, .int .i64 h, .int .i64 0, .int .i64 z, .string ⟨#[]⟩] 29)).alloc (.cells #[.string ⟨#[115, 121, 110, 99]⟩, .string ⟨#[99, 104, 101, 99, 107, 112, 111, 105, 110, 116]⟩, .string ⟨#[115, 112, 97, 99, 101]⟩, .string ⟨#[108, 111, 103]⟩] 9)).alloc (.cells #[.string ⟨#[99, 114, 101, 97, 116, 101]⟩, .string ⟨#[109, 107, 100, 105, 114]⟩, .string ⟨#[117, 110, 108, 105, 110, 107]⟩, .string ⟨#[114, 109, 100, 105, 114]⟩] 9)) := Chg.alloc (Chg.alloc (Chg.refl 0 0 _) _) _
  have hBx := (cB.block w.heap.size (by simp) (by omega)).trans (heap_new w (.cells #[.int .i64 12, .string ⟨#[]⟩, .string ⟨#[]⟩, .int .i64 h, .int .i64 0, .int .i64 z, .string ⟨#[]⟩] 29))
  have HT : Hid (say ⟨#[102, 116, 114, 117, 110, 99]⟩ [h, z] = J [⟨#[102, 116, 114, 117, 110, 99]⟩, (dec h), (dec z)]) := say_2 _ _ _
  have hws : (⟨#[102, 116, 114, 117, 110, 99]⟩ : ByteArray).size ≤ 4000 := by decide
  have hI : In64 [h, z] := by intro x hx; simp only [List.mem_cons, List.not_mem_nil, or_false] at hx; rcases hx with rfl | rfl <;> omega
  have hI2 : ∀ x ∈ [h, z], -9223372036854775807 ≤ x := by intro x hx; simp only [List.mem_cons, List.not_mem_nil, or_false] at hx; rcases hx with rfl | rfl <;> omega
  go_enter Tryz.func6, Tryz.ntmps6
  obtain ⟨res, HRes⟩ : ∃ r, Hid (r = say ⟨#[102, 116, 114, 117, 110, 99]⟩ [h, z]) := ⟨_, rfl⟩
  go_upto_region 3 with fail
  generalize (((w.alloc (.cells #[.int .i64 12, .string ⟨#[]⟩, .string ⟨#[]⟩, .int .i64 h, .int .i64 0, .int .i64 z, .string ⟨#[]⟩] 29)).alloc (.cells #[.string ⟨#[115, 121, 110, 99]⟩, .string ⟨#[99, 104, 101, 99, 107, 112, 111, 105, 110, 116]⟩, .string ⟨#[115, 112, 97, 99, 101]⟩, .string ⟨#[108, 111, 103]⟩] 9)).alloc (.cells #[.string ⟨#[99, 114, 101, 97, 116, 101]⟩, .string ⟨#[109, 107, 100, 105, 114]⟩, .string ⟨#[117, 110, 108, 105, 110, 107]⟩, .string ⟨#[114, 109, 100, 105, 114]⟩] 9)) = W3 at *
  obtain ⟨⟨y0, y1, y2, y3, y4, y5, y6⟩, _⟩ := sevenC hBx
  have hS := lwSay_calls (W3.alloc (.cells #[.int .i64 h, .int .i64 z] 2)) ⟨#[102, 116, 114, 117, 110, 99]⟩ [h, z] (by simp) hws hI hI2 (view_i2 W3 h z)
  have HC : Hid (Chg 0 0 w (W3.alloc (.cells #[.int .i64 h, .int .i64 z] 2))) := cA.alloc _
  clear hI hI2 cA cB hBx
  go_wp2_with fail
  refine hS.mono ?_
  rintro e w5 ⟨rfl, c5⟩
  have HC5 : Hid (Chg 0 0 w w5) := HC.out.trans c5
  clear hS c5
  rw [← HRes.out]
  go_wp2
  go_ret
  exact ⟨by rw [← HT.out, ← HRes.out]; rfl, HC5.out⟩

set_option maxRecDepth 20000 in
set_option maxHeartbeats 4000000 in
theorem line_pread (w : World) (h : Int) (hh : -1000000000 < h) (hhs : h < 1000000000) (o : Int) (ho : -1000000000 < o) (hos : o < 1000000000) (z : Int) (hz : -1000000000 < z) (hzs : z < 1000000000) : Calls Tryz.prog 6 #[.agg #[.int .i64 15, .string ⟨#[]⟩, .string ⟨#[]⟩, .int .i64 h, .int .i64 o, .int .i64 z, .string ⟨#[]⟩]] w fun e w' => e = .returned (.string (J [⟨#[112, 114, 101, 97, 100]⟩, (dec h), (dec o), (dec z)])) ∧ Chg 0 0 w w' := by
  have cA : Chg 0 0 w (((w.alloc (.cells #[.int .i64 15, .string ⟨#[]⟩, .string ⟨#[]⟩, .int .i64 h, .int .i64 o, .int .i64 z, .string ⟨#[]⟩] 29)).alloc (.cells #[.string ⟨#[115, 121, 110, 99]⟩, .string ⟨#[99, 104, 101, 99, 107, 112, 111, 105, 110, 116]⟩, .string ⟨#[115, 112, 97, 99, 101]⟩, .string ⟨#[108, 111, 103]⟩] 9)).alloc (.cells #[.string ⟨#[99, 114, 101, 97, 116, 101]⟩, .string ⟨#[109, 107, 100, 105, 114]⟩, .string ⟨#[117, 110, 108, 105, 110, 107]⟩, .string ⟨#[114, 109, 100, 105, 114]⟩] 9)) := Chg.alloc (Chg.alloc (Chg.alloc (Chg.refl 0 0 w) _) _) _
  have cB : Chg 0 0 (w.alloc (.cells #[.int .i64 15, .string ⟨#[]⟩, .string ⟨#[]⟩, .int .i64 h, .int .i64 o, .int .i64 z, .string ⟨#[]⟩] 29)) (((w.alloc (.cells #[.int .i64 15, .string ⟨#[]⟩, .string ⟨#[]⟩, .int .i64 h, .int .i64 o, .int .i64 z, .string ⟨#[]⟩] 29)).alloc (.cells #[.string ⟨#[115, 121, 110, 99]⟩, .string ⟨#[99, 104, 101, 99, 107, 112, 111, 105, 110, 116]⟩, .string ⟨#[115, 112, 97, 99, 101]⟩, .string ⟨#[108, 111, 103]⟩] 9)).alloc (.cells #[.string ⟨#[99, 114, 101, 97, 116, 101]⟩, .string ⟨#[109, 107, 100, 105, 114]⟩, .string ⟨#[117, 110, 108, 105, 110, 107]⟩, .string ⟨#[114, 109, 100, 105, 114]⟩] 9)) := Chg.alloc (Chg.alloc (Chg.refl 0 0 _) _) _
  have hBx := (cB.block w.heap.size (by simp) (by omega)).trans (heap_new w (.cells #[.int .i64 15, .string ⟨#[]⟩, .string ⟨#[]⟩, .int .i64 h, .int .i64 o, .int .i64 z, .string ⟨#[]⟩] 29))
  have HT : Hid (say ⟨#[112, 114, 101, 97, 100]⟩ [h, o, z] = J [⟨#[112, 114, 101, 97, 100]⟩, (dec h), (dec o), (dec z)]) := say_3 _ _ _ _
  have hws : (⟨#[112, 114, 101, 97, 100]⟩ : ByteArray).size ≤ 4000 := by decide
  have hI : In64 [h, o, z] := by intro x hx; simp only [List.mem_cons, List.not_mem_nil, or_false] at hx; rcases hx with rfl | rfl | rfl <;> omega
  have hI2 : ∀ x ∈ [h, o, z], -9223372036854775807 ≤ x := by intro x hx; simp only [List.mem_cons, List.not_mem_nil, or_false] at hx; rcases hx with rfl | rfl | rfl <;> omega
  go_enter Tryz.func6, Tryz.ntmps6
  obtain ⟨res, HRes⟩ : ∃ r, Hid (r = say ⟨#[112, 114, 101, 97, 100]⟩ [h, o, z]) := ⟨_, rfl⟩
  go_upto_region 3 with fail
  generalize (((w.alloc (.cells #[.int .i64 15, .string ⟨#[]⟩, .string ⟨#[]⟩, .int .i64 h, .int .i64 o, .int .i64 z, .string ⟨#[]⟩] 29)).alloc (.cells #[.string ⟨#[115, 121, 110, 99]⟩, .string ⟨#[99, 104, 101, 99, 107, 112, 111, 105, 110, 116]⟩, .string ⟨#[115, 112, 97, 99, 101]⟩, .string ⟨#[108, 111, 103]⟩] 9)).alloc (.cells #[.string ⟨#[99, 114, 101, 97, 116, 101]⟩, .string ⟨#[109, 107, 100, 105, 114]⟩, .string ⟨#[117, 110, 108, 105, 110, 107]⟩, .string ⟨#[114, 109, 100, 105, 114]⟩] 9)) = W3 at *
  obtain ⟨⟨y0, y1, y2, y3, y4, y5, y6⟩, _⟩ := sevenC hBx
  have hS := lwSay_calls (W3.alloc (.cells #[.int .i64 h, .int .i64 o, .int .i64 z] 2)) ⟨#[112, 114, 101, 97, 100]⟩ [h, o, z] (by simp) hws hI hI2 (view_i3 W3 h o z)
  have HC : Hid (Chg 0 0 w (W3.alloc (.cells #[.int .i64 h, .int .i64 o, .int .i64 z] 2))) := cA.alloc _
  clear hI hI2 cA cB hBx
  go_wp2_with fail
  refine hS.mono ?_
  rintro e w5 ⟨rfl, c5⟩
  have HC5 : Hid (Chg 0 0 w w5) := HC.out.trans c5
  clear hS c5
  rw [← HRes.out]
  go_wp2
  go_ret
  exact ⟨by rw [← HT.out, ← HRes.out]; rfl, HC5.out⟩

set_option maxRecDepth 20000 in
set_option maxHeartbeats 4000000 in
theorem line_trunc (w : World) (p : ByteArray) (_hp : Fld p) (hps : p.size ≤ 3000) (z : Int) (hz : -1000000000 < z) (hzs : z < 1000000000) : Calls Tryz.prog 6 #[.agg #[.int .i64 7, .string p, .string ⟨#[]⟩, .int .i64 0, .int .i64 0, .int .i64 z, .string ⟨#[]⟩]] w fun e w' => e = .returned (.string (J [⟨#[116, 114, 117, 110, 99]⟩, p, (dec z)])) ∧ Chg 0 0 w w' := by
  have cA : Chg 0 0 w (((w.alloc (.cells #[.int .i64 7, .string p, .string ⟨#[]⟩, .int .i64 0, .int .i64 0, .int .i64 z, .string ⟨#[]⟩] 29)).alloc (.cells #[.string ⟨#[115, 121, 110, 99]⟩, .string ⟨#[99, 104, 101, 99, 107, 112, 111, 105, 110, 116]⟩, .string ⟨#[115, 112, 97, 99, 101]⟩, .string ⟨#[108, 111, 103]⟩] 9)).alloc (.cells #[.string ⟨#[99, 114, 101, 97, 116, 101]⟩, .string ⟨#[109, 107, 100, 105, 114]⟩, .string ⟨#[117, 110, 108, 105, 110, 107]⟩, .string ⟨#[114, 109, 100, 105, 114]⟩] 9)) := Chg.alloc (Chg.alloc (Chg.alloc (Chg.refl 0 0 w) _) _) _
  have cB : Chg 0 0 (w.alloc (.cells #[.int .i64 7, .string p, .string ⟨#[]⟩, .int .i64 0, .int .i64 0, .int .i64 z, .string ⟨#[]⟩] 29)) (((w.alloc (.cells #[.int .i64 7, .string p, .string ⟨#[]⟩, .int .i64 0, .int .i64 0, .int .i64 z, .string ⟨#[]⟩] 29)).alloc (.cells #[.string ⟨#[115, 121, 110, 99]⟩, .string ⟨#[99, 104, 101, 99, 107, 112, 111, 105, 110, 116]⟩, .string ⟨#[115, 112, 97, 99, 101]⟩, .string ⟨#[108, 111, 103]⟩] 9)).alloc (.cells #[.string ⟨#[99, 114, 101, 97, 116, 101]⟩, .string ⟨#[109, 107, 100, 105, 114]⟩, .string ⟨#[117, 110, 108, 105, 110, 107]⟩, .string ⟨#[114, 109, 100, 105, 114]⟩] 9)) := Chg.alloc (Chg.alloc (Chg.refl 0 0 _) _) _
  have hBx := (cB.block w.heap.size (by simp) (by omega)).trans (heap_new w (.cells #[.int .i64 7, .string p, .string ⟨#[]⟩, .int .i64 0, .int .i64 0, .int .i64 z, .string ⟨#[]⟩] 29))
  have e1 : (⟨#[116, 114, 117, 110, 99, 32]⟩ : ByteArray).size = 6 := rfl
  have z1 : (⟨#[116, 114, 117, 110, 99, 32]⟩ : ByteArray).size + p.size ≤ 10000 := by omega
  have HT : Hid (say (⟨#[116, 114, 117, 110, 99, 32]⟩ ++ p) [z] = J [⟨#[116, 114, 117, 110, 99]⟩, p, (dec z)]) := by
    show _ = _
    rw [J_word ⟨#[116, 114, 117, 110, 99]⟩ ⟨#[116, 114, 117, 110, 99, 32]⟩ (by rfl) p, say_1]
    simp only [J, app_assoc]
  have hws : (⟨#[116, 114, 117, 110, 99, 32]⟩ ++ p : ByteArray).size ≤ 4000 := by rw [ByteArray.size_append]; omega
  clear e1
  have hI : In64 [z] := by intro x hx; simp only [List.mem_cons, List.not_mem_nil, or_false] at hx; rcases hx with rfl <;> omega
  have hI2 : ∀ x ∈ [z], -9223372036854775807 ≤ x := by intro x hx; simp only [List.mem_cons, List.not_mem_nil, or_false] at hx; rcases hx with rfl <;> omega
  go_enter Tryz.func6, Tryz.ntmps6
  obtain ⟨res, HRes⟩ : ∃ r, Hid (r = say (⟨#[116, 114, 117, 110, 99, 32]⟩ ++ p) [z]) := ⟨_, rfl⟩
  go_upto_region 3 with fail
  generalize (((w.alloc (.cells #[.int .i64 7, .string p, .string ⟨#[]⟩, .int .i64 0, .int .i64 0, .int .i64 z, .string ⟨#[]⟩] 29)).alloc (.cells #[.string ⟨#[115, 121, 110, 99]⟩, .string ⟨#[99, 104, 101, 99, 107, 112, 111, 105, 110, 116]⟩, .string ⟨#[115, 112, 97, 99, 101]⟩, .string ⟨#[108, 111, 103]⟩] 9)).alloc (.cells #[.string ⟨#[99, 114, 101, 97, 116, 101]⟩, .string ⟨#[109, 107, 100, 105, 114]⟩, .string ⟨#[117, 110, 108, 105, 110, 107]⟩, .string ⟨#[114, 109, 100, 105, 114]⟩] 9)) = W3 at *
  obtain ⟨⟨y0, y1, y2, y3, y4, y5, y6⟩, _⟩ := sevenC hBx
  have hS := lwSay_calls (W3.alloc (.cells #[.int .i64 z] 2)) (⟨#[116, 114, 117, 110, 99, 32]⟩ ++ p) [z] (by simp) hws hI hI2 (view_i1 W3 z)
  have HC : Hid (Chg 0 0 w (W3.alloc (.cells #[.int .i64 z] 2))) := cA.alloc _
  clear hI hI2 cA cB hBx
  go_wp2_with fail
  refine hS.mono ?_
  rintro e w5 ⟨rfl, c5⟩
  have HC5 : Hid (Chg 0 0 w w5) := HC.out.trans c5
  clear hS c5
  rw [← HRes.out]
  go_wp2
  go_ret
  exact ⟨by rw [← HT.out, ← HRes.out]; rfl, HC5.out⟩

set_option maxRecDepth 20000 in
set_option maxHeartbeats 4000000 in
theorem line_read (w : World) (p : ByteArray) (_hp : Fld p) (hps : p.size ≤ 3000) (o : Int) (ho : -1000000000 < o) (hos : o < 1000000000) (z : Int) (hz : -1000000000 < z) (hzs : z < 1000000000) : Calls Tryz.prog 6 #[.agg #[.int .i64 17, .string p, .string ⟨#[]⟩, .int .i64 0, .int .i64 o, .int .i64 z, .string ⟨#[]⟩]] w fun e w' => e = .returned (.string (J [⟨#[114, 101, 97, 100]⟩, p, (dec o), (dec z)])) ∧ Chg 0 0 w w' := by
  have cA : Chg 0 0 w (((w.alloc (.cells #[.int .i64 17, .string p, .string ⟨#[]⟩, .int .i64 0, .int .i64 o, .int .i64 z, .string ⟨#[]⟩] 29)).alloc (.cells #[.string ⟨#[115, 121, 110, 99]⟩, .string ⟨#[99, 104, 101, 99, 107, 112, 111, 105, 110, 116]⟩, .string ⟨#[115, 112, 97, 99, 101]⟩, .string ⟨#[108, 111, 103]⟩] 9)).alloc (.cells #[.string ⟨#[99, 114, 101, 97, 116, 101]⟩, .string ⟨#[109, 107, 100, 105, 114]⟩, .string ⟨#[117, 110, 108, 105, 110, 107]⟩, .string ⟨#[114, 109, 100, 105, 114]⟩] 9)) := Chg.alloc (Chg.alloc (Chg.alloc (Chg.refl 0 0 w) _) _) _
  have cB : Chg 0 0 (w.alloc (.cells #[.int .i64 17, .string p, .string ⟨#[]⟩, .int .i64 0, .int .i64 o, .int .i64 z, .string ⟨#[]⟩] 29)) (((w.alloc (.cells #[.int .i64 17, .string p, .string ⟨#[]⟩, .int .i64 0, .int .i64 o, .int .i64 z, .string ⟨#[]⟩] 29)).alloc (.cells #[.string ⟨#[115, 121, 110, 99]⟩, .string ⟨#[99, 104, 101, 99, 107, 112, 111, 105, 110, 116]⟩, .string ⟨#[115, 112, 97, 99, 101]⟩, .string ⟨#[108, 111, 103]⟩] 9)).alloc (.cells #[.string ⟨#[99, 114, 101, 97, 116, 101]⟩, .string ⟨#[109, 107, 100, 105, 114]⟩, .string ⟨#[117, 110, 108, 105, 110, 107]⟩, .string ⟨#[114, 109, 100, 105, 114]⟩] 9)) := Chg.alloc (Chg.alloc (Chg.refl 0 0 _) _) _
  have hBx := (cB.block w.heap.size (by simp) (by omega)).trans (heap_new w (.cells #[.int .i64 17, .string p, .string ⟨#[]⟩, .int .i64 0, .int .i64 o, .int .i64 z, .string ⟨#[]⟩] 29))
  have e1 : (⟨#[114, 101, 97, 100, 32]⟩ : ByteArray).size = 5 := rfl
  have z1 : (⟨#[114, 101, 97, 100, 32]⟩ : ByteArray).size + p.size ≤ 10000 := by omega
  have HT : Hid (say (⟨#[114, 101, 97, 100, 32]⟩ ++ p) [o, z] = J [⟨#[114, 101, 97, 100]⟩, p, (dec o), (dec z)]) := by
    show _ = _
    rw [J_word ⟨#[114, 101, 97, 100]⟩ ⟨#[114, 101, 97, 100, 32]⟩ (by rfl) p, say_2]
    simp only [J, app_assoc]
  have hws : (⟨#[114, 101, 97, 100, 32]⟩ ++ p : ByteArray).size ≤ 4000 := by rw [ByteArray.size_append]; omega
  clear e1
  have hI : In64 [o, z] := by intro x hx; simp only [List.mem_cons, List.not_mem_nil, or_false] at hx; rcases hx with rfl | rfl <;> omega
  have hI2 : ∀ x ∈ [o, z], -9223372036854775807 ≤ x := by intro x hx; simp only [List.mem_cons, List.not_mem_nil, or_false] at hx; rcases hx with rfl | rfl <;> omega
  go_enter Tryz.func6, Tryz.ntmps6
  obtain ⟨res, HRes⟩ : ∃ r, Hid (r = say (⟨#[114, 101, 97, 100, 32]⟩ ++ p) [o, z]) := ⟨_, rfl⟩
  go_upto_region 3 with fail
  generalize (((w.alloc (.cells #[.int .i64 17, .string p, .string ⟨#[]⟩, .int .i64 0, .int .i64 o, .int .i64 z, .string ⟨#[]⟩] 29)).alloc (.cells #[.string ⟨#[115, 121, 110, 99]⟩, .string ⟨#[99, 104, 101, 99, 107, 112, 111, 105, 110, 116]⟩, .string ⟨#[115, 112, 97, 99, 101]⟩, .string ⟨#[108, 111, 103]⟩] 9)).alloc (.cells #[.string ⟨#[99, 114, 101, 97, 116, 101]⟩, .string ⟨#[109, 107, 100, 105, 114]⟩, .string ⟨#[117, 110, 108, 105, 110, 107]⟩, .string ⟨#[114, 109, 100, 105, 114]⟩] 9)) = W3 at *
  obtain ⟨⟨y0, y1, y2, y3, y4, y5, y6⟩, _⟩ := sevenC hBx
  have hS := lwSay_calls (W3.alloc (.cells #[.int .i64 o, .int .i64 z] 2)) (⟨#[114, 101, 97, 100, 32]⟩ ++ p) [o, z] (by simp) hws hI hI2 (view_i2 W3 o z)
  have HC : Hid (Chg 0 0 w (W3.alloc (.cells #[.int .i64 o, .int .i64 z] 2))) := cA.alloc _
  clear hI hI2 cA cB hBx
  go_wp2_with fail
  refine hS.mono ?_
  rintro e w5 ⟨rfl, c5⟩
  have HC5 : Hid (Chg 0 0 w w5) := HC.out.trans c5
  clear hS c5
  rw [← HRes.out]
  go_wp2
  go_ret
  exact ⟨by rw [← HT.out, ← HRes.out]; rfl, HC5.out⟩

end Go.Proofs.YtacfkgfemmgpkaaGreatDoor
