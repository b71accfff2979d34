/- Calls with the fields alone that their kinds use: lwUsed of the laws. (made by tools/mklwused.py) -/
import Derived.Test.YtacfkgfemmgpkaaGreatDoorLwUsedD
import Derived.BigRegion
namespace Go.Proofs.YtacfkgfemmgpkaaGreatDoor
open Go.RowKit

set_option maxRecDepth 20000 in
set_option maxHeartbeats 8000000 in
theorem used_sync (w : World) (p t : ByteArray) (h o z : Int) (d : ByteArray) (_hps : p.size ≤ 3000) (_hts : t.size ≤ 3000) (_hds : d.size ≤ 3000) : Calls Tryz.prog 5 #[.agg #[.int .i64 22, .string p, .string t, .int .i64 h, .int .i64 o, .int .i64 z, .string d]] w (UsedPost w) := by
  go_enter Tryz.func5, Tryz.ntmps5
  go_wp2
  exact bodyPost_ret (v := .tuple #[.agg #[.int .i64 22, .string ⟨#[]⟩, .string ⟨#[]⟩, .int .i64 0, .int .i64 0, .int .i64 0, .string ⟨#[]⟩], .bool true]) (by simp [results, Tryz.results5, go_sem, *]) rfl ⟨⟨0, 22, ⟨#[]⟩, ⟨#[]⟩, 0, 0, 0, ⟨#[]⟩, []⟩, true, rfl, fun _ => ⟨_, GoodC.sync'⟩, Chg.alloc (Chg.alloc (Chg.alloc (Chg.refl 0 0 w) _) _) _⟩

set_option maxRecDepth 20000 in
set_option maxHeartbeats 8000000 in
theorem used_checkpoint (w : World) (p t : ByteArray) (h o z : Int) (d : ByteArray) (_hps : p.size ≤ 3000) (_hts : t.size ≤ 3000) (_hds : d.size ≤ 3000) : Calls Tryz.prog 5 #[.agg #[.int .i64 23, .string p, .string t, .int .i64 h, .int .i64 o, .int .i64 z, .string d]] w (UsedPost w) := by
  go_enter Tryz.func5, Tryz.ntmps5
  go_wp2
  exact bodyPost_ret (v := .tuple #[.agg #[.int .i64 23, .string ⟨#[]⟩, .string ⟨#[]⟩, .int .i64 0, .int .i64 0, .int .i64 0, .string ⟨#[]⟩], .bool true]) (by simp [results, Tryz.results5, go_sem, *]) rfl ⟨⟨0, 23, ⟨#[]⟩, ⟨#[]⟩, 0, 0, 0, ⟨#[]⟩, []⟩, true, rfl, fun _ => ⟨_, GoodC.checkpoint'⟩, Chg.alloc (Chg.alloc (Chg.alloc (Chg.refl 0 0 w) _) _) _⟩

set_option maxRecDepth 20000 in
set_option maxHeartbeats 8000000 in
theorem used_space (w : World) (p t : ByteArray) (h o z : Int) (d : ByteArray) (_hps : p.size ≤ 3000) (_hts : t.size ≤ 3000) (_hds : d.size ≤ 3000) : Calls Tryz.prog 5 #[.agg #[.int .i64 24, .string p, .string t, .int .i64 h, .int .i64 o, .int .i64 z, .string d]] w (UsedPost w) := by
  go_enter Tryz.func5, Tryz.ntmps5
  go_wp2
  exact bodyPost_ret (v := .tuple #[.agg #[.int .i64 24, .string ⟨#[]⟩, .string ⟨#[]⟩, .int .i64 0, .int .i64 0, .int .i64 0, .string ⟨#[]⟩], .bool true]) (by simp [results, Tryz.results5, go_sem, *]) rfl ⟨⟨0, 24, ⟨#[]⟩, ⟨#[]⟩, 0, 0, 0, ⟨#[]⟩, []⟩, true, rfl, fun _ => ⟨_, GoodC.space'⟩, Chg.alloc (Chg.alloc (Chg.alloc (Chg.refl 0 0 w) _) _) _⟩

set_option maxRecDepth 20000 in
set_option maxHeartbeats 8000000 in
theorem used_log (w : World) (p t : ByteArray) (h o z : Int) (d : ByteArray) (_hps : p.size ≤ 3000) (_hts : t.size ≤ 3000) (_hds : d.size ≤ 3000) : Calls Tryz.prog 5 #[.agg #[.int .i64 25, .string p, .string t, .int .i64 h, .int .i64 o, .int .i64 z, .string d]] w (UsedPost w) := by
  go_enter Tryz.func5, Tryz.ntmps5
  go_wp2
  exact bodyPost_ret (v := .tuple #[.agg #[.int .i64 25, .string ⟨#[]⟩, .string ⟨#[]⟩, .int .i64 0, .int .i64 0, .int .i64 0, .string ⟨#[]⟩], .bool true]) (by simp [results, Tryz.results5, go_sem, *]) rfl ⟨⟨0, 25, ⟨#[]⟩, ⟨#[]⟩, 0, 0, 0, ⟨#[]⟩, []⟩, true, rfl, fun _ => ⟨_, GoodC.log'⟩, Chg.alloc (Chg.alloc (Chg.alloc (Chg.refl 0 0 w) _) _) _⟩

set_option maxRecDepth 20000 in
set_option maxHeartbeats 8000000 in
theorem used_create (w : World) (p t : ByteArray) (h o z : Int) (d : ByteArray) (hps : p.size ≤ 3000) (_hts : t.size ≤ 3000) (_hds : d.size ≤ 3000) : Calls Tryz.prog 5 #[.agg #[.int .i64 1, .string p, .string t, .int .i64 h, .int .i64 o, .int .i64 z, .string d]] w (UsedPost w) := by
  go_enter Tryz.func5, Tryz.ntmps5
  go_wp2_with fail
  refine (lwField_calls _ p (by omega)).mono ?_
  rintro e ww ⟨bp, rfl, hbp, hww⟩
  subst hww
  cases bp
  case false =>
    go_wp2
    go_region
    go_wp2
    exact bodyPost_ret (v := .tuple #[.agg #[.int .i64 1, .string p, .string ⟨#[]⟩, .int .i64 0, .int .i64 0, .int .i64 0, .string ⟨#[]⟩], .bool false]) (by simp [results, Tryz.results5, go_sem, *]) rfl ⟨⟨0, 1, p, ⟨#[]⟩, 0, 0, 0, ⟨#[]⟩, []⟩, false, rfl, fun e => by (cases e), Chg.drew (Chg.alloc (Chg.alloc (Chg.alloc (Chg.refl 0 0 w) _) _) _)⟩
  go_wp2
  go_region
  go_wp2
  exact bodyPost_ret (v := .tuple #[.agg #[.int .i64 1, .string p, .string ⟨#[]⟩, .int .i64 0, .int .i64 0, .int .i64 0, .string ⟨#[]⟩], .bool true]) (by simp [results, Tryz.results5, go_sem, *]) rfl ⟨⟨0, 1, p, ⟨#[]⟩, 0, 0, 0, ⟨#[]⟩, []⟩, true, rfl, fun _ => ⟨_, GoodC.create' p (hbp (by first | rfl | trivial)) hps⟩, Chg.drew (Chg.alloc (Chg.alloc (Chg.alloc (Chg.refl 0 0 w) _) _) _)⟩

set_option maxRecDepth 20000 in
set_option maxHeartbeats 8000000 in
theorem used_mkdir (w : World) (p t : ByteArray) (h o z : Int) (d : ByteArray) (hps : p.size ≤ 3000) (_hts : t.size ≤ 3000) (_hds : d.size ≤ 3000) : Calls Tryz.prog 5 #[.agg #[.int .i64 2, .string p, .string t, .int .i64 h, .int .i64 o, .int .i64 z, .string d]] w (UsedPost w) := by
  go_enter Tryz.func5, Tryz.ntmps5
  go_wp2_with fail
  refine (lwField_calls _ p (by omega)).mono ?_
  rintro e ww ⟨bp, rfl, hbp, hww⟩
  subst hww
  cases bp
  case false =>
    go_wp2
    go_region
    go_wp2
    exact bodyPost_ret (v := .tuple #[.agg #[.int .i64 2, .string p, .string ⟨#[]⟩, .int .i64 0, .int .i64 0, .int .i64 0, .string ⟨#[]⟩], .bool false]) (by simp [results, Tryz.results5, go_sem, *]) rfl ⟨⟨0, 2, p, ⟨#[]⟩, 0, 0, 0, ⟨#[]⟩, []⟩, false, rfl, fun e => by (cases e), Chg.drew (Chg.alloc (Chg.alloc (Chg.alloc (Chg.refl 0 0 w) _) _) _)⟩
  go_wp2
  go_region
  go_wp2
  exact bodyPost_ret (v := .tuple #[.agg #[.int .i64 2, .string p, .string ⟨#[]⟩, .int .i64 0, .int .i64 0, .int .i64 0, .string ⟨#[]⟩], .bool true]) (by simp [results, Tryz.results5, go_sem, *]) rfl ⟨⟨0, 2, p, ⟨#[]⟩, 0, 0, 0, ⟨#[]⟩, []⟩, true, rfl, fun _ => ⟨_, GoodC.mkdir' p (hbp (by first | rfl | trivial)) hps⟩, Chg.drew (Chg.alloc (Chg.alloc (Chg.alloc (Chg.refl 0 0 w) _) _) _)⟩

set_option maxRecDepth 20000 in
set_option maxHeartbeats 8000000 in
theorem used_unlink (w : World) (p t : ByteArray) (h o z : Int) (d : ByteArray) (hps : p.size ≤ 3000) (_hts : t.size ≤ 3000) (_hds : d.size ≤ 3000) : Calls Tryz.prog 5 #[.agg #[.int .i64 3, .string p, .string t, .int .i64 h, .int .i64 o, .int .i64 z, .string d]] w (UsedPost w) := by
  go_enter Tryz.func5, Tryz.ntmps5
  go_wp2_with fail
  refine (lwField_calls _ p (by omega)).mono ?_
  rintro e ww ⟨bp, rfl, hbp, hww⟩
  subst hww
  cases bp
  case false =>
    go_wp2
    go_region
    go_wp2
    exact bodyPost_ret (v := .tuple #[.agg #[.int .i64 3, .string p, .string ⟨#[]⟩, .int .i64 0, .int .i64 0, .int .i64 0, .string ⟨#[]⟩], .bool false]) (by simp [results, Tryz.results5, go_sem, *]) rfl ⟨⟨0, 3, p, ⟨#[]⟩, 0, 0, 0, ⟨#[]⟩, []⟩, false, rfl, fun e => by (cases e), Chg.drew (Chg.alloc (Chg.alloc (Chg.alloc (Chg.refl 0 0 w) _) _) _)⟩
  go_wp2
  go_region
  go_wp2
  exact bodyPost_ret (v := .tuple #[.agg #[.int .i64 3, .string p, .string ⟨#[]⟩, .int .i64 0, .int .i64 0, .int .i64 0, .string ⟨#[]⟩], .bool true]) (by simp [results, Tryz.results5, go_sem, *]) rfl ⟨⟨0, 3, p, ⟨#[]⟩, 0, 0, 0, ⟨#[]⟩, []⟩, true, rfl, fun _ => ⟨_, GoodC.unlink' p (hbp (by first | rfl | trivial)) hps⟩, Chg.drew (Chg.alloc (Chg.alloc (Chg.alloc (Chg.refl 0 0 w) _) _) _)⟩

set_option maxRecDepth 20000 in
set_option maxHeartbeats 8000000 in
theorem used_rmdir (w : World) (p t : ByteArray) (h o z : Int) (d : ByteArray) (hps : p.size ≤ 3000) (_hts : t.size ≤ 3000) (_hds : d.size ≤ 3000) : Calls Tryz.prog 5 #[.agg #[.int .i64 4, .string p, .string t, .int .i64 h, .int .i64 o, .int .i64 z, .string d]] w (UsedPost w) := by
  go_enter Tryz.func5, Tryz.ntmps5
  go_wp2_with fail
  refine (lwField_calls _ p (by omega)).mono ?_
  rintro e ww ⟨bp, rfl, hbp, hww⟩
  subst hww
  cases bp
  case false =>
    go_wp2
    go_region
    go_wp2
    exact bodyPost_ret (v := .tuple #[.agg #[.int .i64 4, .string p, .string ⟨#[]⟩, .int .i64 0, .int .i64 0, .int .i64 0, .string ⟨#[]⟩], .bool false]) (by simp [results, Tryz.results5, go_sem, *]) rfl ⟨⟨0, 4, p, ⟨#[]⟩, 0, 0, 0, ⟨#[]⟩, []⟩, false, rfl, fun e => by (cases e), Chg.drew (Chg.alloc (Chg.alloc (Chg.alloc (Chg.refl 0 0 w) _) _) _)⟩
  go_wp2
  go_region
  go_wp2
  exact bodyPost_ret (v := .tuple #[.agg #[.int .i64 4, .string p, .string ⟨#[]⟩, .int .i64 0, .int .i64 0, .int .i64 0, .string ⟨#[]⟩], .bool true]) (by simp [results, Tryz.results5, go_sem, *]) rfl ⟨⟨0, 4, p, ⟨#[]⟩, 0, 0, 0, ⟨#[]⟩, []⟩, true, rfl, fun _ => ⟨_, GoodC.rmdir' p (hbp (by first | rfl | trivial)) hps⟩, Chg.drew (Chg.alloc (Chg.alloc (Chg.alloc (Chg.refl 0 0 w) _) _) _)⟩

set_option maxRecDepth 20000 in
set_option maxHeartbeats 8000000 in
theorem used_open (w : World) (p t : ByteArray) (h o z : Int) (d : ByteArray) (hps : p.size ≤ 3000) (_hts : t.size ≤ 3000) (_hds : d.size ≤ 3000) : Calls Tryz.prog 5 #[.agg #[.int .i64 14, .string p, .string t, .int .i64 h, .int .i64 o, .int .i64 z, .string d]] w (UsedPost w) := by
  go_enter Tryz.func5, Tryz.ntmps5
  go_wp2_with fail
  refine (lwField_calls _ p (by omega)).mono ?_
  rintro e ww ⟨bp, rfl, hbp, hww⟩
  subst hww
  cases bp
  case false =>
    go_wp2
    go_region
    go_wp2
    exact bodyPost_ret (v := .tuple #[.agg #[.int .i64 14, .string p, .string ⟨#[]⟩, .int .i64 0, .int .i64 0, .int .i64 0, .string ⟨#[]⟩], .bool false]) (by simp [results, Tryz.results5, go_sem, *]) rfl ⟨⟨0, 14, p, ⟨#[]⟩, 0, 0, 0, ⟨#[]⟩, []⟩, false, rfl, fun e => by (cases e), Chg.drew (Chg.alloc (Chg.alloc (Chg.alloc (Chg.refl 0 0 w) _) _) _)⟩
  go_wp2
  go_region
  go_wp2
  exact bodyPost_ret (v := .tuple #[.agg #[.int .i64 14, .string p, .string ⟨#[]⟩, .int .i64 0, .int .i64 0, .int .i64 0, .string ⟨#[]⟩], .bool true]) (by simp [results, Tryz.results5, go_sem, *]) rfl ⟨⟨0, 14, p, ⟨#[]⟩, 0, 0, 0, ⟨#[]⟩, []⟩, true, rfl, fun _ => ⟨_, GoodC.open' p (hbp (by first | rfl | trivial)) hps⟩, Chg.drew (Chg.alloc (Chg.alloc (Chg.alloc (Chg.refl 0 0 w) _) _) _)⟩

set_option maxRecDepth 20000 in
set_option maxHeartbeats 8000000 in
theorem used_stat (w : World) (p t : ByteArray) (h o z : Int) (d : ByteArray) (hps : p.size ≤ 3000) (_hts : t.size ≤ 3000) (_hds : d.size ≤ 3000) : Calls Tryz.prog 5 #[.agg #[.int .i64 18, .string p, .string t, .int .i64 h, .int .i64 o, .int .i64 z, .string d]] w (UsedPost w) := by
  go_enter Tryz.func5, Tryz.ntmps5
  go_wp2_with fail
  refine (lwField_calls _ p (by omega)).mono ?_
  rintro e ww ⟨bp, rfl, hbp, hww⟩
  subst hww
  cases bp
  case false =>
    go_wp2
    go_region
    go_wp2
    exact bodyPost_ret (v := .tuple #[.agg #[.int .i64 18, .string p, .string ⟨#[]⟩, .int .i64 0, .int .i64 0, .int .i64 0, .string ⟨#[]⟩], .bool false]) (by simp [results, Tryz.results5, go_sem, *]) rfl ⟨⟨0, 18, p, ⟨#[]⟩, 0, 0, 0, ⟨#[]⟩, []⟩, false, rfl, fun e => by (cases e), Chg.drew (Chg.alloc (Chg.alloc (Chg.alloc (Chg.refl 0 0 w) _) _) _)⟩
  go_wp2
  go_region
  go_wp2
  exact bodyPost_ret (v := .tuple #[.agg #[.int .i64 18, .string p, .string ⟨#[]⟩, .int .i64 0, .int .i64 0, .int .i64 0, .string ⟨#[]⟩], .bool true]) (by simp [results, Tryz.results5, go_sem, *]) rfl ⟨⟨0, 18, p, ⟨#[]⟩, 0, 0, 0, ⟨#[]⟩, []⟩, true, rfl, fun _ => ⟨_, GoodC.stat' p (hbp (by first | rfl | trivial)) hps⟩, Chg.drew (Chg.alloc (Chg.alloc (Chg.alloc (Chg.refl 0 0 w) _) _) _)⟩

set_option maxRecDepth 20000 in
set_option maxHeartbeats 8000000 in
theorem used_low (w : World) (k : Int) (p t : ByteArray) (h o z : Int) (d : ByteArray) (hk : k < 1) : Calls Tryz.prog 5 #[.agg #[.int .i64 k, .string p, .string t, .int .i64 h, .int .i64 o, .int .i64 z, .string d]] w (UsedPost w) := by
  go_enter Tryz.func5, Tryz.ntmps5
  go_wp2
  exact bodyPost_ret (v := .tuple #[.agg #[.int .i64 k, .string ⟨#[]⟩, .string ⟨#[]⟩, .int .i64 0, .int .i64 0, .int .i64 0, .string ⟨#[]⟩], .bool false]) (by simp [results, Tryz.results5, go_sem, *]) rfl ⟨⟨0, k, ⟨#[]⟩, ⟨#[]⟩, 0, 0, 0, ⟨#[]⟩, []⟩, false, rfl, fun e => by (cases e), Chg.alloc (Chg.alloc (Chg.alloc (Chg.refl 0 0 w) _) _) _⟩

set_option maxRecDepth 20000 in
set_option maxHeartbeats 8000000 in
theorem used_high (w : World) (k : Int) (p t : ByteArray) (h o z : Int) (d : ByteArray) (hk : 25 < k) : Calls Tryz.prog 5 #[.agg #[.int .i64 k, .string p, .string t, .int .i64 h, .int .i64 o, .int .i64 z, .string d]] w (UsedPost w) := by
  have hk1 : ¬ k < 1 := by omega
  go_enter Tryz.func5, Tryz.ntmps5
  go_wp2
  exact bodyPost_ret (v := .tuple #[.agg #[.int .i64 k, .string ⟨#[]⟩, .string ⟨#[]⟩, .int .i64 0, .int .i64 0, .int .i64 0, .string ⟨#[]⟩], .bool false]) (by simp [results, Tryz.results5, go_sem, *]) rfl ⟨⟨0, k, ⟨#[]⟩, ⟨#[]⟩, 0, 0, 0, ⟨#[]⟩, []⟩, false, rfl, fun e => by (cases e), Chg.alloc (Chg.alloc (Chg.alloc (Chg.refl 0 0 w) _) _) _⟩

end Go.Proofs.YtacfkgfemmgpkaaGreatDoor
