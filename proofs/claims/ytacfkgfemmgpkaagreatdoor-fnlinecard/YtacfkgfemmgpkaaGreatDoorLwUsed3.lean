/- Several short texts in one: LwUsed2, LwUsed3. -/
import Derived.Test.YtacfkgfemmgpkaaGreatDoorLwUsedD
import Derived.BigRegion
namespace Go.Proofs.YtacfkgfemmgpkaaGreatDoor
open Go.RowKit

set_option maxRecDepth 20000 in
set_option maxHeartbeats 8000000 in
theorem used_lstat (w : World) (p t : ByteArray) (h o z : Int) (d : ByteArray) (hps : p.size ≤ 3000) (_hts : t.size ≤ 3000) (_hds : d.size ≤ 3000) : Calls Tryz.prog 5 #[.agg #[.int .i64 19, .string p, .string t, .int .i64 h, .int .i64 o, .int .i64 z, .string d]] w (UsedPost w) := by
  go_enter Tryz.func5, Tryz.ntmps5
  go_wp2_with fail
  refine (lwField_calls _ p (by omega)).mono ?_
  rintro e ww ⟨bp, rfl, hbp, hww⟩
  subst hww
  cases bp
  case false =>
    go_wp2
    go_region
    go_wp2
    exact bodyPost_ret (v := .tuple #[.agg #[.int .i64 19, .string p, .string ⟨#[]⟩, .int .i64 0, .int .i64 0, .int .i64 0, .string ⟨#[]⟩], .bool false]) (by simp [results, Tryz.results5, go_sem, *]) rfl ⟨⟨0, 19, p, ⟨#[]⟩, 0, 0, 0, ⟨#[]⟩, []⟩, false, rfl, fun e => by (cases e), Chg.drew (Chg.alloc (Chg.alloc (Chg.alloc (Chg.refl 0 0 w) _) _) _)⟩
  go_wp2
  go_region
  go_wp2
  exact bodyPost_ret (v := .tuple #[.agg #[.int .i64 19, .string p, .string ⟨#[]⟩, .int .i64 0, .int .i64 0, .int .i64 0, .string ⟨#[]⟩], .bool true]) (by simp [results, Tryz.results5, go_sem, *]) rfl ⟨⟨0, 19, p, ⟨#[]⟩, 0, 0, 0, ⟨#[]⟩, []⟩, true, rfl, fun _ => ⟨_, GoodC.lstat' p (hbp (by first | rfl | trivial)) hps⟩, Chg.drew (Chg.alloc (Chg.alloc (Chg.alloc (Chg.refl 0 0 w) _) _) _)⟩

set_option maxRecDepth 20000 in
set_option maxHeartbeats 8000000 in
theorem used_list (w : World) (p t : ByteArray) (h o z : Int) (d : ByteArray) (hps : p.size ≤ 3000) (_hts : t.size ≤ 3000) (_hds : d.size ≤ 3000) : Calls Tryz.prog 5 #[.agg #[.int .i64 20, .string p, .string t, .int .i64 h, .int .i64 o, .int .i64 z, .string d]] w (UsedPost w) := by
  go_enter Tryz.func5, Tryz.ntmps5
  go_wp2_with fail
  refine (lwField_calls _ p (by omega)).mono ?_
  rintro e ww ⟨bp, rfl, hbp, hww⟩
  subst hww
  cases bp
  case false =>
    go_wp2
    go_region
    go_wp2
    exact bodyPost_ret (v := .tuple #[.agg #[.int .i64 20, .string p, .string ⟨#[]⟩, .int .i64 0, .int .i64 0, .int .i64 0, .string ⟨#[]⟩], .bool false]) (by simp [results, Tryz.results5, go_sem, *]) rfl ⟨⟨0, 20, p, ⟨#[]⟩, 0, 0, 0, ⟨#[]⟩, []⟩, false, rfl, fun e => by (cases e), Chg.drew (Chg.alloc (Chg.alloc (Chg.alloc (Chg.refl 0 0 w) _) _) _)⟩
  go_wp2
  go_region
  go_wp2
  exact bodyPost_ret (v := .tuple #[.agg #[.int .i64 20, .string p, .string ⟨#[]⟩, .int .i64 0, .int .i64 0, .int .i64 0, .string ⟨#[]⟩], .bool true]) (by simp [results, Tryz.results5, go_sem, *]) rfl ⟨⟨0, 20, p, ⟨#[]⟩, 0, 0, 0, ⟨#[]⟩, []⟩, true, rfl, fun _ => ⟨_, GoodC.list' p (hbp (by first | rfl | trivial)) hps⟩, Chg.drew (Chg.alloc (Chg.alloc (Chg.alloc (Chg.refl 0 0 w) _) _) _)⟩

set_option maxRecDepth 20000 in
set_option maxHeartbeats 8000000 in
theorem used_readlink (w : World) (p t : ByteArray) (h o z : Int) (d : ByteArray) (hps : p.size ≤ 3000) (_hts : t.size ≤ 3000) (_hds : d.size ≤ 3000) : Calls Tryz.prog 5 #[.agg #[.int .i64 21, .string p, .string t, .int .i64 h, .int .i64 o, .int .i64 z, .string d]] w (UsedPost w) := by
  go_enter Tryz.func5, Tryz.ntmps5
  go_wp2_with fail
  refine (lwField_calls _ p (by omega)).mono ?_
  rintro e ww ⟨bp, rfl, hbp, hww⟩
  subst hww
  cases bp
  case false =>
    go_wp2
    go_region
    go_wp2
    exact bodyPost_ret (v := .tuple #[.agg #[.int .i64 21, .string p, .string ⟨#[]⟩, .int .i64 0, .int .i64 0, .int .i64 0, .string ⟨#[]⟩], .bool false]) (by simp [results, Tryz.results5, go_sem, *]) rfl ⟨⟨0, 21, p, ⟨#[]⟩, 0, 0, 0, ⟨#[]⟩, []⟩, false, rfl, fun e => by (cases e), Chg.drew (Chg.alloc (Chg.alloc (Chg.alloc (Chg.refl 0 0 w) _) _) _)⟩
  go_wp2
  go_region
  go_wp2
  exact bodyPost_ret (v := .tuple #[.agg #[.int .i64 21, .string p, .string ⟨#[]⟩, .int .i64 0, .int .i64 0, .int .i64 0, .string ⟨#[]⟩], .bool true]) (by simp [results, Tryz.results5, go_sem, *]) rfl ⟨⟨0, 21, p, ⟨#[]⟩, 0, 0, 0, ⟨#[]⟩, []⟩, true, rfl, fun _ => ⟨_, GoodC.readlink' p (hbp (by first | rfl | trivial)) hps⟩, Chg.drew (Chg.alloc (Chg.alloc (Chg.alloc (Chg.refl 0 0 w) _) _) _)⟩

set_option maxRecDepth 20000 in
set_option maxHeartbeats 8000000 in
theorem used_rename (w : World) (p t : ByteArray) (h o z : Int) (d : ByteArray) (hps : p.size ≤ 3000) (hts : t.size ≤ 3000) (_hds : d.size ≤ 3000) : Calls Tryz.prog 5 #[.agg #[.int .i64 5, .string p, .string t, .int .i64 h, .int .i64 o, .int .i64 z, .string d]] w (UsedPost w) := by
  go_enter Tryz.func5, Tryz.ntmps5
  go_wp2_with fail
  refine (lwField_calls _ p (by omega)).mono ?_
  rintro e ww ⟨bp, rfl, hbp, hww⟩
  subst hww
  cases bp
  case false =>
    go_wp2
    go_region
    go_wp2
    exact bodyPost_ret (v := .tuple #[.agg #[.int .i64 5, .string p, .string t, .int .i64 0, .int .i64 0, .int .i64 0, .string ⟨#[]⟩], .bool false]) (by simp [results, Tryz.results5, go_sem, *]) rfl ⟨⟨0, 5, p, t, 0, 0, 0, ⟨#[]⟩, []⟩, false, rfl, fun e => by (cases e), Chg.drew (Chg.alloc (Chg.alloc (Chg.alloc (Chg.refl 0 0 w) _) _) _)⟩
  go_wp2_with fail
  refine (lwField_calls _ t (by omega)).mono ?_
  rintro e ww ⟨bt, rfl, hbt, hww⟩
  subst hww
  cases bt
  case false =>
    go_wp2
    go_region
    go_wp2
    exact bodyPost_ret (v := .tuple #[.agg #[.int .i64 5, .string p, .string t, .int .i64 0, .int .i64 0, .int .i64 0, .string ⟨#[]⟩], .bool false]) (by simp [results, Tryz.results5, go_sem, *]) rfl ⟨⟨0, 5, p, t, 0, 0, 0, ⟨#[]⟩, []⟩, false, rfl, fun e => by (cases e), Chg.drew (Chg.alloc (Chg.alloc (Chg.alloc (Chg.refl 0 0 w) _) _) _)⟩
  go_wp2
  go_region
  go_wp2
  exact bodyPost_ret (v := .tuple #[.agg #[.int .i64 5, .string p, .string t, .int .i64 0, .int .i64 0, .int .i64 0, .string ⟨#[]⟩], .bool true]) (by simp [results, Tryz.results5, go_sem, *]) rfl ⟨⟨0, 5, p, t, 0, 0, 0, ⟨#[]⟩, []⟩, true, rfl, fun _ => ⟨_, GoodC.rename' p (hbp (by first | rfl | trivial)) hps t (hbt (by first | rfl | trivial)) hts⟩, Chg.drew (Chg.alloc (Chg.alloc (Chg.alloc (Chg.refl 0 0 w) _) _) _)⟩

set_option maxRecDepth 20000 in
set_option maxHeartbeats 8000000 in
theorem used_link (w : World) (p t : ByteArray) (h o z : Int) (d : ByteArray) (hps : p.size ≤ 3000) (hts : t.size ≤ 3000) (_hds : d.size ≤ 3000) : Calls Tryz.prog 5 #[.agg #[.int .i64 9, .string p, .string t, .int .i64 h, .int .i64 o, .int .i64 z, .string d]] w (UsedPost w) := by
  go_enter Tryz.func5, Tryz.ntmps5
  go_wp2_with fail
  refine (lwField_calls _ p (by omega)).mono ?_
  rintro e ww ⟨bp, rfl, hbp, hww⟩
  subst hww
  cases bp
  case false =>
    go_wp2
    go_region
    go_wp2
    exact bodyPost_ret (v := .tuple #[.agg #[.int .i64 9, .string p, .string t, .int .i64 0, .int .i64 0, .int .i64 0, .string ⟨#[]⟩], .bool false]) (by simp [results, Tryz.results5, go_sem, *]) rfl ⟨⟨0, 9, p, t, 0, 0, 0, ⟨#[]⟩, []⟩, false, rfl, fun e => by (cases e), Chg.drew (Chg.alloc (Chg.alloc (Chg.alloc (Chg.refl 0 0 w) _) _) _)⟩
  go_wp2_with fail
  refine (lwField_calls _ t (by omega)).mono ?_
  rintro e ww ⟨bt, rfl, hbt, hww⟩
  subst hww
  cases bt
  case false =>
    go_wp2
    go_region
    go_wp2
    exact bodyPost_ret (v := .tuple #[.agg #[.int .i64 9, .string p, .string t, .int .i64 0, .int .i64 0, .int .i64 0, .string ⟨#[]⟩], .bool false]) (by simp [results, Tryz.results5, go_sem, *]) rfl ⟨⟨0, 9, p, t, 0, 0, 0, ⟨#[]⟩, []⟩, false, rfl, fun e => by (cases e), Chg.drew (Chg.alloc (Chg.alloc (Chg.alloc (Chg.refl 0 0 w) _) _) _)⟩
  go_wp2
  go_region
  go_wp2
  exact bodyPost_ret (v := .tuple #[.agg #[.int .i64 9, .string p, .string t, .int .i64 0, .int .i64 0, .int .i64 0, .string ⟨#[]⟩], .bool true]) (by simp [results, Tryz.results5, go_sem, *]) rfl ⟨⟨0, 9, p, t, 0, 0, 0, ⟨#[]⟩, []⟩, true, rfl, fun _ => ⟨_, GoodC.link' p (hbp (by first | rfl | trivial)) hps t (hbt (by first | rfl | trivial)) hts⟩, Chg.drew (Chg.alloc (Chg.alloc (Chg.alloc (Chg.refl 0 0 w) _) _) _)⟩

set_option maxRecDepth 20000 in
set_option maxHeartbeats 8000000 in
theorem used_symlink (w : World) (p t : ByteArray) (h o z : Int) (d : ByteArray) (hps : p.size ≤ 3000) (hts : t.size ≤ 3000) (_hds : d.size ≤ 3000) : Calls Tryz.prog 5 #[.agg #[.int .i64 10, .string p, .string t, .int .i64 h, .int .i64 o, .int .i64 z, .string d]] w (UsedPost w) := by
  go_enter Tryz.func5, Tryz.ntmps5
  go_wp2_with fail
  refine (lwField_calls _ p (by omega)).mono ?_
  rintro e ww ⟨bp, rfl, hbp, hww⟩
  subst hww
  cases bp
  case false =>
    go_wp2
    go_region
    go_wp2
    exact bodyPost_ret (v := .tuple #[.agg #[.int .i64 10, .string p, .string t, .int .i64 0, .int .i64 0, .int .i64 0, .string ⟨#[]⟩], .bool false]) (by simp [results, Tryz.results5, go_sem, *]) rfl ⟨⟨0, 10, p, t, 0, 0, 0, ⟨#[]⟩, []⟩, false, rfl, fun e => by (cases e), Chg.drew (Chg.alloc (Chg.alloc (Chg.alloc (Chg.refl 0 0 w) _) _) _)⟩
  go_wp2_with fail
  refine (lwField_calls _ t (by omega)).mono ?_
  rintro e ww ⟨bt, rfl, hbt, hww⟩
  subst hww
  cases bt
  case false =>
    go_wp2
    go_region
    go_wp2
    exact bodyPost_ret (v := .tuple #[.agg #[.int .i64 10, .string p, .string t, .int .i64 0, .int .i64 0, .int .i64 0, .string ⟨#[]⟩], .bool false]) (by simp [results, Tryz.results5, go_sem, *]) rfl ⟨⟨0, 10, p, t, 0, 0, 0, ⟨#[]⟩, []⟩, false, rfl, fun e => by (cases e), Chg.drew (Chg.alloc (Chg.alloc (Chg.alloc (Chg.refl 0 0 w) _) _) _)⟩
  go_wp2
  go_region
  go_wp2
  exact bodyPost_ret (v := .tuple #[.agg #[.int .i64 10, .string p, .string t, .int .i64 0, .int .i64 0, .int .i64 0, .string ⟨#[]⟩], .bool true]) (by simp [results, Tryz.results5, go_sem, *]) rfl ⟨⟨0, 10, p, t, 0, 0, 0, ⟨#[]⟩, []⟩, true, rfl, fun _ => ⟨_, GoodC.symlink' p (hbp (by first | rfl | trivial)) hps t (hbt (by first | rfl | trivial)) hts⟩, Chg.drew (Chg.alloc (Chg.alloc (Chg.alloc (Chg.refl 0 0 w) _) _) _)⟩

set_option maxRecDepth 20000 in
set_option maxHeartbeats 8000000 in
theorem used_append (w : World) (p t : ByteArray) (h o z : Int) (d : ByteArray) (hps : p.size ≤ 3000) (_hts : t.size ≤ 3000) (hds : d.size ≤ 3000) : Calls Tryz.prog 5 #[.agg #[.int .i64 8, .string p, .string t, .int .i64 h, .int .i64 o, .int .i64 z, .string d]] w (UsedPost w) := by
  go_enter Tryz.func5, Tryz.ntmps5
  go_wp2_with fail
  refine (lwField_calls _ p (by omega)).mono ?_
  rintro e ww ⟨bp, rfl, hbp, hww⟩
  subst hww
  cases bp
  case false =>
    go_wp2
    go_region
    go_wp2
    exact bodyPost_ret (v := .tuple #[.agg #[.int .i64 8, .string p, .string ⟨#[]⟩, .int .i64 0, .int .i64 0, .int .i64 0, .string d], .bool false]) (by simp [results, Tryz.results5, go_sem, *]) rfl ⟨⟨0, 8, p, ⟨#[]⟩, 0, 0, 0, d, []⟩, false, rfl, fun e => by (cases e), Chg.drew (Chg.alloc (Chg.alloc (Chg.alloc (Chg.refl 0 0 w) _) _) _)⟩
  go_wp2
  go_region
  go_wp2
  exact bodyPost_ret (v := .tuple #[.agg #[.int .i64 8, .string p, .string ⟨#[]⟩, .int .i64 0, .int .i64 0, .int .i64 0, .string d], .bool true]) (by simp [results, Tryz.results5, go_sem, *]) rfl ⟨⟨0, 8, p, ⟨#[]⟩, 0, 0, 0, d, []⟩, true, rfl, fun _ => ⟨_, GoodC.append' p (hbp (by first | rfl | trivial)) hps d hds⟩, Chg.drew (Chg.alloc (Chg.alloc (Chg.alloc (Chg.refl 0 0 w) _) _) _)⟩

end Go.Proofs.YtacfkgfemmgpkaaGreatDoor

namespace Go.Proofs.YtacfkgfemmgpkaaGreatDoor
open Go.RowKit

set_option maxRecDepth 20000 in
set_option maxHeartbeats 8000000 in
theorem used_write (w : World) (p t : ByteArray) (h o z : Int) (d : ByteArray) (hps : p.size ≤ 3000) (_hts : t.size ≤ 3000) (hds : d.size ≤ 3000) : Calls Tryz.prog 5 #[.agg #[.int .i64 6, .string p, .string t, .int .i64 h, .int .i64 o, .int .i64 z, .string d]] w (UsedPost w) := by
  go_enter Tryz.func5, Tryz.ntmps5
  go_wp2_with fail
  refine (lwField_calls _ p (by omega)).mono ?_
  rintro e ww ⟨bp, rfl, hbp, hww⟩
  subst hww
  cases bp
  case false =>
    go_wp2
    go_region
    go_wp2
    exact bodyPost_ret (v := .tuple #[.agg #[.int .i64 6, .string p, .string ⟨#[]⟩, .int .i64 0, .int .i64 o, .int .i64 0, .string d], .bool false]) (by simp [results, Tryz.results5, go_sem, *]) rfl ⟨⟨0, 6, p, ⟨#[]⟩, 0, o, 0, d, []⟩, false, rfl, fun e => by (cases e), Chg.drew (Chg.alloc (Chg.alloc (Chg.alloc (Chg.refl 0 0 w) _) _) _)⟩
  by_cases o1 : -1000000000 < o
  case neg =>
    have of : decide (-1000000000 < o) = false := decide_eq_false o1
    go_wp2
    go_region
    go_wp2
    exact bodyPost_ret (v := .tuple #[.agg #[.int .i64 6, .string p, .string ⟨#[]⟩, .int .i64 0, .int .i64 o, .int .i64 0, .string d], .bool false]) (by simp [results, Tryz.results5, go_sem, *]) rfl ⟨⟨0, 6, p, ⟨#[]⟩, 0, o, 0, d, []⟩, false, rfl, fun e => by (cases e), Chg.drew (Chg.alloc (Chg.alloc (Chg.alloc (Chg.refl 0 0 w) _) _) _)⟩
  by_cases o2 : o < 1000000000
  case neg =>
    have of : decide (o < 1000000000) = false := decide_eq_false o2
    go_wp2
    go_region
    go_wp2
    exact bodyPost_ret (v := .tuple #[.agg #[.int .i64 6, .string p, .string ⟨#[]⟩, .int .i64 0, .int .i64 o, .int .i64 0, .string d], .bool false]) (by simp [results, Tryz.results5, go_sem, *]) rfl ⟨⟨0, 6, p, ⟨#[]⟩, 0, o, 0, d, []⟩, false, rfl, fun e => by (cases e), Chg.drew (Chg.alloc (Chg.alloc (Chg.alloc (Chg.refl 0 0 w) _) _) _)⟩
  go_wp2
  go_region
  go_wp2
  exact bodyPost_ret (v := .tuple #[.agg #[.int .i64 6, .string p, .string ⟨#[]⟩, .int .i64 0, .int .i64 o, .int .i64 0, .string d], .bool true]) (by simp [results, Tryz.results5, go_sem, *]) rfl ⟨⟨0, 6, p, ⟨#[]⟩, 0, o, 0, d, []⟩, true, rfl, fun _ => ⟨_, GoodC.write' p (hbp (by first | rfl | trivial)) hps o o1 o2 d hds⟩, Chg.drew (Chg.alloc (Chg.alloc (Chg.alloc (Chg.refl 0 0 w) _) _) _)⟩

set_option maxRecDepth 20000 in
set_option maxHeartbeats 8000000 in
theorem used_trunc (w : World) (p t : ByteArray) (h o z : Int) (d : ByteArray) (hps : p.size ≤ 3000) (_hts : t.size ≤ 3000) (_hds : d.size ≤ 3000) : Calls Tryz.prog 5 #[.agg #[.int .i64 7, .string p, .string t, .int .i64 h, .int .i64 o, .int .i64 z, .string d]] w (UsedPost w) := by
  go_enter Tryz.func5, Tryz.ntmps5
  go_wp2_with fail
  refine (lwField_calls _ p (by omega)).mono ?_
  rintro e ww ⟨bp, rfl, hbp, hww⟩
  subst hww
  cases bp
  case false =>
    go_wp2
    go_region
    go_wp2
    exact bodyPost_ret (v := .tuple #[.agg #[.int .i64 7, .string p, .string ⟨#[]⟩, .int .i64 0, .int .i64 0, .int .i64 z, .string ⟨#[]⟩], .bool false]) (by simp [results, Tryz.results5, go_sem, *]) rfl ⟨⟨0, 7, p, ⟨#[]⟩, 0, 0, z, ⟨#[]⟩, []⟩, false, rfl, fun e => by (cases e), Chg.drew (Chg.alloc (Chg.alloc (Chg.alloc (Chg.refl 0 0 w) _) _) _)⟩
  by_cases z1 : -1000000000 < z
  case neg =>
    have zf : decide (-1000000000 < z) = false := decide_eq_false z1
    go_wp2
    go_region
    go_wp2
    exact bodyPost_ret (v := .tuple #[.agg #[.int .i64 7, .string p, .string ⟨#[]⟩, .int .i64 0, .int .i64 0, .int .i64 z, .string ⟨#[]⟩], .bool false]) (by simp [results, Tryz.results5, go_sem, *]) rfl ⟨⟨0, 7, p, ⟨#[]⟩, 0, 0, z, ⟨#[]⟩, []⟩, false, rfl, fun e => by (cases e), Chg.drew (Chg.alloc (Chg.alloc (Chg.alloc (Chg.refl 0 0 w) _) _) _)⟩
  by_cases z2 : z < 1000000000
  case neg =>
    have zf : decide (z < 1000000000) = false := decide_eq_false z2
    go_wp2
    go_region
    go_wp2
    exact bodyPost_ret (v := .tuple #[.agg #[.int .i64 7, .string p, .string ⟨#[]⟩, .int .i64 0, .int .i64 0, .int .i64 z, .string ⟨#[]⟩], .bool false]) (by simp [results, Tryz.results5, go_sem, *]) rfl ⟨⟨0, 7, p, ⟨#[]⟩, 0, 0, z, ⟨#[]⟩, []⟩, false, rfl, fun e => by (cases e), Chg.drew (Chg.alloc (Chg.alloc (Chg.alloc (Chg.refl 0 0 w) _) _) _)⟩
  go_wp2
  go_region
  go_wp2
  exact bodyPost_ret (v := .tuple #[.agg #[.int .i64 7, .string p, .string ⟨#[]⟩, .int .i64 0, .int .i64 0, .int .i64 z, .string ⟨#[]⟩], .bool true]) (by simp [results, Tryz.results5, go_sem, *]) rfl ⟨⟨0, 7, p, ⟨#[]⟩, 0, 0, z, ⟨#[]⟩, []⟩, true, rfl, fun _ => ⟨_, GoodC.trunc' p (hbp (by first | rfl | trivial)) hps z z1 z2⟩, Chg.drew (Chg.alloc (Chg.alloc (Chg.alloc (Chg.refl 0 0 w) _) _) _)⟩

set_option maxRecDepth 20000 in
set_option maxHeartbeats 8000000 in
theorem used_read (w : World) (p t : ByteArray) (h o z : Int) (d : ByteArray) (hps : p.size ≤ 3000) (_hts : t.size ≤ 3000) (_hds : d.size ≤ 3000) : Calls Tryz.prog 5 #[.agg #[.int .i64 17, .string p, .string t, .int .i64 h, .int .i64 o, .int .i64 z, .string d]] w (UsedPost w) := by
  go_enter Tryz.func5, Tryz.ntmps5
  go_wp2_with fail
  refine (lwField_calls _ p (by omega)).mono ?_
  rintro e ww ⟨bp, rfl, hbp, hww⟩
  subst hww
  cases bp
  case false =>
    go_wp2
    go_region
    go_wp2
    exact bodyPost_ret (v := .tuple #[.agg #[.int .i64 17, .string p, .string ⟨#[]⟩, .int .i64 0, .int .i64 o, .int .i64 z, .string ⟨#[]⟩], .bool false]) (by simp [results, Tryz.results5, go_sem, *]) rfl ⟨⟨0, 17, p, ⟨#[]⟩, 0, o, z, ⟨#[]⟩, []⟩, false, rfl, fun e => by (cases e), Chg.drew (Chg.alloc (Chg.alloc (Chg.alloc (Chg.refl 0 0 w) _) _) _)⟩
  by_cases o1 : -1000000000 < o
  case neg =>
    have of : decide (-1000000000 < o) = false := decide_eq_false o1
    go_wp2
    go_region
    go_wp2
    exact bodyPost_ret (v := .tuple #[.agg #[.int .i64 17, .string p, .string ⟨#[]⟩, .int .i64 0, .int .i64 o, .int .i64 z, .string ⟨#[]⟩], .bool false]) (by simp [results, Tryz.results5, go_sem, *]) rfl ⟨⟨0, 17, p, ⟨#[]⟩, 0, o, z, ⟨#[]⟩, []⟩, false, rfl, fun e => by (cases e), Chg.drew (Chg.alloc (Chg.alloc (Chg.alloc (Chg.refl 0 0 w) _) _) _)⟩
  by_cases o2 : o < 1000000000
  case neg =>
    have of : decide (o < 1000000000) = false := decide_eq_false o2
    go_wp2
    go_region
    go_wp2
    exact bodyPost_ret (v := .tuple #[.agg #[.int .i64 17, .string p, .string ⟨#[]⟩, .int .i64 0, .int .i64 o, .int .i64 z, .string ⟨#[]⟩], .bool false]) (by simp [results, Tryz.results5, go_sem, *]) rfl ⟨⟨0, 17, p, ⟨#[]⟩, 0, o, z, ⟨#[]⟩, []⟩, false, rfl, fun e => by (cases e), Chg.drew (Chg.alloc (Chg.alloc (Chg.alloc (Chg.refl 0 0 w) _) _) _)⟩
  by_cases z1 : -1000000000 < z
  case neg =>
    have zf : decide (-1000000000 < z) = false := decide_eq_false z1
    go_wp2
    go_region
    go_wp2
    exact bodyPost_ret (v := .tuple #[.agg #[.int .i64 17, .string p, .string ⟨#[]⟩, .int .i64 0, .int .i64 o, .int .i64 z, .string ⟨#[]⟩], .bool false]) (by simp [results, Tryz.results5, go_sem, *]) rfl ⟨⟨0, 17, p, ⟨#[]⟩, 0, o, z, ⟨#[]⟩, []⟩, false, rfl, fun e => by (cases e), Chg.drew (Chg.alloc (Chg.alloc (Chg.alloc (Chg.refl 0 0 w) _) _) _)⟩
  by_cases z2 : z < 1000000000
  case neg =>
    have zf : decide (z < 1000000000) = false := decide_eq_false z2
    go_wp2
    go_region
    go_wp2
    exact bodyPost_ret (v := .tuple #[.agg #[.int .i64 17, .string p, .string ⟨#[]⟩, .int .i64 0, .int .i64 o, .int .i64 z, .string ⟨#[]⟩], .bool false]) (by simp [results, Tryz.results5, go_sem, *]) rfl ⟨⟨0, 17, p, ⟨#[]⟩, 0, o, z, ⟨#[]⟩, []⟩, false, rfl, fun e => by (cases e), Chg.drew (Chg.alloc (Chg.alloc (Chg.alloc (Chg.refl 0 0 w) _) _) _)⟩
  go_wp2
  go_region
  go_wp2
  exact bodyPost_ret (v := .tuple #[.agg #[.int .i64 17, .string p, .string ⟨#[]⟩, .int .i64 0, .int .i64 o, .int .i64 z, .string ⟨#[]⟩], .bool true]) (by simp [results, Tryz.results5, go_sem, *]) rfl ⟨⟨0, 17, p, ⟨#[]⟩, 0, o, z, ⟨#[]⟩, []⟩, true, rfl, fun _ => ⟨_, GoodC.read' p (hbp (by first | rfl | trivial)) hps o o1 o2 z z1 z2⟩, Chg.drew (Chg.alloc (Chg.alloc (Chg.alloc (Chg.refl 0 0 w) _) _) _)⟩

set_option maxRecDepth 20000 in
set_option maxHeartbeats 8000000 in
theorem used_close (w : World) (p t : ByteArray) (h o z : Int) (d : ByteArray) (hps : p.size ≤ 3000) (_hts : t.size ≤ 3000) (_hds : d.size ≤ 3000) : Calls Tryz.prog 5 #[.agg #[.int .i64 13, .string p, .string t, .int .i64 h, .int .i64 o, .int .i64 z, .string d]] w (UsedPost w) := by
  go_enter Tryz.func5, Tryz.ntmps5
  go_wp2_with fail
  refine (lwField_calls _ p (by omega)).mono ?_
  rintro e ww ⟨bp, rfl, hbp, hww⟩
  subst hww
  by_cases h1 : -1000000000 < h
  case neg =>
    have hf : decide (-1000000000 < h) = false := decide_eq_false h1
    go_wp2
    go_region
    go_wp2
    exact bodyPost_ret (v := .tuple #[.agg #[.int .i64 13, .string ⟨#[]⟩, .string ⟨#[]⟩, .int .i64 h, .int .i64 0, .int .i64 0, .string ⟨#[]⟩], .bool false]) (by simp [results, Tryz.results5, go_sem, *]) rfl ⟨⟨0, 13, ⟨#[]⟩, ⟨#[]⟩, h, 0, 0, ⟨#[]⟩, []⟩, false, rfl, fun e => by (cases e), Chg.drew (Chg.alloc (Chg.alloc (Chg.alloc (Chg.refl 0 0 w) _) _) _)⟩
  by_cases h2 : h < 1000000000
  case neg =>
    have hf : decide (h < 1000000000) = false := decide_eq_false h2
    go_wp2
    go_region
    go_wp2
    exact bodyPost_ret (v := .tuple #[.agg #[.int .i64 13, .string ⟨#[]⟩, .string ⟨#[]⟩, .int .i64 h, .int .i64 0, .int .i64 0, .string ⟨#[]⟩], .bool false]) (by simp [results, Tryz.results5, go_sem, *]) rfl ⟨⟨0, 13, ⟨#[]⟩, ⟨#[]⟩, h, 0, 0, ⟨#[]⟩, []⟩, false, rfl, fun e => by (cases e), Chg.drew (Chg.alloc (Chg.alloc (Chg.alloc (Chg.refl 0 0 w) _) _) _)⟩
  go_wp2
  go_region
  go_wp2
  exact bodyPost_ret (v := .tuple #[.agg #[.int .i64 13, .string ⟨#[]⟩, .string ⟨#[]⟩, .int .i64 h, .int .i64 0, .int .i64 0, .string ⟨#[]⟩], .bool true]) (by simp [results, Tryz.results5, go_sem, *]) rfl ⟨⟨0, 13, ⟨#[]⟩, ⟨#[]⟩, h, 0, 0, ⟨#[]⟩, []⟩, true, rfl, fun _ => ⟨_, GoodC.close' h h1 h2⟩, Chg.drew (Chg.alloc (Chg.alloc (Chg.alloc (Chg.refl 0 0 w) _) _) _)⟩

end Go.Proofs.YtacfkgfemmgpkaaGreatDoor
