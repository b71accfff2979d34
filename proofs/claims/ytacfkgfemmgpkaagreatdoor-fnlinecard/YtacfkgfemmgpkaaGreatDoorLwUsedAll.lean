/- Several short texts in one: LwUsed4, LwUsedAll. -/
import Derived.Test.YtacfkgfemmgpkaaGreatDoorLwUsedD
import Derived.BigRegion
import Derived.Test.YtacfkgfemmgpkaaGreatDoorLwUsed
import Derived.Test.YtacfkgfemmgpkaaGreatDoorLwUsed3
namespace Go.Proofs.YtacfkgfemmgpkaaGreatDoor
open Go.RowKit

set_option maxRecDepth 20000 in
set_option maxHeartbeats 8000000 in
theorem used_fstat (w : World) (p t : ByteArray) (h o z : Int) (d : ByteArray) (hps : p.size ≤ 3000) (_hts : t.size ≤ 3000) (_hds : d.size ≤ 3000) : Calls Tryz.prog 5 #[.agg #[.int .i64 16, .string p, .string t, .int .i64 h, .int .i64 o, .int .i64 z, .string d]] w (UsedPost w) := by
  go_enter Tryz.func5, Tryz.ntmps5
  go_wp2_with fail
  refine (lwField_calls _ p (by omega)).mono ?_
  rintro e ww ⟨bp, rfl, hbp, hww⟩
  subst hww
  by_cases h1 : -1000000000 < h
  case neg =>
    have hf : decide (-1000000000 < h) = false := decide_eq_false h1
    go_wp2
    go_region
    go_wp2
    exact bodyPost_ret (v := .tuple #[.agg #[.int .i64 16, .string ⟨#[]⟩, .string ⟨#[]⟩, .int .i64 h, .int .i64 0, .int .i64 0, .string ⟨#[]⟩], .bool false]) (by simp [results, Tryz.results5, go_sem, *]) rfl ⟨⟨0, 16, ⟨#[]⟩, ⟨#[]⟩, h, 0, 0, ⟨#[]⟩, []⟩, false, rfl, fun e => by (cases e), Chg.drew (Chg.alloc (Chg.alloc (Chg.alloc (Chg.refl 0 0 w) _) _) _)⟩
  by_cases h2 : h < 1000000000
  case neg =>
    have hf : decide (h < 1000000000) = false := decide_eq_false h2
    go_wp2
    go_region
    go_wp2
    exact bodyPost_ret (v := .tuple #[.agg #[.int .i64 16, .string ⟨#[]⟩, .string ⟨#[]⟩, .int .i64 h, .int .i64 0, .int .i64 0, .string ⟨#[]⟩], .bool false]) (by simp [results, Tryz.results5, go_sem, *]) rfl ⟨⟨0, 16, ⟨#[]⟩, ⟨#[]⟩, h, 0, 0, ⟨#[]⟩, []⟩, false, rfl, fun e => by (cases e), Chg.drew (Chg.alloc (Chg.alloc (Chg.alloc (Chg.refl 0 0 w) _) _) _)⟩
  go_wp2
  go_region
  go_wp2
  exact bodyPost_ret (v := .tuple #[.agg #[.int .i64 16, .string ⟨#[]⟩, .string ⟨#[]⟩, .int .i64 h, .int .i64 0, .int .i64 0, .string ⟨#[]⟩], .bool true]) (by simp [results, Tryz.results5, go_sem, *]) rfl ⟨⟨0, 16, ⟨#[]⟩, ⟨#[]⟩, h, 0, 0, ⟨#[]⟩, []⟩, true, rfl, fun _ => ⟨_, GoodC.fstat' h h1 h2⟩, Chg.drew (Chg.alloc (Chg.alloc (Chg.alloc (Chg.refl 0 0 w) _) _) _)⟩

set_option maxRecDepth 20000 in
set_option maxHeartbeats 8000000 in
theorem used_ftrunc (w : World) (p t : ByteArray) (h o z : Int) (d : ByteArray) (hps : p.size ≤ 3000) (_hts : t.size ≤ 3000) (_hds : d.size ≤ 3000) : Calls Tryz.prog 5 #[.agg #[.int .i64 12, .string p, .string t, .int .i64 h, .int .i64 o, .int .i64 z, .string d]] w (UsedPost w) := by
  go_enter Tryz.func5, Tryz.ntmps5
  go_wp2_with fail
  refine (lwField_calls _ p (by omega)).mono ?_
  rintro e ww ⟨bp, rfl, hbp, hww⟩
  subst hww
  by_cases h1 : -1000000000 < h
  case neg =>
    have hf : decide (-1000000000 < h) = false := decide_eq_false h1
    go_wp2
    go_region
    go_wp2
    exact bodyPost_ret (v := .tuple #[.agg #[.int .i64 12, .string ⟨#[]⟩, .string ⟨#[]⟩, .int .i64 h, .int .i64 0, .int .i64 z, .string ⟨#[]⟩], .bool false]) (by simp [results, Tryz.results5, go_sem, *]) rfl ⟨⟨0, 12, ⟨#[]⟩, ⟨#[]⟩, h, 0, z, ⟨#[]⟩, []⟩, false, rfl, fun e => by (cases e), Chg.drew (Chg.alloc (Chg.alloc (Chg.alloc (Chg.refl 0 0 w) _) _) _)⟩
  by_cases h2 : h < 1000000000
  case neg =>
    have hf : decide (h < 1000000000) = false := decide_eq_false h2
    go_wp2
    go_region
    go_wp2
    exact bodyPost_ret (v := .tuple #[.agg #[.int .i64 12, .string ⟨#[]⟩, .string ⟨#[]⟩, .int .i64 h, .int .i64 0, .int .i64 z, .string ⟨#[]⟩], .bool false]) (by simp [results, Tryz.results5, go_sem, *]) rfl ⟨⟨0, 12, ⟨#[]⟩, ⟨#[]⟩, h, 0, z, ⟨#[]⟩, []⟩, false, rfl, fun e => by (cases e), Chg.drew (Chg.alloc (Chg.alloc (Chg.alloc (Chg.refl 0 0 w) _) _) _)⟩
  by_cases z1 : -1000000000 < z
  case neg =>
    have zf : decide (-1000000000 < z) = false := decide_eq_false z1
    go_wp2
    go_region
    go_wp2
    exact bodyPost_ret (v := .tuple #[.agg #[.int .i64 12, .string ⟨#[]⟩, .string ⟨#[]⟩, .int .i64 h, .int .i64 0, .int .i64 z, .string ⟨#[]⟩], .bool false]) (by simp [results, Tryz.results5, go_sem, *]) rfl ⟨⟨0, 12, ⟨#[]⟩, ⟨#[]⟩, h, 0, z, ⟨#[]⟩, []⟩, false, rfl, fun e => by (cases e), Chg.drew (Chg.alloc (Chg.alloc (Chg.alloc (Chg.refl 0 0 w) _) _) _)⟩
  by_cases z2 : z < 1000000000
  case neg =>
    have zf : decide (z < 1000000000) = false := decide_eq_false z2
    go_wp2
    go_region
    go_wp2
    exact bodyPost_ret (v := .tuple #[.agg #[.int .i64 12, .string ⟨#[]⟩, .string ⟨#[]⟩, .int .i64 h, .int .i64 0, .int .i64 z, .string ⟨#[]⟩], .bool false]) (by simp [results, Tryz.results5, go_sem, *]) rfl ⟨⟨0, 12, ⟨#[]⟩, ⟨#[]⟩, h, 0, z, ⟨#[]⟩, []⟩, false, rfl, fun e => by (cases e), Chg.drew (Chg.alloc (Chg.alloc (Chg.alloc (Chg.refl 0 0 w) _) _) _)⟩
  go_wp2
  go_region
  go_wp2
  exact bodyPost_ret (v := .tuple #[.agg #[.int .i64 12, .string ⟨#[]⟩, .string ⟨#[]⟩, .int .i64 h, .int .i64 0, .int .i64 z, .string ⟨#[]⟩], .bool true]) (by simp [results, Tryz.results5, go_sem, *]) rfl ⟨⟨0, 12, ⟨#[]⟩, ⟨#[]⟩, h, 0, z, ⟨#[]⟩, []⟩, true, rfl, fun _ => ⟨_, GoodC.ftrunc' h h1 h2 z z1 z2⟩, Chg.drew (Chg.alloc (Chg.alloc (Chg.alloc (Chg.refl 0 0 w) _) _) _)⟩

set_option maxRecDepth 20000 in
set_option maxHeartbeats 8000000 in
theorem used_pread (w : World) (p t : ByteArray) (h o z : Int) (d : ByteArray) (hps : p.size ≤ 3000) (_hts : t.size ≤ 3000) (_hds : d.size ≤ 3000) : Calls Tryz.prog 5 #[.agg #[.int .i64 15, .string p, .string t, .int .i64 h, .int .i64 o, .int .i64 z, .string d]] w (UsedPost w) := by
  go_enter Tryz.func5, Tryz.ntmps5
  go_wp2_with fail
  refine (lwField_calls _ p (by omega)).mono ?_
  rintro e ww ⟨bp, rfl, hbp, hww⟩
  subst hww
  by_cases h1 : -1000000000 < h
  case neg =>
    have hf : decide (-1000000000 < h) = false := decide_eq_false h1
    go_wp2
    go_region
    go_wp2
    exact bodyPost_ret (v := .tuple #[.agg #[.int .i64 15, .string ⟨#[]⟩, .string ⟨#[]⟩, .int .i64 h, .int .i64 o, .int .i64 z, .string ⟨#[]⟩], .bool false]) (by simp [results, Tryz.results5, go_sem, *]) rfl ⟨⟨0, 15, ⟨#[]⟩, ⟨#[]⟩, h, o, z, ⟨#[]⟩, []⟩, false, rfl, fun e => by (cases e), Chg.drew (Chg.alloc (Chg.alloc (Chg.alloc (Chg.refl 0 0 w) _) _) _)⟩
  by_cases h2 : h < 1000000000
  case neg =>
    have hf : decide (h < 1000000000) = false := decide_eq_false h2
    go_wp2
    go_region
    go_wp2
    exact bodyPost_ret (v := .tuple #[.agg #[.int .i64 15, .string ⟨#[]⟩, .string ⟨#[]⟩, .int .i64 h, .int .i64 o, .int .i64 z, .string ⟨#[]⟩], .bool false]) (by simp [results, Tryz.results5, go_sem, *]) rfl ⟨⟨0, 15, ⟨#[]⟩, ⟨#[]⟩, h, o, z, ⟨#[]⟩, []⟩, false, rfl, fun e => by (cases e), Chg.drew (Chg.alloc (Chg.alloc (Chg.alloc (Chg.refl 0 0 w) _) _) _)⟩
  by_cases o1 : -1000000000 < o
  case neg =>
    have of : decide (-1000000000 < o) = false := decide_eq_false o1
    go_wp2
    go_region
    go_wp2
    exact bodyPost_ret (v := .tuple #[.agg #[.int .i64 15, .string ⟨#[]⟩, .string ⟨#[]⟩, .int .i64 h, .int .i64 o, .int .i64 z, .string ⟨#[]⟩], .bool false]) (by simp [results, Tryz.results5, go_sem, *]) rfl ⟨⟨0, 15, ⟨#[]⟩, ⟨#[]⟩, h, o, z, ⟨#[]⟩, []⟩, false, rfl, fun e => by (cases e), Chg.drew (Chg.alloc (Chg.alloc (Chg.alloc (Chg.refl 0 0 w) _) _) _)⟩
  by_cases o2 : o < 1000000000
  case neg =>
    have of : decide (o < 1000000000) = false := decide_eq_false o2
    go_wp2
    go_region
    go_wp2
    exact bodyPost_ret (v := .tuple #[.agg #[.int .i64 15, .string ⟨#[]⟩, .string ⟨#[]⟩, .int .i64 h, .int .i64 o, .int .i64 z, .string ⟨#[]⟩], .bool false]) (by simp [results, Tryz.results5, go_sem, *]) rfl ⟨⟨0, 15, ⟨#[]⟩, ⟨#[]⟩, h, o, z, ⟨#[]⟩, []⟩, false, rfl, fun e => by (cases e), Chg.drew (Chg.alloc (Chg.alloc (Chg.alloc (Chg.refl 0 0 w) _) _) _)⟩
  by_cases z1 : -1000000000 < z
  case neg =>
    have zf : decide (-1000000000 < z) = false := decide_eq_false z1
    go_wp2
    go_region
    go_wp2
    exact bodyPost_ret (v := .tuple #[.agg #[.int .i64 15, .string ⟨#[]⟩, .string ⟨#[]⟩, .int .i64 h, .int .i64 o, .int .i64 z, .string ⟨#[]⟩], .bool false]) (by simp [results, Tryz.results5, go_sem, *]) rfl ⟨⟨0, 15, ⟨#[]⟩, ⟨#[]⟩, h, o, z, ⟨#[]⟩, []⟩, false, rfl, fun e => by (cases e), Chg.drew (Chg.alloc (Chg.alloc (Chg.alloc (Chg.refl 0 0 w) _) _) _)⟩
  by_cases z2 : z < 1000000000
  case neg =>
    have zf : decide (z < 1000000000) = false := decide_eq_false z2
    go_wp2
    go_region
    go_wp2
    exact bodyPost_ret (v := .tuple #[.agg #[.int .i64 15, .string ⟨#[]⟩, .string ⟨#[]⟩, .int .i64 h, .int .i64 o, .int .i64 z, .string ⟨#[]⟩], .bool false]) (by simp [results, Tryz.results5, go_sem, *]) rfl ⟨⟨0, 15, ⟨#[]⟩, ⟨#[]⟩, h, o, z, ⟨#[]⟩, []⟩, false, rfl, fun e => by (cases e), Chg.drew (Chg.alloc (Chg.alloc (Chg.alloc (Chg.refl 0 0 w) _) _) _)⟩
  go_wp2
  go_region
  go_wp2
  exact bodyPost_ret (v := .tuple #[.agg #[.int .i64 15, .string ⟨#[]⟩, .string ⟨#[]⟩, .int .i64 h, .int .i64 o, .int .i64 z, .string ⟨#[]⟩], .bool true]) (by simp [results, Tryz.results5, go_sem, *]) rfl ⟨⟨0, 15, ⟨#[]⟩, ⟨#[]⟩, h, o, z, ⟨#[]⟩, []⟩, true, rfl, fun _ => ⟨_, GoodC.pread' h h1 h2 o o1 o2 z z1 z2⟩, Chg.drew (Chg.alloc (Chg.alloc (Chg.alloc (Chg.refl 0 0 w) _) _) _)⟩

set_option maxRecDepth 20000 in
set_option maxHeartbeats 8000000 in
theorem used_pwrite (w : World) (p t : ByteArray) (h o z : Int) (d : ByteArray) (hps : p.size ≤ 3000) (_hts : t.size ≤ 3000) (hds : d.size ≤ 3000) : Calls Tryz.prog 5 #[.agg #[.int .i64 11, .string p, .string t, .int .i64 h, .int .i64 o, .int .i64 z, .string d]] w (UsedPost w) := by
  go_enter Tryz.func5, Tryz.ntmps5
  go_wp2_with fail
  refine (lwField_calls _ p (by omega)).mono ?_
  rintro e ww ⟨bp, rfl, hbp, hww⟩
  subst hww
  by_cases h1 : -1000000000 < h
  case neg =>
    have hf : decide (-1000000000 < h) = false := decide_eq_false h1
    go_wp2
    go_region
    go_wp2
    exact bodyPost_ret (v := .tuple #[.agg #[.int .i64 11, .string ⟨#[]⟩, .string ⟨#[]⟩, .int .i64 h, .int .i64 o, .int .i64 0, .string d], .bool false]) (by simp [results, Tryz.results5, go_sem, *]) rfl ⟨⟨0, 11, ⟨#[]⟩, ⟨#[]⟩, h, o, 0, d, []⟩, false, rfl, fun e => by (cases e), Chg.drew (Chg.alloc (Chg.alloc (Chg.alloc (Chg.refl 0 0 w) _) _) _)⟩
  by_cases h2 : h < 1000000000
  case neg =>
    have hf : decide (h < 1000000000) = false := decide_eq_false h2
    go_wp2
    go_region
    go_wp2
    exact bodyPost_ret (v := .tuple #[.agg #[.int .i64 11, .string ⟨#[]⟩, .string ⟨#[]⟩, .int .i64 h, .int .i64 o, .int .i64 0, .string d], .bool false]) (by simp [results, Tryz.results5, go_sem, *]) rfl ⟨⟨0, 11, ⟨#[]⟩, ⟨#[]⟩, h, o, 0, d, []⟩, false, rfl, fun e => by (cases e), Chg.drew (Chg.alloc (Chg.alloc (Chg.alloc (Chg.refl 0 0 w) _) _) _)⟩
  by_cases o1 : -1000000000 < o
  case neg =>
    have of : decide (-1000000000 < o) = false := decide_eq_false o1
    go_wp2
    go_region
    go_wp2
    exact bodyPost_ret (v := .tuple #[.agg #[.int .i64 11, .string ⟨#[]⟩, .string ⟨#[]⟩, .int .i64 h, .int .i64 o, .int .i64 0, .string d], .bool false]) (by simp [results, Tryz.results5, go_sem, *]) rfl ⟨⟨0, 11, ⟨#[]⟩, ⟨#[]⟩, h, o, 0, d, []⟩, false, rfl, fun e => by (cases e), Chg.drew (Chg.alloc (Chg.alloc (Chg.alloc (Chg.refl 0 0 w) _) _) _)⟩
  by_cases o2 : o < 1000000000
  case neg =>
    have of : decide (o < 1000000000) = false := decide_eq_false o2
    go_wp2
    go_region
    go_wp2
    exact bodyPost_ret (v := .tuple #[.agg #[.int .i64 11, .string ⟨#[]⟩, .string ⟨#[]⟩, .int .i64 h, .int .i64 o, .int .i64 0, .string d], .bool false]) (by simp [results, Tryz.results5, go_sem, *]) rfl ⟨⟨0, 11, ⟨#[]⟩, ⟨#[]⟩, h, o, 0, d, []⟩, false, rfl, fun e => by (cases e), Chg.drew (Chg.alloc (Chg.alloc (Chg.alloc (Chg.refl 0 0 w) _) _) _)⟩
  go_wp2
  go_region
  go_wp2
  exact bodyPost_ret (v := .tuple #[.agg #[.int .i64 11, .string ⟨#[]⟩, .string ⟨#[]⟩, .int .i64 h, .int .i64 o, .int .i64 0, .string d], .bool true]) (by simp [results, Tryz.results5, go_sem, *]) rfl ⟨⟨0, 11, ⟨#[]⟩, ⟨#[]⟩, h, o, 0, d, []⟩, true, rfl, fun _ => ⟨_, GoodC.pwrite' h h1 h2 o o1 o2 d hds⟩, Chg.drew (Chg.alloc (Chg.alloc (Chg.alloc (Chg.refl 0 0 w) _) _) _)⟩

end Go.Proofs.YtacfkgfemmgpkaaGreatDoor

namespace Go.Proofs.YtacfkgfemmgpkaaGreatDoor
open Go.RowKit

theorem lwUsed_calls (w : World) (c : Lst) (hc : OkC c) : Calls Tryz.prog 5 #[.agg (cA c)] w (UsedPost w) := by
  obtain ⟨k0, k, p, t, h, o, z, d, n⟩ := c
  obtain ⟨hps, hts, hds⟩ := hc
  by_cases h1 : k < 1
  · exact used_low w k p t h o z d h1
  by_cases h2 : 25 < k
  · exact used_high w k p t h o z d h2
  have hk : k = 1 ∨ k = 2 ∨ k = 3 ∨ k = 4 ∨ k = 5 ∨ k = 6 ∨ k = 7 ∨ k = 8 ∨ k = 9 ∨ k = 10 ∨ k = 11 ∨ k = 12 ∨ k = 13 ∨ k = 14 ∨ k = 15 ∨ k = 16 ∨ k = 17 ∨ k = 18 ∨ k = 19 ∨ k = 20 ∨ k = 21 ∨ k = 22 ∨ k = 23 ∨ k = 24 ∨ k = 25 := by omega
  rcases hk with rfl | rfl | rfl | rfl | rfl | rfl | rfl | rfl | rfl | rfl | rfl | rfl | rfl | rfl | rfl | rfl | rfl | rfl | rfl | rfl | rfl | rfl | rfl | rfl | rfl
  · exact used_create w p t h o z d hps hts hds
  · exact used_mkdir w p t h o z d hps hts hds
  · exact used_unlink w p t h o z d hps hts hds
  · exact used_rmdir w p t h o z d hps hts hds
  · exact used_rename w p t h o z d hps hts hds
  · exact used_write w p t h o z d hps hts hds
  · exact used_trunc w p t h o z d hps hts hds
  · exact used_append w p t h o z d hps hts hds
  · exact used_link w p t h o z d hps hts hds
  · exact used_symlink w p t h o z d hps hts hds
  · exact used_pwrite w p t h o z d hps hts hds
  · exact used_ftrunc w p t h o z d hps hts hds
  · exact used_close w p t h o z d hps hts hds
  · exact used_open w p t h o z d hps hts hds
  · exact used_pread w p t h o z d hps hts hds
  · exact used_fstat w p t h o z d hps hts hds
  · exact used_read w p t h o z d hps hts hds
  · exact used_stat w p t h o z d hps hts hds
  · exact used_lstat w p t h o z d hps hts hds
  · exact used_list w p t h o z d hps hts hds
  · exact used_readlink w p t h o z d hps hts hds
  · exact used_sync w p t h o z d hps hts hds
  · exact used_checkpoint w p t h o z d hps hts hds
  · exact used_space w p t h o z d hps hts hds
  · exact used_log w p t h o z d hps hts hds

end Go.Proofs.YtacfkgfemmgpkaaGreatDoor
