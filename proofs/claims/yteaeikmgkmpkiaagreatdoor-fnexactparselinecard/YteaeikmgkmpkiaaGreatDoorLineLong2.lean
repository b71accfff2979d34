/- l14Long of the model, where it refuses a line. (made by tools/mklong.py) -/
import Derived.Test.YteaeikmgkmpkiaaGreatDoorLineLong
namespace Go.Proofs.YteaeikmgkmpkiaaGreatDoor
open Go.RowKit Go.Lib

set_option maxRecDepth 20000 in
set_option maxHeartbeats 4000000 in
theorem long_none_rename (w : World) (F : List ByteArray) (g fc : Nat) (hc : ∀ i, i < F.length → w.cell? ⟨g, i, none⟩ = some (.string (F.getD i noText))) (_hs : ∀ x ∈ F, x.size ≤ 1048576) (hk : F.getD 0 noText = ⟨#[114, 101, 110, 97, 109, 101]⟩) (h1 : 1 ≤ F.length) (hn : F.length ≠ 3) :
    Calls Tryz.prog 16 #[.slice (some ⟨g, 0, none⟩) F.length fc] w (CallPost w (none)) := by
  have b_rename : ((F.getD 0 noText).toList == [114, 101, 110, 97, 109, 101]) = true := tl_yes hk
  have b_link : ((F.getD 0 noText).toList == [108, 105, 110, 107]) = false := tl_no (by rw [hk]; decide)
  have b_symlink : ((F.getD 0 noText).toList == [115, 121, 109, 108, 105, 110, 107]) = false := tl_no (by rw [hk]; decide)
  have b_append : ((F.getD 0 noText).toList == [97, 112, 112, 101, 110, 100]) = false := tl_no (by rw [hk]; decide)
  have b_write : ((F.getD 0 noText).toList == [119, 114, 105, 116, 101]) = false := tl_no (by rw [hk]; decide)
  have b_fill : ((F.getD 0 noText).toList == [102, 105, 108, 108]) = false := tl_no (by rw [hk]; decide)
  have b_trunc : ((F.getD 0 noText).toList == [116, 114, 117, 110, 99]) = false := tl_no (by rw [hk]; decide)
  have b_read : ((F.getD 0 noText).toList == [114, 101, 97, 100]) = false := tl_no (by rw [hk]; decide)
  have hln : (((F.length : Nat) : Int) == 3) = false := by rw [beq_eq_false_iff_ne]; omega
  have cl0 := hc 0 (by omega)
  generalize F.getD 0 noText = x0 at *
  have hg := lt_of_cell cl0
  have HC : Hid (Chg 0 0 w (w.alloc (.cells #[.int .i64 0, .string ⟨#[]⟩, .string ⟨#[]⟩, .int .i64 0, .int .i64 0, .int .i64 0, .string ⟨#[]⟩] 24))) := Chg.alloc (Chg.refl 0 0 w) _
  clear hc
  go_enter Tryz.func16, Tryz.ntmps16
  go_wp2
  exact bodyPost_ret (v := .tuple #[.agg (cCall ⟨0, 0, ⟨#[]⟩, ⟨#[]⟩, 0, 0, 0, ⟨#[]⟩, []⟩), .bool false]) (by simp [results, Tryz.results16, go_sem]) rfl ⟨⟨0, 0, ⟨#[]⟩, ⟨#[]⟩, 0, 0, 0, ⟨#[]⟩, []⟩, rfl, fun s' e => by (cases e), HC.out⟩

set_option maxRecDepth 20000 in
set_option maxHeartbeats 4000000 in
theorem long_none_link (w : World) (F : List ByteArray) (g fc : Nat) (hc : ∀ i, i < F.length → w.cell? ⟨g, i, none⟩ = some (.string (F.getD i noText))) (_hs : ∀ x ∈ F, x.size ≤ 1048576) (hk : F.getD 0 noText = ⟨#[108, 105, 110, 107]⟩) (h1 : 1 ≤ F.length) (hn : F.length ≠ 3) :
    Calls Tryz.prog 16 #[.slice (some ⟨g, 0, none⟩) F.length fc] w (CallPost w (none)) := by
  have b_rename : ((F.getD 0 noText).toList == [114, 101, 110, 97, 109, 101]) = false := tl_no (by rw [hk]; decide)
  have b_link : ((F.getD 0 noText).toList == [108, 105, 110, 107]) = true := tl_yes hk
  have b_symlink : ((F.getD 0 noText).toList == [115, 121, 109, 108, 105, 110, 107]) = false := tl_no (by rw [hk]; decide)
  have b_append : ((F.getD 0 noText).toList == [97, 112, 112, 101, 110, 100]) = false := tl_no (by rw [hk]; decide)
  have b_write : ((F.getD 0 noText).toList == [119, 114, 105, 116, 101]) = false := tl_no (by rw [hk]; decide)
  have b_fill : ((F.getD 0 noText).toList == [102, 105, 108, 108]) = false := tl_no (by rw [hk]; decide)
  have b_trunc : ((F.getD 0 noText).toList == [116, 114, 117, 110, 99]) = false := tl_no (by rw [hk]; decide)
  have b_read : ((F.getD 0 noText).toList == [114, 101, 97, 100]) = false := tl_no (by rw [hk]; decide)
  have hln : (((F.length : Nat) : Int) == 3) = false := by rw [beq_eq_false_iff_ne]; omega
  have cl0 := hc 0 (by omega)
  generalize F.getD 0 noText = x0 at *
  have hg := lt_of_cell cl0
  have HC : Hid (Chg 0 0 w (w.alloc (.cells #[.int .i64 0, .string ⟨#[]⟩, .string ⟨#[]⟩, .int .i64 0, .int .i64 0, .int .i64 0, .string ⟨#[]⟩] 24))) := Chg.alloc (Chg.refl 0 0 w) _
  clear hc
  go_enter Tryz.func16, Tryz.ntmps16
  go_wp2
  exact bodyPost_ret (v := .tuple #[.agg (cCall ⟨0, 0, ⟨#[]⟩, ⟨#[]⟩, 0, 0, 0, ⟨#[]⟩, []⟩), .bool false]) (by simp [results, Tryz.results16, go_sem]) rfl ⟨⟨0, 0, ⟨#[]⟩, ⟨#[]⟩, 0, 0, 0, ⟨#[]⟩, []⟩, rfl, fun s' e => by (cases e), HC.out⟩

set_option maxRecDepth 20000 in
set_option maxHeartbeats 4000000 in
theorem long_none_symlink (w : World) (F : List ByteArray) (g fc : Nat) (hc : ∀ i, i < F.length → w.cell? ⟨g, i, none⟩ = some (.string (F.getD i noText))) (_hs : ∀ x ∈ F, x.size ≤ 1048576) (hk : F.getD 0 noText = ⟨#[115, 121, 109, 108, 105, 110, 107]⟩) (h1 : 1 ≤ F.length) (hn : F.length ≠ 3) :
    Calls Tryz.prog 16 #[.slice (some ⟨g, 0, none⟩) F.length fc] w (CallPost w (none)) := by
  have b_rename : ((F.getD 0 noText).toList == [114, 101, 110, 97, 109, 101]) = false := tl_no (by rw [hk]; decide)
  have b_link : ((F.getD 0 noText).toList == [108, 105, 110, 107]) = false := tl_no (by rw [hk]; decide)
  have b_symlink : ((F.getD 0 noText).toList == [115, 121, 109, 108, 105, 110, 107]) = true := tl_yes hk
  have b_append : ((F.getD 0 noText).toList == [97, 112, 112, 101, 110, 100]) = false := tl_no (by rw [hk]; decide)
  have b_write : ((F.getD 0 noText).toList == [119, 114, 105, 116, 101]) = false := tl_no (by rw [hk]; decide)
  have b_fill : ((F.getD 0 noText).toList == [102, 105, 108, 108]) = false := tl_no (by rw [hk]; decide)
  have b_trunc : ((F.getD 0 noText).toList == [116, 114, 117, 110, 99]) = false := tl_no (by rw [hk]; decide)
  have b_read : ((F.getD 0 noText).toList == [114, 101, 97, 100]) = false := tl_no (by rw [hk]; decide)
  have hln : (((F.length : Nat) : Int) == 3) = false := by rw [beq_eq_false_iff_ne]; omega
  have cl0 := hc 0 (by omega)
  generalize F.getD 0 noText = x0 at *
  have hg := lt_of_cell cl0
  have HC : Hid (Chg 0 0 w (w.alloc (.cells #[.int .i64 0, .string ⟨#[]⟩, .string ⟨#[]⟩, .int .i64 0, .int .i64 0, .int .i64 0, .string ⟨#[]⟩] 24))) := Chg.alloc (Chg.refl 0 0 w) _
  clear hc
  go_enter Tryz.func16, Tryz.ntmps16
  go_wp2
  exact bodyPost_ret (v := .tuple #[.agg (cCall ⟨0, 0, ⟨#[]⟩, ⟨#[]⟩, 0, 0, 0, ⟨#[]⟩, []⟩), .bool false]) (by simp [results, Tryz.results16, go_sem]) rfl ⟨⟨0, 0, ⟨#[]⟩, ⟨#[]⟩, 0, 0, 0, ⟨#[]⟩, []⟩, rfl, fun s' e => by (cases e), HC.out⟩

set_option maxRecDepth 20000 in
set_option maxHeartbeats 4000000 in
theorem long_none_append (w : World) (F : List ByteArray) (g fc : Nat) (hc : ∀ i, i < F.length → w.cell? ⟨g, i, none⟩ = some (.string (F.getD i noText))) (_hs : ∀ x ∈ F, x.size ≤ 1048576) (hk : F.getD 0 noText = ⟨#[97, 112, 112, 101, 110, 100]⟩) (h1 : 1 ≤ F.length) (hn : F.length ≠ 3) :
    Calls Tryz.prog 16 #[.slice (some ⟨g, 0, none⟩) F.length fc] w (CallPost w (none)) := by
  have b_rename : ((F.getD 0 noText).toList == [114, 101, 110, 97, 109, 101]) = false := tl_no (by rw [hk]; decide)
  have b_link : ((F.getD 0 noText).toList == [108, 105, 110, 107]) = false := tl_no (by rw [hk]; decide)
  have b_symlink : ((F.getD 0 noText).toList == [115, 121, 109, 108, 105, 110, 107]) = false := tl_no (by rw [hk]; decide)
  have b_append : ((F.getD 0 noText).toList == [97, 112, 112, 101, 110, 100]) = true := tl_yes hk
  have b_write : ((F.getD 0 noText).toList == [119, 114, 105, 116, 101]) = false := tl_no (by rw [hk]; decide)
  have b_fill : ((F.getD 0 noText).toList == [102, 105, 108, 108]) = false := tl_no (by rw [hk]; decide)
  have b_trunc : ((F.getD 0 noText).toList == [116, 114, 117, 110, 99]) = false := tl_no (by rw [hk]; decide)
  have b_read : ((F.getD 0 noText).toList == [114, 101, 97, 100]) = false := tl_no (by rw [hk]; decide)
  have hln : (((F.length : Nat) : Int) == 3) = false := by rw [beq_eq_false_iff_ne]; omega
  have cl0 := hc 0 (by omega)
  generalize F.getD 0 noText = x0 at *
  have hg := lt_of_cell cl0
  have HC : Hid (Chg 0 0 w (w.alloc (.cells #[.int .i64 0, .string ⟨#[]⟩, .string ⟨#[]⟩, .int .i64 0, .int .i64 0, .int .i64 0, .string ⟨#[]⟩] 24))) := Chg.alloc (Chg.refl 0 0 w) _
  clear hc
  go_enter Tryz.func16, Tryz.ntmps16
  go_wp2
  exact bodyPost_ret (v := .tuple #[.agg (cCall ⟨0, 0, ⟨#[]⟩, ⟨#[]⟩, 0, 0, 0, ⟨#[]⟩, []⟩), .bool false]) (by simp [results, Tryz.results16, go_sem]) rfl ⟨⟨0, 0, ⟨#[]⟩, ⟨#[]⟩, 0, 0, 0, ⟨#[]⟩, []⟩, rfl, fun s' e => by (cases e), HC.out⟩

set_option maxRecDepth 20000 in
set_option maxHeartbeats 4000000 in
theorem long_none_write (w : World) (F : List ByteArray) (g fc : Nat) (hc : ∀ i, i < F.length → w.cell? ⟨g, i, none⟩ = some (.string (F.getD i noText))) (_hs : ∀ x ∈ F, x.size ≤ 1048576) (hk : F.getD 0 noText = ⟨#[119, 114, 105, 116, 101]⟩) (h1 : 1 ≤ F.length) (hn : F.length ≠ 4) :
    Calls Tryz.prog 16 #[.slice (some ⟨g, 0, none⟩) F.length fc] w (CallPost w (none)) := by
  have b_rename : ((F.getD 0 noText).toList == [114, 101, 110, 97, 109, 101]) = false := tl_no (by rw [hk]; decide)
  have b_link : ((F.getD 0 noText).toList == [108, 105, 110, 107]) = false := tl_no (by rw [hk]; decide)
  have b_symlink : ((F.getD 0 noText).toList == [115, 121, 109, 108, 105, 110, 107]) = false := tl_no (by rw [hk]; decide)
  have b_append : ((F.getD 0 noText).toList == [97, 112, 112, 101, 110, 100]) = false := tl_no (by rw [hk]; decide)
  have b_write : ((F.getD 0 noText).toList == [119, 114, 105, 116, 101]) = true := tl_yes hk
  have b_fill : ((F.getD 0 noText).toList == [102, 105, 108, 108]) = false := tl_no (by rw [hk]; decide)
  have b_trunc : ((F.getD 0 noText).toList == [116, 114, 117, 110, 99]) = false := tl_no (by rw [hk]; decide)
  have b_read : ((F.getD 0 noText).toList == [114, 101, 97, 100]) = false := tl_no (by rw [hk]; decide)
  have hln : (((F.length : Nat) : Int) == 4) = false := by rw [beq_eq_false_iff_ne]; omega
  have cl0 := hc 0 (by omega)
  generalize F.getD 0 noText = x0 at *
  have hg := lt_of_cell cl0
  have HC : Hid (Chg 0 0 w (w.alloc (.cells #[.int .i64 0, .string ⟨#[]⟩, .string ⟨#[]⟩, .int .i64 0, .int .i64 0, .int .i64 0, .string ⟨#[]⟩] 24))) := Chg.alloc (Chg.refl 0 0 w) _
  clear hc
  go_enter Tryz.func16, Tryz.ntmps16
  go_wp2
  exact bodyPost_ret (v := .tuple #[.agg (cCall ⟨0, 0, ⟨#[]⟩, ⟨#[]⟩, 0, 0, 0, ⟨#[]⟩, []⟩), .bool false]) (by simp [results, Tryz.results16, go_sem]) rfl ⟨⟨0, 0, ⟨#[]⟩, ⟨#[]⟩, 0, 0, 0, ⟨#[]⟩, []⟩, rfl, fun s' e => by (cases e), HC.out⟩

set_option maxRecDepth 20000 in
set_option maxHeartbeats 4000000 in
theorem long_none_fill (w : World) (F : List ByteArray) (g fc : Nat) (hc : ∀ i, i < F.length → w.cell? ⟨g, i, none⟩ = some (.string (F.getD i noText))) (_hs : ∀ x ∈ F, x.size ≤ 1048576) (hk : F.getD 0 noText = ⟨#[102, 105, 108, 108]⟩) (h1 : 1 ≤ F.length) (hn : F.length ≠ 5) :
    Calls Tryz.prog 16 #[.slice (some ⟨g, 0, none⟩) F.length fc] w (CallPost w (none)) := by
  have b_rename : ((F.getD 0 noText).toList == [114, 101, 110, 97, 109, 101]) = false := tl_no (by rw [hk]; decide)
  have b_link : ((F.getD 0 noText).toList == [108, 105, 110, 107]) = false := tl_no (by rw [hk]; decide)
  have b_symlink : ((F.getD 0 noText).toList == [115, 121, 109, 108, 105, 110, 107]) = false := tl_no (by rw [hk]; decide)
  have b_append : ((F.getD 0 noText).toList == [97, 112, 112, 101, 110, 100]) = false := tl_no (by rw [hk]; decide)
  have b_write : ((F.getD 0 noText).toList == [119, 114, 105, 116, 101]) = false := tl_no (by rw [hk]; decide)
  have b_fill : ((F.getD 0 noText).toList == [102, 105, 108, 108]) = true := tl_yes hk
  have b_trunc : ((F.getD 0 noText).toList == [116, 114, 117, 110, 99]) = false := tl_no (by rw [hk]; decide)
  have b_read : ((F.getD 0 noText).toList == [114, 101, 97, 100]) = false := tl_no (by rw [hk]; decide)
  have hln : (((F.length : Nat) : Int) == 5) = false := by rw [beq_eq_false_iff_ne]; omega
  have cl0 := hc 0 (by omega)
  generalize F.getD 0 noText = x0 at *
  have hg := lt_of_cell cl0
  have HC : Hid (Chg 0 0 w (w.alloc (.cells #[.int .i64 0, .string ⟨#[]⟩, .string ⟨#[]⟩, .int .i64 0, .int .i64 0, .int .i64 0, .string ⟨#[]⟩] 24))) := Chg.alloc (Chg.refl 0 0 w) _
  clear hc
  go_enter Tryz.func16, Tryz.ntmps16
  go_wp2
  exact bodyPost_ret (v := .tuple #[.agg (cCall ⟨0, 0, ⟨#[]⟩, ⟨#[]⟩, 0, 0, 0, ⟨#[]⟩, []⟩), .bool false]) (by simp [results, Tryz.results16, go_sem]) rfl ⟨⟨0, 0, ⟨#[]⟩, ⟨#[]⟩, 0, 0, 0, ⟨#[]⟩, []⟩, rfl, fun s' e => by (cases e), HC.out⟩

set_option maxRecDepth 20000 in
set_option maxHeartbeats 4000000 in
theorem long_none_trunc (w : World) (F : List ByteArray) (g fc : Nat) (hc : ∀ i, i < F.length → w.cell? ⟨g, i, none⟩ = some (.string (F.getD i noText))) (_hs : ∀ x ∈ F, x.size ≤ 1048576) (hk : F.getD 0 noText = ⟨#[116, 114, 117, 110, 99]⟩) (h1 : 1 ≤ F.length) (hn : F.length ≠ 3) :
    Calls Tryz.prog 16 #[.slice (some ⟨g, 0, none⟩) F.length fc] w (CallPost w (none)) := by
  have b_rename : ((F.getD 0 noText).toList == [114, 101, 110, 97, 109, 101]) = false := tl_no (by rw [hk]; decide)
  have b_link : ((F.getD 0 noText).toList == [108, 105, 110, 107]) = false := tl_no (by rw [hk]; decide)
  have b_symlink : ((F.getD 0 noText).toList == [115, 121, 109, 108, 105, 110, 107]) = false := tl_no (by rw [hk]; decide)
  have b_append : ((F.getD 0 noText).toList == [97, 112, 112, 101, 110, 100]) = false := tl_no (by rw [hk]; decide)
  have b_write : ((F.getD 0 noText).toList == [119, 114, 105, 116, 101]) = false := tl_no (by rw [hk]; decide)
  have b_fill : ((F.getD 0 noText).toList == [102, 105, 108, 108]) = false := tl_no (by rw [hk]; decide)
  have b_trunc : ((F.getD 0 noText).toList == [116, 114, 117, 110, 99]) = true := tl_yes hk
  have b_read : ((F.getD 0 noText).toList == [114, 101, 97, 100]) = false := tl_no (by rw [hk]; decide)
  have hln : (((F.length : Nat) : Int) == 3) = false := by rw [beq_eq_false_iff_ne]; omega
  have cl0 := hc 0 (by omega)
  generalize F.getD 0 noText = x0 at *
  have hg := lt_of_cell cl0
  have HC : Hid (Chg 0 0 w (w.alloc (.cells #[.int .i64 0, .string ⟨#[]⟩, .string ⟨#[]⟩, .int .i64 0, .int .i64 0, .int .i64 0, .string ⟨#[]⟩] 24))) := Chg.alloc (Chg.refl 0 0 w) _
  clear hc
  go_enter Tryz.func16, Tryz.ntmps16
  go_wp2
  exact bodyPost_ret (v := .tuple #[.agg (cCall ⟨0, 0, ⟨#[]⟩, ⟨#[]⟩, 0, 0, 0, ⟨#[]⟩, []⟩), .bool false]) (by simp [results, Tryz.results16, go_sem]) rfl ⟨⟨0, 0, ⟨#[]⟩, ⟨#[]⟩, 0, 0, 0, ⟨#[]⟩, []⟩, rfl, fun s' e => by (cases e), HC.out⟩

set_option maxRecDepth 20000 in
set_option maxHeartbeats 4000000 in
theorem long_none_read (w : World) (F : List ByteArray) (g fc : Nat) (hc : ∀ i, i < F.length → w.cell? ⟨g, i, none⟩ = some (.string (F.getD i noText))) (_hs : ∀ x ∈ F, x.size ≤ 1048576) (hk : F.getD 0 noText = ⟨#[114, 101, 97, 100]⟩) (h1 : 1 ≤ F.length) (hn : F.length ≠ 4) :
    Calls Tryz.prog 16 #[.slice (some ⟨g, 0, none⟩) F.length fc] w (CallPost w (none)) := by
  have b_rename : ((F.getD 0 noText).toList == [114, 101, 110, 97, 109, 101]) = false := tl_no (by rw [hk]; decide)
  have b_link : ((F.getD 0 noText).toList == [108, 105, 110, 107]) = false := tl_no (by rw [hk]; decide)
  have b_symlink : ((F.getD 0 noText).toList == [115, 121, 109, 108, 105, 110, 107]) = false := tl_no (by rw [hk]; decide)
  have b_append : ((F.getD 0 noText).toList == [97, 112, 112, 101, 110, 100]) = false := tl_no (by rw [hk]; decide)
  have b_write : ((F.getD 0 noText).toList == [119, 114, 105, 116, 101]) = false := tl_no (by rw [hk]; decide)
  have b_fill : ((F.getD 0 noText).toList == [102, 105, 108, 108]) = false := tl_no (by rw [hk]; decide)
  have b_trunc : ((F.getD 0 noText).toList == [116, 114, 117, 110, 99]) = false := tl_no (by rw [hk]; decide)
  have b_read : ((F.getD 0 noText).toList == [114, 101, 97, 100]) = true := tl_yes hk
  have hln : (((F.length : Nat) : Int) == 4) = false := by rw [beq_eq_false_iff_ne]; omega
  have cl0 := hc 0 (by omega)
  generalize F.getD 0 noText = x0 at *
  have hg := lt_of_cell cl0
  have HC : Hid (Chg 0 0 w (w.alloc (.cells #[.int .i64 0, .string ⟨#[]⟩, .string ⟨#[]⟩, .int .i64 0, .int .i64 0, .int .i64 0, .string ⟨#[]⟩] 24))) := Chg.alloc (Chg.refl 0 0 w) _
  clear hc
  go_enter Tryz.func16, Tryz.ntmps16
  go_wp2
  exact bodyPost_ret (v := .tuple #[.agg (cCall ⟨0, 0, ⟨#[]⟩, ⟨#[]⟩, 0, 0, 0, ⟨#[]⟩, []⟩), .bool false]) (by simp [results, Tryz.results16, go_sem]) rfl ⟨⟨0, 0, ⟨#[]⟩, ⟨#[]⟩, 0, 0, 0, ⟨#[]⟩, []⟩, rfl, fun s' e => by (cases e), HC.out⟩

set_option maxRecDepth 20000 in
set_option maxHeartbeats 4000000 in
theorem long_none_all (w : World) (F : List ByteArray) (g fc : Nat) (hc : ∀ i, i < F.length → w.cell? ⟨g, i, none⟩ = some (.string (F.getD i noText))) (_hs : ∀ x ∈ F, x.size ≤ 1048576) (h_rename : F.getD 0 noText ≠ ⟨#[114, 101, 110, 97, 109, 101]⟩) (h_link : F.getD 0 noText ≠ ⟨#[108, 105, 110, 107]⟩) (h_symlink : F.getD 0 noText ≠ ⟨#[115, 121, 109, 108, 105, 110, 107]⟩) (h_append : F.getD 0 noText ≠ ⟨#[97, 112, 112, 101, 110, 100]⟩) (h_write : F.getD 0 noText ≠ ⟨#[119, 114, 105, 116, 101]⟩) (h_fill : F.getD 0 noText ≠ ⟨#[102, 105, 108, 108]⟩) (h_trunc : F.getD 0 noText ≠ ⟨#[116, 114, 117, 110, 99]⟩) (h_read : F.getD 0 noText ≠ ⟨#[114, 101, 97, 100]⟩) (h1 : 1 ≤ F.length) :
    Calls Tryz.prog 16 #[.slice (some ⟨g, 0, none⟩) F.length fc] w (CallPost w (none)) := by
  have b_rename : ((F.getD 0 noText).toList == [114, 101, 110, 97, 109, 101]) = false := tl_no h_rename
  have b_link : ((F.getD 0 noText).toList == [108, 105, 110, 107]) = false := tl_no h_link
  have b_symlink : ((F.getD 0 noText).toList == [115, 121, 109, 108, 105, 110, 107]) = false := tl_no h_symlink
  have b_append : ((F.getD 0 noText).toList == [97, 112, 112, 101, 110, 100]) = false := tl_no h_append
  have b_write : ((F.getD 0 noText).toList == [119, 114, 105, 116, 101]) = false := tl_no h_write
  have b_fill : ((F.getD 0 noText).toList == [102, 105, 108, 108]) = false := tl_no h_fill
  have b_trunc : ((F.getD 0 noText).toList == [116, 114, 117, 110, 99]) = false := tl_no h_trunc
  have b_read : ((F.getD 0 noText).toList == [114, 101, 97, 100]) = false := tl_no h_read
  have cl0 := hc 0 (by omega)
  generalize F.getD 0 noText = x0 at *
  have hg := lt_of_cell cl0
  have HC : Hid (Chg 0 0 w (w.alloc (.cells #[.int .i64 0, .string ⟨#[]⟩, .string ⟨#[]⟩, .int .i64 0, .int .i64 0, .int .i64 0, .string ⟨#[]⟩] 24))) := Chg.alloc (Chg.refl 0 0 w) _
  clear hc
  go_enter Tryz.func16, Tryz.ntmps16
  go_wp2
  exact bodyPost_ret (v := .tuple #[.agg (cCall ⟨0, 0, ⟨#[]⟩, ⟨#[]⟩, 0, 0, 0, ⟨#[]⟩, []⟩), .bool false]) (by simp [results, Tryz.results16, go_sem]) rfl ⟨⟨0, 0, ⟨#[]⟩, ⟨#[]⟩, 0, 0, 0, ⟨#[]⟩, []⟩, rfl, fun s' e => by (cases e), HC.out⟩

set_option maxRecDepth 20000 in
set_option maxHeartbeats 4000000 in
theorem long_nofill_size (w : World) (F : List ByteArray) (g fc : Nat) (hc : ∀ i, i < F.length → w.cell? ⟨g, i, none⟩ = some (.string (F.getD i noText))) (_hs : ∀ x ∈ F, x.size ≤ 1048576) (hk : F.getD 0 noText = ⟨#[102, 105, 108, 108]⟩) (hn : F.length = 5) (h4 : (F.getD 4 noText).size ≠ 1) :
    Calls Tryz.prog 16 #[.slice (some ⟨g, 0, none⟩) F.length fc] w (CallPost w (none)) := by
  have b_rename : ((F.getD 0 noText).toList == [114, 101, 110, 97, 109, 101]) = false := tl_no (by rw [hk]; decide)
  have b_link : ((F.getD 0 noText).toList == [108, 105, 110, 107]) = false := tl_no (by rw [hk]; decide)
  have b_symlink : ((F.getD 0 noText).toList == [115, 121, 109, 108, 105, 110, 107]) = false := tl_no (by rw [hk]; decide)
  have b_append : ((F.getD 0 noText).toList == [97, 112, 112, 101, 110, 100]) = false := tl_no (by rw [hk]; decide)
  have b_write : ((F.getD 0 noText).toList == [119, 114, 105, 116, 101]) = false := tl_no (by rw [hk]; decide)
  have b_fill : ((F.getD 0 noText).toList == [102, 105, 108, 108]) = true := tl_yes hk
  have b_trunc : ((F.getD 0 noText).toList == [116, 114, 117, 110, 99]) = false := tl_no (by rw [hk]; decide)
  have b_read : ((F.getD 0 noText).toList == [114, 101, 97, 100]) = false := tl_no (by rw [hk]; decide)
  have cl0 := hc 0 (by omega)
  have cl4 := hc 4 (by omega)
  clear hc
  have hl4 : (((F.getD 4 noText).size : Int) == 1) = false := by rw [beq_eq_false_iff_ne]; omega
  clear hk
  generalize F.getD 0 noText = x0 at *
  generalize F.getD 4 noText = x4 at *
  have hg := lt_of_cell cl0
  have HC : Hid (Chg 0 0 w (w.alloc (.cells #[.int .i64 0, .string ⟨#[]⟩, .string ⟨#[]⟩, .int .i64 0, .int .i64 0, .int .i64 0, .string ⟨#[]⟩] 24))) := Chg.alloc (Chg.refl 0 0 w) _
  rw [hn]
  go_enter Tryz.func16, Tryz.ntmps16
  go_wp2
  exact bodyPost_ret (v := .tuple #[.agg (cCall ⟨0, 0, ⟨#[]⟩, ⟨#[]⟩, 0, 0, 0, ⟨#[]⟩, []⟩), .bool false]) (by simp [results, Tryz.results16, go_sem]) rfl ⟨⟨0, 0, ⟨#[]⟩, ⟨#[]⟩, 0, 0, 0, ⟨#[]⟩, []⟩, rfl, fun s' e => by (cases e), HC.out⟩

set_option maxRecDepth 20000 in
set_option maxHeartbeats 4000000 in
theorem long_nofill_low (w : World) (F : List ByteArray) (g fc : Nat) (hc : ∀ i, i < F.length → w.cell? ⟨g, i, none⟩ = some (.string (F.getD i noText))) (_hs : ∀ x ∈ F, x.size ≤ 1048576) (hk : F.getD 0 noText = ⟨#[102, 105, 108, 108]⟩) (hn : F.length = 5) (h4 : (F.getD 4 noText).size = 1) (h5 : chr (F.getD 4 noText) 0 < 97) :
    Calls Tryz.prog 16 #[.slice (some ⟨g, 0, none⟩) F.length fc] w (CallPost w (none)) := by
  have b_rename : ((F.getD 0 noText).toList == [114, 101, 110, 97, 109, 101]) = false := tl_no (by rw [hk]; decide)
  have b_link : ((F.getD 0 noText).toList == [108, 105, 110, 107]) = false := tl_no (by rw [hk]; decide)
  have b_symlink : ((F.getD 0 noText).toList == [115, 121, 109, 108, 105, 110, 107]) = false := tl_no (by rw [hk]; decide)
  have b_append : ((F.getD 0 noText).toList == [97, 112, 112, 101, 110, 100]) = false := tl_no (by rw [hk]; decide)
  have b_write : ((F.getD 0 noText).toList == [119, 114, 105, 116, 101]) = false := tl_no (by rw [hk]; decide)
  have b_fill : ((F.getD 0 noText).toList == [102, 105, 108, 108]) = true := tl_yes hk
  have b_trunc : ((F.getD 0 noText).toList == [116, 114, 117, 110, 99]) = false := tl_no (by rw [hk]; decide)
  have b_read : ((F.getD 0 noText).toList == [114, 101, 97, 100]) = false := tl_no (by rw [hk]; decide)
  have cl0 := hc 0 (by omega)
  have cl4 := hc 4 (by omega)
  clear hc
  have h40 : 0 < (F.getD 4 noText).size := by omega
  have hcs : (F.getD 4 noText)[0].toNat = chr (F.getD 4 noText) 0 := (chr_lt h40).symm
  have h4i : (0 : Int) < ((F.getD 4 noText).size : Int) := by omega
  clear hk
  generalize F.getD 0 noText = x0 at *
  generalize F.getD 4 noText = x4 at *
  have hg := lt_of_cell cl0
  have HC : Hid (Chg 0 0 w (w.alloc (.cells #[.int .i64 0, .string ⟨#[]⟩, .string ⟨#[]⟩, .int .i64 0, .int .i64 0, .int .i64 0, .string ⟨#[]⟩] 24))) := Chg.alloc (Chg.refl 0 0 w) _
  rw [hn]
  go_enter Tryz.func16, Tryz.ntmps16
  go_wp2
  exact bodyPost_ret (v := .tuple #[.agg (cCall ⟨0, 0, ⟨#[]⟩, ⟨#[]⟩, 0, 0, 0, ⟨#[]⟩, []⟩), .bool false]) (by simp [results, Tryz.results16, go_sem]) rfl ⟨⟨0, 0, ⟨#[]⟩, ⟨#[]⟩, 0, 0, 0, ⟨#[]⟩, []⟩, rfl, fun s' e => by (cases e), HC.out⟩

set_option maxRecDepth 20000 in
set_option maxHeartbeats 4000000 in
theorem long_nofill_high (w : World) (F : List ByteArray) (g fc : Nat) (hc : ∀ i, i < F.length → w.cell? ⟨g, i, none⟩ = some (.string (F.getD i noText))) (_hs : ∀ x ∈ F, x.size ≤ 1048576) (hk : F.getD 0 noText = ⟨#[102, 105, 108, 108]⟩) (hn : F.length = 5) (h4 : (F.getD 4 noText).size = 1) (h5 : 122 < chr (F.getD 4 noText) 0) :
    Calls Tryz.prog 16 #[.slice (some ⟨g, 0, none⟩) F.length fc] w (CallPost w (none)) := by
  have b_rename : ((F.getD 0 noText).toList == [114, 101, 110, 97, 109, 101]) = false := tl_no (by rw [hk]; decide)
  have b_link : ((F.getD 0 noText).toList == [108, 105, 110, 107]) = false := tl_no (by rw [hk]; decide)
  have b_symlink : ((F.getD 0 noText).toList == [115, 121, 109, 108, 105, 110, 107]) = false := tl_no (by rw [hk]; decide)
  have b_append : ((F.getD 0 noText).toList == [97, 112, 112, 101, 110, 100]) = false := tl_no (by rw [hk]; decide)
  have b_write : ((F.getD 0 noText).toList == [119, 114, 105, 116, 101]) = false := tl_no (by rw [hk]; decide)
  have b_fill : ((F.getD 0 noText).toList == [102, 105, 108, 108]) = true := tl_yes hk
  have b_trunc : ((F.getD 0 noText).toList == [116, 114, 117, 110, 99]) = false := tl_no (by rw [hk]; decide)
  have b_read : ((F.getD 0 noText).toList == [114, 101, 97, 100]) = false := tl_no (by rw [hk]; decide)
  have cl0 := hc 0 (by omega)
  have cl4 := hc 4 (by omega)
  clear hc
  have h40 : 0 < (F.getD 4 noText).size := by omega
  have hcs : (F.getD 4 noText)[0].toNat = chr (F.getD 4 noText) 0 := (chr_lt h40).symm
  have h4i : (0 : Int) < ((F.getD 4 noText).size : Int) := by omega
  clear hk
  generalize F.getD 0 noText = x0 at *
  generalize F.getD 4 noText = x4 at *
  have hg := lt_of_cell cl0
  have HC : Hid (Chg 0 0 w (w.alloc (.cells #[.int .i64 0, .string ⟨#[]⟩, .string ⟨#[]⟩, .int .i64 0, .int .i64 0, .int .i64 0, .string ⟨#[]⟩] 24))) := Chg.alloc (Chg.refl 0 0 w) _
  rw [hn]
  go_enter Tryz.func16, Tryz.ntmps16
  go_wp2
  exact bodyPost_ret (v := .tuple #[.agg (cCall ⟨0, 0, ⟨#[]⟩, ⟨#[]⟩, 0, 0, 0, ⟨#[]⟩, []⟩), .bool false]) (by simp [results, Tryz.results16, go_sem]) rfl ⟨⟨0, 0, ⟨#[]⟩, ⟨#[]⟩, 0, 0, 0, ⟨#[]⟩, []⟩, rfl, fun s' e => by (cases e), HC.out⟩

end Go.Proofs.YteaeikmgkmpkiaaGreatDoor
