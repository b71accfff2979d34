/- l14Long and l14Handled of the model at any fields. (made by tools/mkcalls.py) -/
import Derived.Test.YteaeikmgkmpkiaaGreatDoorLineLong2
import Derived.Test.YteaeikmgkmpkiaaGreatDoorLineFill
import Derived.Test.YteaeikmgkmpkiaaGreatDoorLineHan
import Derived.Test.YteaeikmgkmpkiaaGreatDoorLineHan2
import Derived.Test.YteaeikmgkmpkiaaGreatDoorLineF
namespace Go.Proofs.YteaeikmgkmpkiaaGreatDoor
open Go.RowKit Go.Lib

theorem long_calls (w : World) (F : List ByteArray) (g fc : Nat) (hc : ∀ i, i < F.length → w.cell? ⟨g, i, none⟩ = some (.string (F.getD i noText))) (hs : ∀ x ∈ F, x.size ≤ 1048576) (h1 : 1 ≤ F.length) :
    Calls Tryz.prog 16 #[.slice (some ⟨g, 0, none⟩) F.length fc] w (CallPost w (longF F)) := by
  by_cases k_rename : (F.getD 0 noText) = ⟨#[114, 101, 110, 97, 109, 101]⟩
  · by_cases hn : F.length = 3
    · have e : longF F = (some ⟨1, 5, (F.getD 1 noText), (F.getD 2 noText), 0, 0, 0, ⟨#[]⟩, []⟩) := by unfold longF; rw [if_pos k_rename, if_pos hn]
      rw [e]; exact long_rename w F g fc hc hs k_rename hn
    · have e : longF F = none := by unfold longF; rw [if_pos k_rename, if_neg hn]
      rw [e]; exact long_none_rename w F g fc hc hs k_rename h1 hn
  by_cases k_link : (F.getD 0 noText) = ⟨#[108, 105, 110, 107]⟩
  · by_cases hn : F.length = 3
    · have e : longF F = (some ⟨1, 9, (F.getD 1 noText), (F.getD 2 noText), 0, 0, 0, ⟨#[]⟩, []⟩) := by unfold longF; rw [if_neg k_rename, if_pos k_link, if_pos hn]
      rw [e]; exact long_link w F g fc hc hs k_link hn
    · have e : longF F = none := by unfold longF; rw [if_neg k_rename, if_pos k_link, if_neg hn]
      rw [e]; exact long_none_link w F g fc hc hs k_link h1 hn
  by_cases k_symlink : (F.getD 0 noText) = ⟨#[115, 121, 109, 108, 105, 110, 107]⟩
  · by_cases hn : F.length = 3
    · have e : longF F = (some ⟨1, 10, (F.getD 1 noText), (F.getD 2 noText), 0, 0, 0, ⟨#[]⟩, []⟩) := by unfold longF; rw [if_neg k_rename, if_neg k_link, if_pos k_symlink, if_pos hn]
      rw [e]; exact long_symlink w F g fc hc hs k_symlink hn
    · have e : longF F = none := by unfold longF; rw [if_neg k_rename, if_neg k_link, if_pos k_symlink, if_neg hn]
      rw [e]; exact long_none_symlink w F g fc hc hs k_symlink h1 hn
  by_cases k_append : (F.getD 0 noText) = ⟨#[97, 112, 112, 101, 110, 100]⟩
  · by_cases hn : F.length = 3
    · have e : longF F = ((unqD (F.getD 2 noText)).map fun d => (⟨1, 8, (F.getD 1 noText), ⟨#[]⟩, 0, 0, 0, d, []⟩ : Lst)) := by unfold longF; rw [if_neg k_rename, if_neg k_link, if_neg k_symlink, if_pos k_append, if_pos hn]
      rw [e]; exact long_append w F g fc hc hs k_append hn
    · have e : longF F = none := by unfold longF; rw [if_neg k_rename, if_neg k_link, if_neg k_symlink, if_pos k_append, if_neg hn]
      rw [e]; exact long_none_append w F g fc hc hs k_append h1 hn
  by_cases k_write : (F.getD 0 noText) = ⟨#[119, 114, 105, 116, 101]⟩
  · by_cases hn : F.length = 4
    · have e : longF F = ((numF (F.getD 2 noText)).bind fun n => (unqD (F.getD 3 noText)).map fun d => (⟨1, 6, (F.getD 1 noText), ⟨#[]⟩, 0, n, 0, d, []⟩ : Lst)) := by unfold longF; rw [if_neg k_rename, if_neg k_link, if_neg k_symlink, if_neg k_append, if_pos k_write, if_pos hn]
      rw [e]; exact long_write w F g fc hc hs k_write hn
    · have e : longF F = none := by unfold longF; rw [if_neg k_rename, if_neg k_link, if_neg k_symlink, if_neg k_append, if_pos k_write, if_neg hn]
      rw [e]; exact long_none_write w F g fc hc hs k_write h1 hn
  by_cases k_fill : (F.getD 0 noText) = ⟨#[102, 105, 108, 108]⟩
  · by_cases hn : F.length = 5
    · by_cases h4 : (F.getD 4 noText).size = 1
      · by_cases h5 : 97 ≤ chr (F.getD 4 noText) 0
        · by_cases h6 : chr (F.getD 4 noText) 0 ≤ 122
          · have e : longF F = ((numF (F.getD 2 noText)).bind fun n => (numF (F.getD 3 noText)).bind fun m => if 0 ≤ m ∧ m ≤ 3000 then some (⟨1, 6, (F.getD 1 noText), ⟨#[]⟩, 0, n, 0, (strOfNums (letL (chr (F.getD 4 noText) 0) m.toNat)), []⟩ : Lst) else none) := by unfold longF; rw [if_neg k_rename, if_neg k_link, if_neg k_symlink, if_neg k_append, if_neg k_write, if_pos k_fill, if_pos ⟨hn, h4, h5, h6⟩]
            rw [e]; exact long_fill w F g fc hc hs k_fill hn h4 h5 h6
          · have e : longF F = none := by unfold longF; rw [if_neg k_rename, if_neg k_link, if_neg k_symlink, if_neg k_append, if_neg k_write, if_pos k_fill, if_neg (fun h => h6 h.2.2.2)]
            rw [e]; exact long_nofill_high w F g fc hc hs k_fill hn h4 (by omega)
        · have e : longF F = none := by unfold longF; rw [if_neg k_rename, if_neg k_link, if_neg k_symlink, if_neg k_append, if_neg k_write, if_pos k_fill, if_neg (fun h => h5 h.2.2.1)]
          rw [e]; exact long_nofill_low w F g fc hc hs k_fill hn h4 (by omega)
      · have e : longF F = none := by unfold longF; rw [if_neg k_rename, if_neg k_link, if_neg k_symlink, if_neg k_append, if_neg k_write, if_pos k_fill, if_neg (fun h => h4 h.2.1)]
        rw [e]; exact long_nofill_size w F g fc hc hs k_fill hn h4
    · have e : longF F = none := by unfold longF; rw [if_neg k_rename, if_neg k_link, if_neg k_symlink, if_neg k_append, if_neg k_write, if_pos k_fill, if_neg (fun h => hn h.1)]
      rw [e]; exact long_none_fill w F g fc hc hs k_fill h1 hn
  by_cases k_trunc : (F.getD 0 noText) = ⟨#[116, 114, 117, 110, 99]⟩
  · by_cases hn : F.length = 3
    · have e : longF F = ((numF (F.getD 2 noText)).map fun n => (⟨1, 7, (F.getD 1 noText), ⟨#[]⟩, 0, 0, n, ⟨#[]⟩, []⟩ : Lst)) := by unfold longF; rw [if_neg k_rename, if_neg k_link, if_neg k_symlink, if_neg k_append, if_neg k_write, if_neg k_fill, if_pos k_trunc, if_pos hn]
      rw [e]; exact long_trunc w F g fc hc hs k_trunc hn
    · have e : longF F = none := by unfold longF; rw [if_neg k_rename, if_neg k_link, if_neg k_symlink, if_neg k_append, if_neg k_write, if_neg k_fill, if_pos k_trunc, if_neg hn]
      rw [e]; exact long_none_trunc w F g fc hc hs k_trunc h1 hn
  by_cases k_read : (F.getD 0 noText) = ⟨#[114, 101, 97, 100]⟩
  · by_cases hn : F.length = 4
    · have e : longF F = ((numF (F.getD 2 noText)).bind fun n => (numF (F.getD 3 noText)).map fun m => (⟨1, 17, (F.getD 1 noText), ⟨#[]⟩, 0, n, m, ⟨#[]⟩, []⟩ : Lst)) := by unfold longF; rw [if_neg k_rename, if_neg k_link, if_neg k_symlink, if_neg k_append, if_neg k_write, if_neg k_fill, if_neg k_trunc, if_pos k_read, if_pos hn]
      rw [e]; exact long_read w F g fc hc hs k_read hn
    · have e : longF F = none := by unfold longF; rw [if_neg k_rename, if_neg k_link, if_neg k_symlink, if_neg k_append, if_neg k_write, if_neg k_fill, if_neg k_trunc, if_pos k_read, if_neg hn]
      rw [e]; exact long_none_read w F g fc hc hs k_read h1 hn
  have e : longF F = none := by unfold longF; rw [if_neg k_rename, if_neg k_link, if_neg k_symlink, if_neg k_append, if_neg k_write, if_neg k_fill, if_neg k_trunc, if_neg k_read]
  rw [e]
  exact long_none_all w F g fc hc hs k_rename k_link k_symlink k_append k_write k_fill k_trunc k_read h1

theorem han_calls (w : World) (F : List ByteArray) (g fc : Nat) (hc : ∀ i, i < F.length → w.cell? ⟨g, i, none⟩ = some (.string (F.getD i noText))) (hs : ∀ x ∈ F, x.size ≤ 1048576) (h1 : 1 ≤ F.length) :
    Calls Tryz.prog 17 #[.slice (some ⟨g, 0, none⟩) F.length fc] w (CallPost w (hanF F)) := by
  by_cases k_close : (F.getD 0 noText) = ⟨#[99, 108, 111, 115, 101]⟩
  · by_cases hn : F.length = 2
    · have e : hanF F = ((numF (F.getD 1 noText)).map fun h => (⟨1, 13, ⟨#[]⟩, ⟨#[]⟩, h, 0, 0, ⟨#[]⟩, []⟩ : Lst)) := by unfold hanF; rw [if_pos k_close, if_pos hn]
      rw [e]; exact han_close w F g fc hc hs k_close hn
    · have e : hanF F = none := by unfold hanF; rw [if_pos k_close, if_neg hn]
      rw [e]; exact han_none_close w F g fc hc hs k_close h1 hn
  by_cases k_fstat : (F.getD 0 noText) = ⟨#[102, 115, 116, 97, 116]⟩
  · by_cases hn : F.length = 2
    · have e : hanF F = ((numF (F.getD 1 noText)).map fun h => (⟨1, 16, ⟨#[]⟩, ⟨#[]⟩, h, 0, 0, ⟨#[]⟩, []⟩ : Lst)) := by unfold hanF; rw [if_neg k_close, if_pos k_fstat, if_pos hn]
      rw [e]; exact han_fstat w F g fc hc hs k_fstat hn
    · have e : hanF F = none := by unfold hanF; rw [if_neg k_close, if_pos k_fstat, if_neg hn]
      rw [e]; exact han_none_fstat w F g fc hc hs k_fstat h1 hn
  by_cases k_ftrunc : (F.getD 0 noText) = ⟨#[102, 116, 114, 117, 110, 99]⟩
  · by_cases hn : F.length = 3
    · have e : hanF F = ((numF (F.getD 1 noText)).bind fun h => (numF (F.getD 2 noText)).map fun n => (⟨1, 12, ⟨#[]⟩, ⟨#[]⟩, h, 0, n, ⟨#[]⟩, []⟩ : Lst)) := by unfold hanF; rw [if_neg k_close, if_neg k_fstat, if_pos k_ftrunc, if_pos hn]
      rw [e]; exact han_ftrunc w F g fc hc hs k_ftrunc hn
    · have e : hanF F = none := by unfold hanF; rw [if_neg k_close, if_neg k_fstat, if_pos k_ftrunc, if_neg hn]
      rw [e]; exact han_none_ftrunc w F g fc hc hs k_ftrunc h1 hn
  by_cases k_pread : (F.getD 0 noText) = ⟨#[112, 114, 101, 97, 100]⟩
  · by_cases hn : F.length = 4
    · have e : hanF F = ((numF (F.getD 1 noText)).bind fun h => (numF (F.getD 2 noText)).bind fun n => (numF (F.getD 3 noText)).map fun m => (⟨1, 15, ⟨#[]⟩, ⟨#[]⟩, h, n, m, ⟨#[]⟩, []⟩ : Lst)) := by unfold hanF; rw [if_neg k_close, if_neg k_fstat, if_neg k_ftrunc, if_pos k_pread, if_pos hn]
      rw [e]; exact han_pread w F g fc hc hs k_pread hn
    · have e : hanF F = none := by unfold hanF; rw [if_neg k_close, if_neg k_fstat, if_neg k_ftrunc, if_pos k_pread, if_neg hn]
      rw [e]; exact han_none_pread w F g fc hc hs k_pread h1 hn
  by_cases k_pwrite : (F.getD 0 noText) = ⟨#[112, 119, 114, 105, 116, 101]⟩
  · by_cases hn : F.length = 4
    · have e : hanF F = ((numF (F.getD 1 noText)).bind fun h => (numF (F.getD 2 noText)).bind fun n => (unqD (F.getD 3 noText)).map fun d => (⟨1, 11, ⟨#[]⟩, ⟨#[]⟩, h, n, 0, d, []⟩ : Lst)) := by unfold hanF; rw [if_neg k_close, if_neg k_fstat, if_neg k_ftrunc, if_neg k_pread, if_pos k_pwrite, if_pos hn]
      rw [e]; exact han_pwrite w F g fc hc hs k_pwrite hn
    · have e : hanF F = none := by unfold hanF; rw [if_neg k_close, if_neg k_fstat, if_neg k_ftrunc, if_neg k_pread, if_pos k_pwrite, if_neg hn]
      rw [e]; exact han_none_pwrite w F g fc hc hs k_pwrite h1 hn
  have e : hanF F = none := by unfold hanF; rw [if_neg k_close, if_neg k_fstat, if_neg k_ftrunc, if_neg k_pread, if_neg k_pwrite]
  rw [e]
  exact han_none_all w F g fc hc hs k_close k_fstat k_ftrunc k_pread k_pwrite h1

theorem longF_line {F : List ByteArray} {s : Lst} (h : longF F = some s) : s.kind = 1 ∧ s.nums = [] := by
  unfold longF at h
  split at h
  · split at h
    · injection h with h; subst h; exact ⟨rfl, rfl⟩
    · cases h
  split at h
  · split at h
    · injection h with h; subst h; exact ⟨rfl, rfl⟩
    · cases h
  split at h
  · split at h
    · injection h with h; subst h; exact ⟨rfl, rfl⟩
    · cases h
  split at h
  · split at h
    · obtain ⟨_, _, rfl⟩ := Option.map_eq_some_iff.1 h; exact ⟨rfl, rfl⟩
    · cases h
  split at h
  · split at h
    · obtain ⟨_, _, h⟩ := Option.bind_eq_some_iff.1 h; obtain ⟨_, _, rfl⟩ := Option.map_eq_some_iff.1 h; exact ⟨rfl, rfl⟩
    · cases h
  split at h
  · split at h
    · obtain ⟨_, _, h⟩ := Option.bind_eq_some_iff.1 h; obtain ⟨_, _, h⟩ := Option.bind_eq_some_iff.1 h; split at h; { injection h with h; subst h; exact ⟨rfl, rfl⟩ }; { cases h }
    · cases h
  split at h
  · split at h
    · obtain ⟨_, _, rfl⟩ := Option.map_eq_some_iff.1 h; exact ⟨rfl, rfl⟩
    · cases h
  split at h
  · split at h
    · obtain ⟨_, _, h⟩ := Option.bind_eq_some_iff.1 h; obtain ⟨_, _, rfl⟩ := Option.map_eq_some_iff.1 h; exact ⟨rfl, rfl⟩
    · cases h
  cases h
theorem hanF_line {F : List ByteArray} {s : Lst} (h : hanF F = some s) : s.kind = 1 ∧ s.nums = [] := by
  unfold hanF at h
  split at h
  · split at h
    · obtain ⟨_, _, rfl⟩ := Option.map_eq_some_iff.1 h; exact ⟨rfl, rfl⟩
    · cases h
  split at h
  · split at h
    · obtain ⟨_, _, rfl⟩ := Option.map_eq_some_iff.1 h; exact ⟨rfl, rfl⟩
    · cases h
  split at h
  · split at h
    · obtain ⟨_, _, h⟩ := Option.bind_eq_some_iff.1 h; obtain ⟨_, _, rfl⟩ := Option.map_eq_some_iff.1 h; exact ⟨rfl, rfl⟩
    · cases h
  split at h
  · split at h
    · obtain ⟨_, _, h⟩ := Option.bind_eq_some_iff.1 h; obtain ⟨_, _, h⟩ := Option.bind_eq_some_iff.1 h; obtain ⟨_, _, rfl⟩ := Option.map_eq_some_iff.1 h; exact ⟨rfl, rfl⟩
    · cases h
  split at h
  · split at h
    · obtain ⟨_, _, h⟩ := Option.bind_eq_some_iff.1 h; obtain ⟨_, _, h⟩ := Option.bind_eq_some_iff.1 h; obtain ⟨_, _, rfl⟩ := Option.map_eq_some_iff.1 h; exact ⟨rfl, rfl⟩
    · cases h
  cases h

end Go.Proofs.YteaeikmgkmpkiaaGreatDoor
