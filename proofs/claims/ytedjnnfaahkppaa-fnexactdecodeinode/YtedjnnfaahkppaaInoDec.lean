/- DecodeInode of the model. -/
import Derived.Test.YtedjnnfaahkppaaInoEnc
import Derived.Test.YtedjnnfaahkppaaViewPart
import Derived.Test.YtedjnnfaahkppaaByt
namespace Go.Proofs.Ytedjnnfaahkppaa
open Go.RowKit

/-- The number at place k. -/
def gp (xs : List Int) (k : Nat) : Int := getN ((xs.drop k).take 2)
def dirOf (xs : List Int) (n : Nat) : List Int := (List.range n).map fun k => gp xs (4 + 2 * k)
def inoOf (xs : List Int) : Ino := ⟨xs.getD 0 0, xs.getD 1 0, gp xs 2, dirOf xs 8, gp xs 20⟩
def inoG (xs : List Int) : Bool := decide (xs.length = 32) && decide (encIno (inoOf xs) = xs)
/-- The inode that DecodeInode tells. -/
def decI (xs : List Int) : Ino := if inoG xs = true then inoOf xs else ⟨0, 0, 0, [], 0⟩
def irV (g : Bool) (i : Ino) (v : Value) : Value := .agg #[.bool g, .int .i64 i.kind, .int .i64 i.links, .int .i64 i.size, v, .int .i64 i.ind]

theorem dirOf_len (xs : List Int) (n : Nat) : (dirOf xs n).length = n := by simp [dirOf]
theorem dirOf_succ (xs : List Int) (n : Nat) : dirOf xs (n + 1) = dirOf xs n ++ [gp xs (4 + 2 * n)] := by simp [dirOf, List.range_succ]
theorem decI_len (xs : List Int) : (decI xs).dir.length ≤ 8 := by
  unfold decI
  split
  · show (dirOf xs 8).length ≤ 8; rw [dirOf_len]; exact Nat.le_refl _
  · simp

theorem Byt.piece {xs : List Int} (h : Byt xs) (k n : Nat) : Byt ((xs.drop k).take n) := fun x hx => h x (List.mem_of_mem_drop (List.mem_of_mem_take hx))

theorem encIno_byt (i : Ino) : Byt (encIno i) := by
  unfold encIno
  split
  · rename_i h
    have hg := ino_good h
    intro x hx
    unfold inoL at hx
    simp only [List.mem_append] at hx
    rcases hx with (((hx | hx) | hx) | hx) | hx
    · simp at hx; rcases hx with rfl | rfl <;> omega
    · exact putN_byt _ _ x hx
    · unfold putAll at hx
      obtain ⟨l, hl, hx⟩ := List.mem_flatten.1 hx
      obtain ⟨y, _, rfl⟩ := List.mem_map.1 hl
      exact putN_byt _ _ x hx
    · exact putN_byt _ _ x hx
    · rw [List.eq_of_mem_replicate hx]; omega
  · intro x hx; cases hx

theorem six_all {w : World} {s : Nat} {a b c d e f : Value} {t : TypeId} (h : w.heap[s]? = some (.cells #[a, b, c, d, e, f] t (0, 0))) :
    (w.cell? ⟨s, 0, none⟩ = some a ∧ w.cell? ⟨s, 1, none⟩ = some b ∧ w.cell? ⟨s, 2, none⟩ = some c ∧ w.cell? ⟨s, 3, none⟩ = some d ∧ w.cell? ⟨s, 4, none⟩ = some e ∧ w.cell? ⟨s, 5, none⟩ = some f) ∧
      w.frozen? ⟨s, 0, none⟩ = false ∧ w.frozen? ⟨s, 1, none⟩ = false ∧ w.frozen? ⟨s, 2, none⟩ = false ∧ w.frozen? ⟨s, 3, none⟩ = false ∧ w.frozen? ⟨s, 4, none⟩ = false ∧ w.frozen? ⟨s, 5, none⟩ = false := by
  simp [World.cell?, World.frozen?, h]

theorem wrap_b {x : Int} (h0 : 0 ≤ x) (h1 : x < 1000000) : IntKind.i64.wrap x = x := by
  unfold IntKind.wrap
  simp [IntKind.bits, IntKind.signed]
  omega

/-- The inode's cell, made. -/
def InoMade (w0 W : World) : Prop := Chg 0 0 w0 W ∧ w0.heap.size < W.heap.size ∧ W.heap[w0.heap.size]? = some (.cells #[.int .i64 0, .int .i64 0, .int .i64 0, .slice none 0 0, .int .i64 0] 25 (0, 0))

theorem ino_alloc {w0 W : World} (h : Same w0 W) : InoMade w0 (W.alloc (.cells #[.int .i64 0, .int .i64 0, .int .i64 0, .slice none 0 0, .int .i64 0] 25)) := by
  have hs : W.heap.size = w0.heap.size := by rw [h.heap]
  have hb := heap_new W (.cells #[.int .i64 0, .int .i64 0, .int .i64 0, .slice none 0 0, .int .i64 0] 25)
  rw [hs] at hb
  exact ⟨(h.chg 0 0).trans (Chg.alloc (Chg.refl 0 0 W) _), by simp [hs], hb⟩

theorem int_own (W : World) (base : Nat) (a : Int) (hb : base ≤ W.heap.size) : OwnI (W.alloc (.cells #[.int .i64 a] 2)) base 2 (.slice (some ⟨W.heap.size, 0, none⟩) 1 1) [a] := by
  have := World.ownsRow_lit (base := base) (e := 2) (size := 1) W #[.int .i64 a] 1 hb (by unfold maxLen; omega) rfl
  unfold OwnI
  simpa using this

theorem fill_int (A : Array Value) (hr : A.size = 1) (a : Int) (k : IntKind) : Instr.fill (fun i => some (i * 1, 1)) A [(0, .int k a)] = some #[.int k a] := by
  obtain ⟨l⟩ := A
  match l, hr with
  | [x], _ => simp [Instr.fill, Value.cells]

theorem OwnI.sl {w : World} {base : Nat} {e : TypeId} {v : Value} {xs : List Int} (h : OwnI w base e v xs) : ∃ a c, v = .slice a xs.length c := by
  rcases h.2 with ⟨rfl, h0⟩ | ⟨g, cap, cur, rfl, _⟩
  · exact ⟨Option.none, 0, by rw [h0]⟩
  · exact ⟨_, _, rfl⟩

set_option maxRecDepth 20000 in
set_option maxHeartbeats 8000000 in
theorem specDecInode_calls (w : World) {lo hi : Nat} {a : Value} {xs : List Int} (hv : View w lo hi .u8 a xs) (hB : Byt xs) :
    Calls Try.prog 4 #[a] w fun e w' => ∃ v, e = .returned (irV (inoG xs) (decI xs) v) ∧ OwnI w' w.heap.size 2 v (decI xs).dir ∧ Chg 0 0 w w' := by
  obtain ⟨ao, cap, rfl, hle, ⟨hcp, _⟩, hcell⟩ := hv
  have C0 : Chg 0 0 w (w.alloc (.cells #[.bool false, .int .i64 0, .int .i64 0, .int .i64 0, .slice none 0 0, .int .i64 0] 27)) := Chg.alloc (Chg.refl 0 0 w) _
  have B0 := heap_new w (.cells #[.bool false, .int .i64 0, .int .i64 0, .int .i64 0, .slice none 0 0, .int .i64 0] 27)
  have s0 : (w.alloc (.cells #[.bool false, .int .i64 0, .int .i64 0, .int .i64 0, .slice none 0 0, .int .i64 0] 27)).heap.size = w.heap.size + 1 := by simp
  have HB : Hid ((w.alloc (.cells #[.bool false, .int .i64 0, .int .i64 0, .int .i64 0, .slice none 0 0, .int .i64 0] 27)).heap[w.heap.size]? = some (.cells #[.bool false, .int .i64 0, .int .i64 0, .int .i64 0, .slice none 0 0, .int .i64 0] 27 (0, 0))) := B0
  have HC : Hid (Chg 0 0 w (w.alloc (.cells #[.bool false, .int .i64 0, .int .i64 0, .int .i64 0, .slice none 0 0, .int .i64 0] 27))) := C0
  clear C0 B0
  by_cases h32 : xs.length = 32
  case neg =>
    have HE : Hid (inoG xs = false ∧ decI xs = ⟨0, 0, 0, [], 0⟩) := by
      have h : inoG xs = false := by unfold inoG; rw [decide_eq_false h32, Bool.false_and]
      exact ⟨h, by unfold decI; rw [if_neg (by rw [h]; decide)]⟩
    have hne : ((xs.length : Int) != 32) = true := by simp; omega
    go_enter Try.func4, Try.ntmps4
    go_wp2
    exact bodyPost_ret (v := irV false ⟨0, 0, 0, [], 0⟩ (.slice none 0 0)) (by simp [results, Try.results4, go_sem, irV]) rfl ⟨_, by rw [HE.out.1, HE.out.2], by rw [HE.out.2]; exact ⟨rfl, Or.inl ⟨rfl, rfl⟩⟩, by first | exact HC.out | (refine Chg.setCell (Chg.setCell (Chg.setCell (Chg.setCell (Chg.setCell (Chg.setCell HC.out ?_ _) ?_ _) ?_ _) ?_ _) ?_ _) ?_ _ <;> exact Or.inr (Nat.le_refl _))⟩
  obtain ⟨b, off, rfl, hlo, hhi, hcl⟩ := hcell.resolve_left (fun h => by rw [h] at h32; cases h32)
  have H32 : Hid (xs.length = 32) := h32
  have HBy : Hid (Byt xs) := hB
  have hx0 : 0 ≤ xs.getD 0 0 ∧ xs.getD 0 0 < 256 := hB _ (by rw [List.getD_eq_getElem?_getD, List.getElem?_eq_getElem (by omega)]; exact List.getElem_mem _)
  have hx1 : 0 ≤ xs.getD 1 0 ∧ xs.getD 1 0 < 256 := hB _ (by rw [List.getD_eq_getElem?_getD, List.getElem?_eq_getElem (by omega)]; exact List.getElem_mem _)
  have HV1 : Hid (View w 0 w.heap.size .u8 (.slice (some ⟨b, off, none⟩) xs.length cap) xs) := ⟨_, cap, rfl, hle, ⟨hcp, fun h => by cases h⟩, Or.inr ⟨b, off, rfl, Nat.zero_le _, lt_of_cell (hcl 0 (by omega)), hcl⟩⟩
  have hne : ((xs.length : Int) != 32) = false := by rw [h32]; rfl
  have HD : Hid (inoOf xs = ⟨xs.getD 0 0, xs.getD 1 0, gp xs 2, dirOf xs 8, gp xs 20⟩) := rfl
  rw [h32] at HV1 hcp
  rw [h32]
  have HGet : Hid (∀ (W : World) (k : Nat), k + 2 ≤ 32 → View W 0 w.heap.size .u8 (.slice (some ⟨b, off, none⟩) 32 cap) xs → Calls Try.prog 12 #[.slice (some ⟨b, off + k, none⟩) 2 (cap - k)] W fun e w' => e = .returned (.int .i64 (gp xs k)) ∧ Same W w') :=
    fun W k hk hW => specGet_calls W (HBy.out.piece k 2) (View.part (n := 2) (by rw [H32.out]; exact hW) (by rw [H32.out]; omega) (by omega) (cap - k) (by omega))
  have q4 : (4 : Int) ≤ (cap : Int) := by omega
  have q22 : (22 : Int) ≤ (cap : Int) := by omega
  have q2' : ¬ cap = 2 := by omega
  have q20' : ¬ cap = 20 := by omega
  have hw0 : IntKind.i64.wrap (xs.getD 0 0) = xs.getD 0 0 := wrap_b hx0.1 (by omega)
  have hw1 : IntKind.i64.wrap (xs.getD 1 0) = xs.getD 1 0 := wrap_b hx1.1 (by omega)
  have HCl : Hid (∀ (W : World), View W 0 w.heap.size .u8 (.slice (some ⟨b, off, none⟩) 32 cap) xs → W.cell? ⟨b, off, none⟩ = some (.int .u8 (xs.getD 0 0)) ∧ W.cell? ⟨b, off + 1, none⟩ = some (.int .u8 (xs.getD 1 0))) := by
    intro W hW
    obtain ⟨_, _, e1, _, _, e2⟩ := hW
    simp only [Value.slice.injEq] at e1
    obtain ⟨b', off', e3, _, _, e4⟩ := e2.resolve_left (fun h => by have := H32.out; rw [h] at this; cases this)
    rw [← e1.1] at e3
    cases e3
    exact ⟨e4 0 (by have := H32.out; omega), e4 1 (by have := H32.out; omega)⟩
  clear hcell hcl hB h32 hne
  go_enter Try.func4, Try.ntmps4
  go_upto_region 3 with fail
  generalize w.alloc (.cells #[.bool false, .int .i64 0, .int .i64 0, .int .i64 0, .slice none 0 0, .int .i64 0] 27) = w0 at *
  go_cut [3] (fun s3 wx => s3 = .pointer (some ⟨w.heap.size + 1, 0, none⟩) ∧ Chg 0 0 w0 wx ∧ w.heap.size + 1 < wx.heap.size ∧ wx.heap[w.heap.size + 1]? = some (.cells #[.int .i64 (xs.getD 0 0), .int .i64 (xs.getD 1 0), .int .i64 (gp xs 2), .slice none 0 0, .int .i64 (gp xs 20)] 25 (0, 0)))
  case first =>
    have HG2 : Hid (∀ W, View W 0 w.heap.size .u8 (.slice (some ⟨b, off, none⟩) 32 cap) xs → Calls Try.prog 12 #[.slice (some ⟨b, off + 2, none⟩) 2 (cap - 2)] W fun e w' => e = .returned (.int .i64 (gp xs 2)) ∧ Same W w') := fun W h => HGet.out W 2 (by omega) h
    have HG20 : Hid (∀ W, View W 0 w.heap.size .u8 (.slice (some ⟨b, off, none⟩) 32 cap) xs → Calls Try.prog 12 #[.slice (some ⟨b, off + 20, none⟩) 2 (cap - 20)] W fun e w' => e = .returned (.int .i64 (gp xs 20)) ∧ Same W w') := fun W h => HGet.out W 20 (by omega) h
    clear HGet HD
    generalize gp xs 2 = zz at *
    generalize gp xs 20 = nn at *
    generalize xs.getD 0 0 = kk at *
    generalize xs.getD 1 0 = ll at *
    have HS0 : Hid ((fun w' : World => View w' 0 w.heap.size .u8 (.slice (some ⟨b, off, none⟩) 32 cap) xs) w0.drew) := (HV1.out.chg HC.out (by omega)).chg (Chg.drew (Chg.refl 0 0 w0)) (by omega)
    have S0 : Same w0 w0.drew := (Same.refl w0).drew
    refine held_region (fun w' : World => View w' 0 w.heap.size .u8 (.slice (some ⟨b, off, none⟩) 32 cap) xs) (by kernel_rfl) ?_
    generalize w0.drew = wd at *
    refine held_take 0 (.slice (some ⟨b, off, none⟩) 32 cap) rfl (by kernel_rfl) (by kernel_rfl) (by kernel_rfl) (fun _ _ _ h => h) (.inl ⟨by kernel_rfl, fun w' hw' => by go_simp⟩) HS0.out ?_
    go_simp
    refine held_take 1 (.pointer (some ⟨b, off, none⟩)) rfl (by kernel_rfl) (by kernel_rfl) (by kernel_rfl) (fun _ _ _ h => h) (.inl ⟨by kernel_rfl, fun w' hw' => by go_simp⟩) HS0.out ?_
    go_simp
    refine held_take 2 (.int .u8 kk) rfl (by kernel_rfl) (by kernel_rfl) (by kernel_rfl) (fun _ _ _ h => h) (.inl ⟨by kernel_rfl, fun w' hw' => by obtain ⟨h4, h5⟩ := HCl.out _ hw'; go_simp⟩) HS0.out ?_
    go_simp
    refine held_take 3 (.int .i64 kk) rfl (by kernel_rfl) (by kernel_rfl) (by kernel_rfl) (fun _ _ _ h => h) (.inl ⟨by kernel_rfl, fun w' hw' => by go_simp⟩) HS0.out ?_
    go_simp
    refine held_take 4 (.slice (some ⟨b, off, none⟩) 32 cap) rfl (by kernel_rfl) (by kernel_rfl) (by kernel_rfl) (fun _ _ _ h => h) (.inl ⟨by kernel_rfl, fun w' hw' => by go_simp⟩) HS0.out ?_
    go_simp
    refine held_take 5 (.pointer (some ⟨b, off + 1, none⟩)) rfl (by kernel_rfl) (by kernel_rfl) (by kernel_rfl) (fun _ _ _ h => h) (.inl ⟨by kernel_rfl, fun w' hw' => by go_simp⟩) HS0.out ?_
    go_simp
    refine held_take 6 (.int .u8 ll) rfl (by kernel_rfl) (by kernel_rfl) (by kernel_rfl) (fun _ _ _ h => h) (.inl ⟨by kernel_rfl, fun w' hw' => by obtain ⟨h4, h5⟩ := HCl.out _ hw'; go_simp⟩) HS0.out ?_
    go_simp
    refine held_take 7 (.int .i64 ll) rfl (by kernel_rfl) (by kernel_rfl) (by kernel_rfl) (fun _ _ _ h => h) (.inl ⟨by kernel_rfl, fun w' hw' => by go_simp⟩) HS0.out ?_
    go_simp
    refine held_take 8 (.slice (some ⟨b, off, none⟩) 32 cap) rfl (by kernel_rfl) (by kernel_rfl) (by kernel_rfl) (fun _ _ _ h => h) (.inl ⟨by kernel_rfl, fun w' hw' => by go_simp⟩) HS0.out ?_
    go_simp
    refine held_take 9 (.slice (some ⟨b, off + 2, none⟩) 2 (cap - 2)) rfl (by kernel_rfl) (by kernel_rfl) (by kernel_rfl) (fun _ _ _ h => h) (.inl ⟨by kernel_rfl, fun w' hw' => by go_simp⟩) HS0.out ?_
    go_simp
    refine held_take 11 (.slice (some ⟨b, off, none⟩) 32 cap) rfl (by kernel_rfl) (by kernel_rfl) (by kernel_rfl) (fun _ _ _ h => h) (.inl ⟨by kernel_rfl, fun w' hw' => by go_simp⟩) HS0.out ?_
    go_simp
    refine held_take 12 (.slice (some ⟨b, off + 20, none⟩) 2 (cap - 20)) rfl (by kernel_rfl) (by kernel_rfl) (by kernel_rfl) (fun _ _ _ h => h) (.inl ⟨by kernel_rfl, fun w' hw' => by go_simp⟩) HS0.out ?_
    go_simp
    refine held_two 10 15 rfl rfl rfl rfl (by kernel_rfl) ?_ ?_
    · refine wp_enter 12 #[.slice (some ⟨b, off + 2, none⟩) 2 (cap - 2)] (by first | kernel_rfl | go_simp) (HG2.out wd HS0.out) ?_
      rintro e wdc ⟨rfl, twdc⟩
      have HSwdc : Hid ((fun w' : World => View w' 0 w.heap.size .u8 (.slice (some ⟨b, off, none⟩) 32 cap) xs) wdc) := HS0.out.chg (twdc.chg 0 0) (by omega)
      refine ⟨_, rfl, HSwdc.out, ?_⟩
      go_simp
      have Fwdc : Same w0 wdc := S0.trans twdc
      refine held_two 13 15 rfl rfl rfl rfl (by kernel_rfl) ?_ ?_
      · refine wp_enter 12 #[.slice (some ⟨b, off + 20, none⟩) 2 (cap - 20)] (by first | kernel_rfl | go_simp) (HG20.out wdc HSwdc.out) ?_
        rintro e wdcc ⟨rfl, twdcc⟩
        have HSwdcc : Hid ((fun w' : World => View w' 0 w.heap.size .u8 (.slice (some ⟨b, off, none⟩) 32 cap) xs) wdcc) := HSwdc.out.chg (twdcc.chg 0 0) (by omega)
        refine ⟨_, rfl, HSwdcc.out, ?_⟩
        go_simp
        have Fwdcc : Same w0 wdcc := Fwdc.trans twdcc
        refine held_take 14 (.agg #[.int .i64 kk, .int .i64 ll, .int .i64 zz, .slice none 0 0, .int .i64 nn]) rfl (by kernel_rfl) (by kernel_rfl) (by kernel_rfl) (fun _ _ _ h => h) (.inl ⟨by kernel_rfl, fun w' hw' => by go_simp⟩) HSwdcc.out ?_
        go_simp
        refine held_one 15 rfl rfl (by kernel_rfl) ?_
        have Gwdcca : InoMade w0 (wdcc.alloc (.cells #[.int .i64 0, .int .i64 0, .int .i64 0, .slice none 0 0, .int .i64 0] 25)) := ino_alloc Fwdcc
        have HSwdcca : Hid ((fun w' : World => View w' 0 w.heap.size .u8 (.slice (some ⟨b, off, none⟩) 32 cap) xs) (wdcc.alloc (.cells #[.int .i64 0, .int .i64 0, .int .i64 0, .slice none 0 0, .int .i64 0] 25))) := HSwdcc.out.chg (Chg.alloc (Chg.refl 0 0 wdcc) _) (by omega)
        have ewdcca : wdcc.heap.size = w0.heap.size := by rw [Fwdcc.heap]
        go_simp
        clear ewdcca
        generalize wdcc.alloc (.cells #[.int .i64 0, .int .i64 0, .int .i64 0, .slice none 0 0, .int .i64 0] 25) = wdcca at *
        refine ⟨HSwdcca.out, ?_⟩
        refine held_one 16 rfl rfl (by kernel_rfl) ?_
        refine wp_store_row 25 (.tmp 3) (.tmp 23) rfl rfl (w.heap.size + 1) rfl [.int .i64 kk, .int .i64 ll, .int .i64 zz, .slice none 0 0, .int .i64 nn] [.int .i64 0, .int .i64 0, .int .i64 0, .slice none 0 0, .int .i64 0] 25 rfl (by rw [← s0]; exact Gwdcca.2.2) rfl (by kernel_rfl) (by simp [Value.oneCell']) ?_
        intro wy hy cy
        have HSy : Hid ((fun w' : World => View w' 0 w.heap.size .u8 (.slice (some ⟨b, off, none⟩) 32 cap) xs) wy) := HSwdcca.out.chg cy (by omega)
        have HR : Hid (Chg 0 0 w0 wy ∧ w.heap.size + 1 < wy.heap.size ∧ wy.heap[w.heap.size + 1]? = some (.cells #[.int .i64 kk, .int .i64 ll, .int .i64 zz, .slice none 0 0, .int .i64 nn] 25 (0, 0))) := ⟨Gwdcca.1.step cy (by omega), by have := cy.size; have := Gwdcca.2.1; omega, hy⟩
        clear hy cy
        refine ⟨HSy.out, held_done (by kernel_rfl) (NoPanic.normal ?_)⟩
        go_wp2
        go_meet
        exact ⟨rfl, HR.out⟩
      · have Gwdca : InoMade w0 (wdc.alloc (.cells #[.int .i64 0, .int .i64 0, .int .i64 0, .slice none 0 0, .int .i64 0] 25)) := ino_alloc Fwdc
        have HSwdca : Hid ((fun w' : World => View w' 0 w.heap.size .u8 (.slice (some ⟨b, off, none⟩) 32 cap) xs) (wdc.alloc (.cells #[.int .i64 0, .int .i64 0, .int .i64 0, .slice none 0 0, .int .i64 0] 25))) := HSwdc.out.chg (Chg.alloc (Chg.refl 0 0 wdc) _) (by omega)
        have ewdca : wdc.heap.size = w0.heap.size := by rw [Fwdc.heap]
        go_simp
        clear ewdca
        generalize wdc.alloc (.cells #[.int .i64 0, .int .i64 0, .int .i64 0, .slice none 0 0, .int .i64 0] 25) = wdca at *
        refine ⟨HSwdca.out, ?_⟩
        refine held_one 13 rfl rfl (by kernel_rfl) ?_
        refine wp_enter 12 #[.slice (some ⟨b, off + 20, none⟩) 2 (cap - 20)] (by first | kernel_rfl | go_simp) (HG20.out wdca HSwdca.out) ?_
        rintro e wdcac ⟨rfl, twdcac⟩
        have HSwdcac : Hid ((fun w' : World => View w' 0 w.heap.size .u8 (.slice (some ⟨b, off, none⟩) 32 cap) xs) wdcac) := HSwdca.out.chg (twdcac.chg 0 0) (by omega)
        refine ⟨_, rfl, HSwdcac.out, ?_⟩
        go_simp
        have Fwdcac : InoMade w0 wdcac := ⟨Gwdca.1.trans (twdcac.chg 0 0), by rw [twdcac.heap]; exact Gwdca.2.1, by rw [twdcac.heap]; exact Gwdca.2.2⟩
        refine held_take 14 (.agg #[.int .i64 kk, .int .i64 ll, .int .i64 zz, .slice none 0 0, .int .i64 nn]) rfl (by kernel_rfl) (by kernel_rfl) (by kernel_rfl) (fun _ _ _ h => h) (.inl ⟨by kernel_rfl, fun w' hw' => by go_simp⟩) HSwdcac.out ?_
        go_simp
        refine held_one 16 rfl rfl (by kernel_rfl) ?_
        refine wp_store_row 25 (.tmp 3) (.tmp 23) rfl rfl (w.heap.size + 1) rfl [.int .i64 kk, .int .i64 ll, .int .i64 zz, .slice none 0 0, .int .i64 nn] [.int .i64 0, .int .i64 0, .int .i64 0, .slice none 0 0, .int .i64 0] 25 rfl (by rw [← s0]; exact Fwdcac.2.2) rfl (by kernel_rfl) (by simp [Value.oneCell']) ?_
        intro wy hy cy
        have HSy : Hid ((fun w' : World => View w' 0 w.heap.size .u8 (.slice (some ⟨b, off, none⟩) 32 cap) xs) wy) := HSwdcac.out.chg cy (by omega)
        have HR : Hid (Chg 0 0 w0 wy ∧ w.heap.size + 1 < wy.heap.size ∧ wy.heap[w.heap.size + 1]? = some (.cells #[.int .i64 kk, .int .i64 ll, .int .i64 zz, .slice none 0 0, .int .i64 nn] 25 (0, 0))) := ⟨Fwdcac.1.step cy (by omega), by have := cy.size; have := Fwdcac.2.1; omega, hy⟩
        clear hy cy
        refine ⟨HSy.out, held_done (by kernel_rfl) (NoPanic.normal ?_)⟩
        go_wp2
        go_meet
        exact ⟨rfl, HR.out⟩
    · have Gwda : InoMade w0 (wd.alloc (.cells #[.int .i64 0, .int .i64 0, .int .i64 0, .slice none 0 0, .int .i64 0] 25)) := ino_alloc S0
      have HSwda : Hid ((fun w' : World => View w' 0 w.heap.size .u8 (.slice (some ⟨b, off, none⟩) 32 cap) xs) (wd.alloc (.cells #[.int .i64 0, .int .i64 0, .int .i64 0, .slice none 0 0, .int .i64 0] 25))) := HS0.out.chg (Chg.alloc (Chg.refl 0 0 wd) _) (by omega)
      have ewda : wd.heap.size = w0.heap.size := by rw [S0.heap]
      go_simp
      clear ewda
      generalize wd.alloc (.cells #[.int .i64 0, .int .i64 0, .int .i64 0, .slice none 0 0, .int .i64 0] 25) = wda at *
      refine ⟨HSwda.out, ?_⟩
      refine held_one 10 rfl rfl (by kernel_rfl) ?_
      refine wp_enter 12 #[.slice (some ⟨b, off + 2, none⟩) 2 (cap - 2)] (by first | kernel_rfl | go_simp) (HG2.out wda HSwda.out) ?_
      rintro e wdac ⟨rfl, twdac⟩
      have HSwdac : Hid ((fun w' : World => View w' 0 w.heap.size .u8 (.slice (some ⟨b, off, none⟩) 32 cap) xs) wdac) := HSwda.out.chg (twdac.chg 0 0) (by omega)
      refine ⟨_, rfl, HSwdac.out, ?_⟩
      go_simp
      have Fwdac : InoMade w0 wdac := ⟨Gwda.1.trans (twdac.chg 0 0), by rw [twdac.heap]; exact Gwda.2.1, by rw [twdac.heap]; exact Gwda.2.2⟩
      refine held_one 13 rfl rfl (by kernel_rfl) ?_
      refine wp_enter 12 #[.slice (some ⟨b, off + 20, none⟩) 2 (cap - 20)] (by first | kernel_rfl | go_simp) (HG20.out wdac HSwdac.out) ?_
      rintro e wdacc ⟨rfl, twdacc⟩
      have HSwdacc : Hid ((fun w' : World => View w' 0 w.heap.size .u8 (.slice (some ⟨b, off, none⟩) 32 cap) xs) wdacc) := HSwdac.out.chg (twdacc.chg 0 0) (by omega)
      refine ⟨_, rfl, HSwdacc.out, ?_⟩
      go_simp
      have Fwdacc : InoMade w0 wdacc := ⟨Fwdac.1.trans (twdacc.chg 0 0), by rw [twdacc.heap]; exact Fwdac.2.1, by rw [twdacc.heap]; exact Fwdac.2.2⟩
      refine held_take 14 (.agg #[.int .i64 kk, .int .i64 ll, .int .i64 zz, .slice none 0 0, .int .i64 nn]) rfl (by kernel_rfl) (by kernel_rfl) (by kernel_rfl) (fun _ _ _ h => h) (.inl ⟨by kernel_rfl, fun w' hw' => by go_simp⟩) HSwdacc.out ?_
      go_simp
      refine held_one 16 rfl rfl (by kernel_rfl) ?_
      refine wp_store_row 25 (.tmp 3) (.tmp 23) rfl rfl (w.heap.size + 1) rfl [.int .i64 kk, .int .i64 ll, .int .i64 zz, .slice none 0 0, .int .i64 nn] [.int .i64 0, .int .i64 0, .int .i64 0, .slice none 0 0, .int .i64 0] 25 rfl (by rw [← s0]; exact Fwdacc.2.2) rfl (by kernel_rfl) (by simp [Value.oneCell']) ?_
      intro wy hy cy
      have HSy : Hid ((fun w' : World => View w' 0 w.heap.size .u8 (.slice (some ⟨b, off, none⟩) 32 cap) xs) wy) := HSwdacc.out.chg cy (by omega)
      have HR : Hid (Chg 0 0 w0 wy ∧ w.heap.size + 1 < wy.heap.size ∧ wy.heap[w.heap.size + 1]? = some (.cells #[.int .i64 kk, .int .i64 ll, .int .i64 zz, .slice none 0 0, .int .i64 nn] 25 (0, 0))) := ⟨Fwdacc.1.step cy (by omega), by have := cy.size; have := Fwdacc.2.1; omega, hy⟩
      clear hy cy
      refine ⟨HSy.out, held_done (by kernel_rfl) (NoPanic.normal ?_)⟩
      go_wp2
      go_meet
      exact ⟨rfl, HR.out⟩
  case rest =>
    obtain ⟨rfl, hcx, hsx, hbx⟩ := hcut
    have HB1 : Hid (wc.heap[w.heap.size]? = some (.cells #[.bool false, .int .i64 0, .int .i64 0, .int .i64 0, .slice none 0 0, .int .i64 0] 27 (0, 0))) := (hcx.block _ (by omega) (by omega)).trans HB.out
    have HC1 : Hid (Chg 0 0 w wc) := HC.out.trans hcx
    have HG1 : Hid (wc.heap[w.heap.size + 1]? = some (.cells #[.int .i64 (xs.getD 0 0), .int .i64 (xs.getD 1 0), .int .i64 (gp xs 2), .slice none 0 0, .int .i64 (gp xs 20)] 25 (0, 0))) := hbx
    clear hcx hbx HB HC HCl hw0 hw1 q4 q22 q2' q20'
    generalize gp xs 2 = zz at *
    generalize gp xs 20 = nn at *
    generalize xs.getD 0 0 = kk at *
    generalize xs.getD 1 0 = ll at *
    go_wp2
    go_loopw [4] (fun s4 wr => ∃ (k : Nat) (va : Option Addr) (vc : Nat), k ≤ 8 ∧ s4 = .int .i64 k ∧ OwnI wr (w.heap.size + 2) 2 (.slice va k vc) (dirOf xs k) ∧ Chg 0 0 w wr ∧ w.heap.size + 2 ≤ wr.heap.size ∧ wr.heap[w.heap.size]? = some (.cells #[.bool false, .int .i64 0, .int .i64 0, .int .i64 0, .slice none 0 0, .int .i64 0] 27 (0, 0)) ∧ wr.heap[w.heap.size + 1]? = some (.cells #[.int .i64 kk, .int .i64 ll, .int .i64 zz, .slice va k vc, .int .i64 nn] 25 (0, 0))) (fun s4 _ => 8 - (intOf s4).toNat)
    case atStart => exact ⟨0, none, 0, Nat.zero_le _, rfl, ⟨rfl, Or.inl ⟨rfl, rfl⟩⟩, HC1.out, by omega, HB1.out, HG1.out⟩
    case round =>
      obtain ⟨k, va, vc, hk, rfl, hoi, hch, hs2, hbr, hbo⟩ := hrel
      clear HC1 HB1 HG1
      have HO : Hid (OwnI wr (w.heap.size + 2) 2 (.slice va k vc) (dirOf xs k)) := hoi
      have HC : Hid (Chg 0 0 w wr) := hch
      have HBr : Hid (wr.heap[w.heap.size]? = some (.cells #[.bool false, .int .i64 0, .int .i64 0, .int .i64 0, .slice none 0 0, .int .i64 0] 27 (0, 0))) := hbr
      have HBo : Hid (wr.heap[w.heap.size + 1]? = some (.cells #[.int .i64 kk, .int .i64 ll, .int .i64 zz, .slice va k vc, .int .i64 nn] 25 (0, 0))) := hbo
      clear hoi hch hbr hbo
      by_cases hlt : k < 8
      · have hi' : (k : Int) < 8 := by omega
        obtain ⟨m, hm⟩ : ∃ m : Nat, m = 4 + 2 * k := ⟨_, rfl⟩
        have Hm : Hid (m = 4 + 2 * k) := hm
        have HSu : Hid (dirOf xs (k + 1) = dirOf xs k ++ [gp xs m]) := by show _ = _; rw [hm]; exact dirOf_succ xs k
        have hN := fun W h => HGet.out W m (by omega) h
        have HN : Hid (∀ W, View W 0 w.heap.size .u8 (.slice (some ⟨b, off, none⟩) 32 cap) xs → Calls Try.prog 12 #[.slice (some ⟨b, off + m, none⟩) 2 (cap - m)] W fun e w' => e = .returned (.int .i64 (gp xs m)) ∧ Same W w') := hN
        have HLk : Hid ((dirOf xs k).length = k) := dirOf_len xs k
        generalize gp xs m = dk at *
        have e1 : (4 : Int) + 2 * (k : Int) = (m : Int) := by omega
        have e2 : (6 : Int) + 2 * (k : Int) = (m : Int) + 2 := by omega
        have q1 : (0 : Int) ≤ (m : Int) + 2 := by omega
        have q2 : (m : Int) + 2 ≤ (cap : Int) := by omega
        have q3 : ¬ cap = m := by omega
        have q4 : (m : Int) ≤ max ((m : Int) + 2) 0 := by omega
        have q5 : ((m : Int) + 2).toNat - m = 2 := by omega
        have q6 : ¬ (m : Int) + 2 < (m : Int) := by omega
        have x1 : IntKind.i64.wrap (2 * (k : Int)) = 2 * (k : Int) := wrap_b (by omega) (by omega)
        have x2 : IntKind.i64.wrap (m : Int) = (m : Int) := wrap_b (by omega) (by omega)
        have x3 : IntKind.i64.wrap ((m : Int) + 2) = (m : Int) + 2 := wrap_b (by omega) (by omega)
        have HS0 : Hid ((fun w' : World => View w' 0 w.heap.size .u8 (.slice (some ⟨b, off, none⟩) 32 cap) xs ∧ w'.heap[w.heap.size + 1]? = some (.cells #[.int .i64 kk, .int .i64 ll, .int .i64 zz, .slice va k vc, .int .i64 nn] 25 (0, 0))) wr.drew) := ⟨(HV1.out.chg HC.out (by omega)).chg (Chg.drew (Chg.refl 0 0 wr)) (by omega), HBo.out⟩
        have HC0 : Hid (Chg 0 0 w wr.drew) := HC.out.trans (Chg.drew (Chg.refl 0 0 wr))
        have HO0 : Hid (OwnI wr.drew (w.heap.size + 2) 2 (.slice va k vc) (dirOf xs k)) := HO.out.chg (Chg.drew (Chg.refl 0 0 wr)) (by intro g _; omega)
        have HR0 : Hid (wr.drew.heap[w.heap.size]? = some (.cells #[.bool false, .int .i64 0, .int .i64 0, .int .i64 0, .slice none 0 0, .int .i64 0] 27 (0, 0))) := HBr.out
        have sd : w.heap.size + 2 ≤ wr.drew.heap.size := hs2
        clear hm hN HC HO HBr HBo
        go_wp2
        refine weak_region 14 (fun w' : World => View w' 0 w.heap.size .u8 (.slice (some ⟨b, off, none⟩) 32 cap) xs ∧ w'.heap[w.heap.size + 1]? = some (.cells #[.int .i64 kk, .int .i64 ll, .int .i64 zz, .slice va k vc, .int .i64 nn] 25 (0, 0))) (by kernel_rfl) ?_
        generalize wr.drew = wd at *
        refine weak_take 0 (.pointer (some ⟨w.heap.size + 1, 3, none⟩)) rfl (by kernel_rfl) (by kernel_rfl) (by kernel_rfl) (by kernel_rfl) (fun _ _ _ h => h) (.inl ⟨by kernel_rfl, fun w' hw' => by go_simp⟩) HS0.out ?_
        go_simp
        refine weak_take 1 (.slice va k vc) rfl (by kernel_rfl) (by kernel_rfl) (by kernel_rfl) (by kernel_rfl) (fun _ _ _ h => h) (.inl ⟨by kernel_rfl, fun w' hw' => by obtain ⟨⟨h4, h5, h6, h7, h8⟩, _⟩ := ino_all hw'.2; go_simp⟩) HS0.out ?_
        go_simp
        refine weak_take 2 (.slice (some ⟨b, off, none⟩) 32 cap) rfl (by kernel_rfl) (by kernel_rfl) (by kernel_rfl) (by kernel_rfl) (fun _ _ _ h => h) (.inl ⟨by kernel_rfl, fun w' hw' => by go_simp⟩) HS0.out ?_
        go_simp
        refine weak_take 3 (.int .i64 (k : Int)) rfl (by kernel_rfl) (by kernel_rfl) (by kernel_rfl) (by kernel_rfl) (fun _ _ _ h => h) (.inl ⟨by kernel_rfl, fun w' hw' => by go_simp⟩) HS0.out ?_
        go_simp
        refine weak_take 4 (.int .i64 (2 * (k : Int))) rfl (by kernel_rfl) (by kernel_rfl) (by kernel_rfl) (by kernel_rfl) (fun _ _ _ h => h) (.inl ⟨by kernel_rfl, fun w' hw' => by go_simp⟩) HS0.out ?_
        go_simp
        refine weak_take 5 (.int .i64 (m : Int)) rfl (by kernel_rfl) (by kernel_rfl) (by kernel_rfl) (by kernel_rfl) (fun _ _ _ h => h) (.inl ⟨by kernel_rfl, fun w' hw' => by go_simp⟩) HS0.out ?_
        go_simp
        refine weak_take 6 (.int .i64 (k : Int)) rfl (by kernel_rfl) (by kernel_rfl) (by kernel_rfl) (by kernel_rfl) (fun _ _ _ h => h) (.inl ⟨by kernel_rfl, fun w' hw' => by go_simp⟩) HS0.out ?_
        go_simp
        refine weak_take 7 (.int .i64 (2 * (k : Int))) rfl (by kernel_rfl) (by kernel_rfl) (by kernel_rfl) (by kernel_rfl) (fun _ _ _ h => h) (.inl ⟨by kernel_rfl, fun w' hw' => by go_simp⟩) HS0.out ?_
        go_simp
        refine weak_take 8 (.int .i64 ((m : Int) + 2)) rfl (by kernel_rfl) (by kernel_rfl) (by kernel_rfl) (by kernel_rfl) (fun _ _ _ h => h) (.inl ⟨by kernel_rfl, fun w' hw' => by go_simp⟩) HS0.out ?_
        go_simp
        refine weak_take 9 (.slice (some ⟨b, off + m, none⟩) 2 (cap - m)) rfl (by kernel_rfl) (by kernel_rfl) (by kernel_rfl) (by kernel_rfl) (fun _ _ _ h => h) (.inl ⟨by kernel_rfl, fun w' hw' => by go_simp⟩) HS0.out ?_
        go_simp
        refine weak_one 10 rfl rfl (by kernel_rfl) ?_
        refine wp_enter 12 #[.slice (some ⟨b, off + m, none⟩) 2 (cap - m)] (by first | kernel_rfl | go_simp) (HN.out wd HS0.out.1) ?_
        rintro e wa ⟨rfl, ta⟩
        have ca := ta.chg 0 0
        have HSa : Hid ((fun w' : World => View w' 0 w.heap.size .u8 (.slice (some ⟨b, off, none⟩) 32 cap) xs ∧ w'.heap[w.heap.size + 1]? = some (.cells #[.int .i64 kk, .int .i64 ll, .int .i64 zz, .slice va k vc, .int .i64 nn] 25 (0, 0))) wa) := ⟨HS0.out.1.chg ca (by omega), (ca.block _ (by omega) (by omega)).trans HS0.out.2⟩
        have HCa : Hid (Chg 0 0 w wa) := HC0.out.trans ca
        have HOa : Hid (OwnI wa (w.heap.size + 2) 2 (.slice va k vc) (dirOf xs k)) := HO0.out.chg ca (by intro g _; omega)
        have HRa : Hid (wa.heap[w.heap.size]? = some (.cells #[.bool false, .int .i64 0, .int .i64 0, .int .i64 0, .slice none 0 0, .int .i64 0] 27 (0, 0))) := (ca.block _ (by omega) (by omega)).trans HR0.out
        have sa := ca.size
        clear ta ca HS0 HC0 HO0 HR0
        refine ⟨_, rfl, fun _ => HSa.out, ?_⟩
        go_simp
        have X6 := int_own wa w.heap.size dk (by omega)
        have C6 : Chg 0 0 wa (wa.alloc (.cells #[.int .i64 dk] 2)) := Chg.alloc (Chg.refl 0 0 wa) _
        have s6 : (wa.alloc (.cells #[.int .i64 dk] 2)).heap.size = wa.heap.size + 1 := by simp
        obtain ⟨ic, hic, hcz0, hcz1, hcz2⟩ := info_parts Try.infoI
        refine weak_one 11 rfl rfl (by kernel_rfl) ?_
        refine wp_buildSlice 23 2 1 #[(0, .tmp 38)] rfl #[.int .i64 dk] ic _ Try.underlying23 hic hcz0 (by rw [hcz1]; decide) (by rw [hcz1]; decide) (by rw [hcz1, Array.toList_map]; refine fill_int _ ?_ _ _; simp) ?_
        generalize wa.alloc (.cells #[.int .i64 dk] 2) = wb at *
        have HSb : Hid ((fun w' : World => View w' 0 w.heap.size .u8 (.slice (some ⟨b, off, none⟩) 32 cap) xs ∧ w'.heap[w.heap.size + 1]? = some (.cells #[.int .i64 kk, .int .i64 ll, .int .i64 zz, .slice va k vc, .int .i64 nn] 25 (0, 0))) wb) := ⟨HSa.out.1.chg C6 (by omega), (C6.block _ (by omega) (by omega)).trans HSa.out.2⟩
        have HCb : Hid (Chg 0 0 w wb) := HCa.out.trans C6
        have HOb : Hid (OwnI wb (w.heap.size + 2) 2 (.slice va k vc) (dirOf xs k)) := HOa.out.chg C6 (by intro g _; omega)
        have HRb : Hid (wb.heap[w.heap.size]? = some (.cells #[.bool false, .int .i64 0, .int .i64 0, .int .i64 0, .slice none 0 0, .int .i64 0] 27 (0, 0))) := (C6.block _ (by omega) (by omega)).trans HRa.out
        have HVb : Hid (View wb w.heap.size wb.heap.size .i64 (.slice (some ⟨wa.heap.size, 0, none⟩) 1 1) [dk]) := X6.seen (by simp)
        refine ⟨fun _ => HSb.out, ?_⟩
        clear X6 C6 HSa HCa HOa HRa
        go_simp
        refine weak_one 12 rfl rfl (by kernel_rfl) ?_
        refine wp_app_ints (.tmp 29) (.tmp 39) rfl (w.heap.size + 2) _ (dirOf xs k) rfl HOb.out (by omega) _ _ _ [dk] rfl HVb.out (by simp) (by rw [HLk.out]; simp; omega) ?_
        intro v8 w8 o8 h8
        rw [← HSu.out] at o8
        obtain ⟨a8, c8, rfl⟩ := o8.sl
        rw [dirOf_len] at o8
        rw [dirOf_len]
        have HS8 : Hid ((fun w' : World => View w' 0 w.heap.size .u8 (.slice (some ⟨b, off, none⟩) 32 cap) xs ∧ w'.heap[w.heap.size + 1]? = some (.cells #[.int .i64 kk, .int .i64 ll, .int .i64 zz, .slice va k vc, .int .i64 nn] 25 (0, 0))) w8) := ⟨HSb.out.1.chg h8 (by omega), (h8.block _ (by omega) (by omega)).trans HSb.out.2⟩
        have HC8 : Hid (Chg 0 0 w w8) := HCb.out.step h8 (by omega)
        have HR8 : Hid (w8.heap[w.heap.size]? = some (.cells #[.bool false, .int .i64 0, .int .i64 0, .int .i64 0, .slice none 0 0, .int .i64 0] 27 (0, 0))) := (h8.block _ (by omega) (by omega)).trans HRb.out
        have HO8 : Hid (OwnI w8 (w.heap.size + 2) 2 (.slice a8 (k + 1) c8) (dirOf xs (k + 1))) := o8
        have s8 := h8.size
        obtain ⟨⟨z0, z1, z2, z3, z4⟩, y0, y1, y2, y3, y4⟩ := ino_all HS8.out.2
        have cc : ∀ u : Value, Chg (w.heap.size + 1) (w.heap.size + 2) w8 (w8.setCell ⟨w.heap.size + 1, 3, none⟩ u) := fun u => Chg.setCell (p := ⟨w.heap.size + 1, 3, none⟩) (Chg.refl (w.heap.size + 1) (w.heap.size + 2) w8) (Or.inl ⟨by show w.heap.size + 1 ≤ w.heap.size + 1; omega, by show w.heap.size + 1 < w.heap.size + 2; omega⟩) u
        have HFin : Hid (∀ u : Value, OwnI (w8.setCell ⟨w.heap.size + 1, 3, none⟩ u) (w.heap.size + 2) 2 (.slice a8 (k + 1) c8) (dirOf xs (k + 1)) ∧ Chg 0 0 w (w8.setCell ⟨w.heap.size + 1, 3, none⟩ u) ∧ w.heap.size + 2 ≤ (w8.setCell ⟨w.heap.size + 1, 3, none⟩ u).heap.size ∧ (w8.setCell ⟨w.heap.size + 1, 3, none⟩ u).heap[w.heap.size]? = some (.cells #[.bool false, .int .i64 0, .int .i64 0, .int .i64 0, .slice none 0 0, .int .i64 0] 27 (0, 0)) ∧ (w8.setCell ⟨w.heap.size + 1, 3, none⟩ u).heap[w.heap.size + 1]? = some (.cells #[.int .i64 kk, .int .i64 ll, .int .i64 zz, u, .int .i64 nn] 25 (0, 0))) := fun u => by
          refine ⟨HO8.out.chg (cc u) (fun g hg => by have := (HO8.out.lt g hg).1; omega), HC8.out.step (cc u) (by omega), by have := (cc u).size; omega, ((cc u).block _ (by omega) (by omega)).trans HR8.out, ?_⟩
          simp [World.setCell, Array.getElem?_modify, HS8.out.2]
        clear o8 h8 cc HSb HCb HOb HRb HVb HC8 HR8 HO8
        refine ⟨fun _ => HS8.out, ?_⟩
        go_simp
        refine weak_take 13 (.pointer (some ⟨w.heap.size + 1, 3, none⟩)) rfl (by kernel_rfl) (by kernel_rfl) (by kernel_rfl) (by kernel_rfl) (fun _ _ _ h => h) (.inl ⟨by kernel_rfl, fun w' hw' => by go_simp⟩) HS8.out ?_
        go_simp
        clear HS8
        refine weak_one 14 rfl rfl (by kernel_rfl) ?_
        go_simp
        refine weak_done (by kernel_rfl) (NoPanic.normal ?_)
        clear z0 z1 z2 z3 z4 y0 y1 y2 y3 y4
        go_wp2
        go_roundw
        case rel =>
          obtain ⟨f1, f2, f3, f4, f5⟩ := HFin.out (.slice a8 (k + 1) c8)
          exact ⟨k + 1, a8, c8, by omega, by go_num, f1, f2, f3, f4, f5⟩
        case measure => simp [intOf]; omega
      · obtain rfl : k = 8 := by omega
        have hni : ¬ ((8 : Nat) : Int) < 8 := by omega
        have HL8 : Hid ((dirOf xs 8).length = 8) := dirOf_len xs 8
        have HD2 : Hid ((inoOf xs).dir = dirOf xs 8 ∧ (inoOf xs).kind = kk ∧ (inoOf xs).links = ll ∧ (inoOf xs).size = zz ∧ (inoOf xs).ind = nn) := by
          rw [HD.out]
          exact ⟨rfl, rfl, rfl, rfl, rfl⟩
        have HLi : Hid ((inoOf xs).dir.length = 8) := by show _ = _; rw [HD2.out.1]; exact HL8.out
        have hVw : View wr (w.heap.size + 2) wr.heap.size .i64 (.slice va (inoOf xs).dir.length vc) (inoOf xs).dir := by
          rw [HLi.out, HD2.out.1]
          exact HO.out.seen (by rw [HL8.out]; omega)
        have hN := specEncInode_calls wr (inoOf xs) va vc (by rw [HLi.out]; omega) hVw
        have HRes : Hid ((encIno (inoOf xs) = xs → inoG xs = true ∧ decI xs = inoOf xs) ∧ (encIno (inoOf xs) ≠ xs → inoG xs = false ∧ decI xs = ⟨0, 0, 0, [], 0⟩)) := by
          constructor
          · intro h
            have hg : inoG xs = true := by unfold inoG; rw [decide_eq_true H32.out, decide_eq_true h]; rfl
            exact ⟨hg, by unfold decI; rw [if_pos hg]⟩
          · intro h
            have hg : inoG xs = false := by unfold inoG; rw [decide_eq_false h, Bool.and_false]
            exact ⟨hg, by unfold decI; rw [if_neg (by rw [hg]; decide)]⟩
        rw [show inoV (inoOf xs) va vc = .agg #[.int .i64 kk, .int .i64 ll, .int .i64 zz, .slice va 8 vc, .int .i64 nn] from by
          unfold inoV
          rw [HD2.out.2.1, HD2.out.2.2.1, HD2.out.2.2.2.1, HD2.out.2.2.2.2, HLi.out]] at hN
        have hLen := encIno_len (inoOf xs)
        have HByt := encIno_byt (inoOf xs)
        generalize encIno (inoOf xs) = ee at *
        obtain ⟨⟨z0, z1, z2, z3, z4⟩, _⟩ := ino_all HBo.out
        clear hVw HD HGet
        go_wp2_with fail
        clear z0 z1 z2 z3 z4
        refine hN.mono ?_
        rintro e w5 ⟨v5, rfl, o5, h5⟩
        have s5 := h5.size
        have HB5 : Hid (w5.heap[w.heap.size]? = some (.cells #[.bool false, .int .i64 0, .int .i64 0, .int .i64 0, .slice none 0 0, .int .i64 0] 27 (0, 0))) := (h5.block _ (by omega) (by omega)).trans HBr.out
        have HC5 : Hid (Chg 0 0 w w5) := HC.out.trans h5
        have HG5 : Hid (w5.heap[w.heap.size + 1]? = some (.cells #[.int .i64 kk, .int .i64 ll, .int .i64 zz, .slice va 8 vc, .int .i64 nn] 25 (0, 0))) := (h5.block _ (by omega) (by omega)).trans HBo.out
        have HO5 : Hid (OwnI w5 (w.heap.size + 2) 2 (.slice va 8 vc) (dirOf xs 8)) := HO.out.chg h5 (by intro g _; omega)
        have v5' := o5.seen (by omega)
        obtain ⟨e5, l5, c5, rfl⟩ := row_slice o5
        have hS := l2Same_calls w5 HByt HBy.out v5' (HV1.out.chg HC5.out (by omega))
        clear hN o5 h5 v5' HBr HC HBo HO
        go_wp2_with fail
        refine hS.mono ?_
        rintro e w6 ⟨rfl, hw6⟩
        subst w6
        clear hS
        obtain ⟨⟨z0, z1, z2, z3, z4, z5⟩, y0, y1, y2, y3, y4, y5⟩ := six_all HB5.out
        obtain ⟨⟨x0, x1, x2, x3, x4⟩, _⟩ := ino_all HG5.out
        have HCs : Hid (∀ u0 u1 u2 u3 u4 u5 : Value, Chg w.heap.size (w.heap.size + 1) w5 ((((((w5.setCell ⟨w.heap.size, 0, none⟩ u0).setCell ⟨w.heap.size, 1, none⟩ u1).setCell ⟨w.heap.size, 2, none⟩ u2).setCell ⟨w.heap.size, 3, none⟩ u3).setCell ⟨w.heap.size, 4, none⟩ u4).setCell ⟨w.heap.size, 5, none⟩ u5)) := fun u0 u1 u2 u3 u4 u5 => by
          refine Chg.setCell (Chg.setCell (Chg.setCell (Chg.setCell (Chg.setCell (Chg.setCell (Chg.refl _ _ _) ?_ _) ?_ _) ?_ _) ?_ _) ?_ _) ?_ _ <;> exact Or.inl ⟨Nat.le_refl _, Nat.lt_succ_self _⟩
        clear HB5 HG5 hLen HByt
        by_cases he : ee = xs
        · have HR := HRes.out.1 he
          have HOut : Hid (∀ u0 u1 u2 u3 u4 u5 : Value, OwnI ((((((w5.setCell ⟨w.heap.size, 0, none⟩ u0).setCell ⟨w.heap.size, 1, none⟩ u1).setCell ⟨w.heap.size, 2, none⟩ u2).setCell ⟨w.heap.size, 3, none⟩ u3).setCell ⟨w.heap.size, 4, none⟩ u4).setCell ⟨w.heap.size, 5, none⟩ u5) w.heap.size 2 (.slice va 8 vc) (decI xs).dir ∧ Chg 0 0 w ((((((w5.setCell ⟨w.heap.size, 0, none⟩ u0).setCell ⟨w.heap.size, 1, none⟩ u1).setCell ⟨w.heap.size, 2, none⟩ u2).setCell ⟨w.heap.size, 3, none⟩ u3).setCell ⟨w.heap.size, 4, none⟩ u4).setCell ⟨w.heap.size, 5, none⟩ u5)) := fun u0 u1 u2 u3 u4 u5 => by
            have c := HCs.out u0 u1 u2 u3 u4 u5
            refine ⟨?_, HC5.out.step c (Or.inr (Or.inl (Nat.le_refl _)))⟩
            rw [HR.2, HD2.out.1]
            exact (HO5.out.chg c (fun g hg => by have := (HO5.out.lt g hg).1; omega)).base (fun g hg => by have := (HO5.out.lt g hg).1; omega)
          have HVal : Hid (irV (inoG xs) (decI xs) (.slice va 8 vc) = .agg #[.bool true, .int .i64 kk, .int .i64 ll, .int .i64 zz, .slice va 8 vc, .int .i64 nn]) := by
            show _ = _
            unfold irV
            rw [HR.1, HR.2, HD2.out.2.1, HD2.out.2.2.1, HD2.out.2.2.2.1, HD2.out.2.2.2.2]
          rw [decide_eq_true he]
          clear he HR HRes
          go_wp2
          exact bodyPost_ret (v := .agg #[.bool true, .int .i64 kk, .int .i64 ll, .int .i64 zz, .slice va 8 vc, .int .i64 nn]) (by simp [results, Try.results4, go_sem, *]) rfl ⟨.slice va 8 vc, by rw [HVal.out], HOut.out _ _ _ _ _ _⟩
        · have HR := HRes.out.2 he
          have HVal : Hid (irV (inoG xs) (decI xs) (.slice none 0 0) = .agg #[.bool false, .int .i64 0, .int .i64 0, .int .i64 0, .slice none 0 0, .int .i64 0]) := by
            show _ = _
            unfold irV
            rw [HR.1, HR.2]
          have HOut : Hid (∀ W, OwnI W w.heap.size 2 (.slice none 0 0) (decI xs).dir) := fun W => by rw [HR.2]; exact ⟨rfl, Or.inl ⟨rfl, rfl⟩⟩
          rw [decide_eq_false he]
          clear he HR HRes
          go_wp2
          exact bodyPost_ret (v := .agg #[.bool false, .int .i64 0, .int .i64 0, .int .i64 0, .slice none 0 0, .int .i64 0]) (by simp [results, Try.results4, go_sem, *]) rfl ⟨.slice none 0 0, by rw [HVal.out], HOut.out _, HC5.out.step (HCs.out _ _ _ _ _ _) (Or.inr (Or.inl (Nat.le_refl _)))⟩

end Go.Proofs.Ytedjnnfaahkppaa
