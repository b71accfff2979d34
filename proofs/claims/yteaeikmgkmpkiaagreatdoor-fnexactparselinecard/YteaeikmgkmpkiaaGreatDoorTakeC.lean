/- Several short texts in one: ImplQuote, ImplUnq, TakeC. -/
import Derived.Test.YteaeikmgkmpkiaaGreatDoorQuoteSpec
import Derived.Test.YteaeikmgkmpkiaaGreatDoorBld
import Derived.Test.YteaeikmgkmpkiaaGreatDoorNumImpl
import Derived.Test.YteaeikmgkmpkiaaGreatDoorLooseMath
import Derived.Test.YteaeikmgkmpkiaaGreatDoorTakeB
namespace Go.Proofs.YteaeikmgkmpkiaaGreatDoor
open Go.RowKit Go.Lib

theorem quoL_byte (s : ByteArray) (k : Nat) : ∀ x ∈ quoL s k, 0 ≤ x ∧ x < 256 := by
  induction k with
  | zero => simp [quoL]
  | succ k ih =>
    rw [quoL_succ]
    intro x hx
    rcases List.mem_append.1 hx with h | h
    · exact ih x h
    · have hc := chr_256 s k
      unfold quo1 at h
      split at h
      · simp only [List.mem_singleton] at h; omega
      · have h1 := hexC_lt (chr s k / 16) (by omega)
        have h2 := hexC_lt (chr s k % 16) (by omega)
        simp only [List.mem_cons, List.not_mem_nil, or_false] at h
        omega

theorem fill_three (A : Array Value) (hr : A.size = 3) (a b c : Int) (k : IntKind) : Instr.fill (fun i => some (i * 1, 1)) A [(0, .int k a), (1, .int k b), (2, .int k c)] = some #[.int k a, .int k b, .int k c] := by
  rcases A with ⟨l⟩
  rcases l with _ | ⟨x, _ | ⟨y, _ | ⟨z, _ | ⟨u, l⟩⟩⟩⟩ <;> simp at hr
  rfl

theorem and_low_all : ∀ y : Fin 256, bits BinOp.and IntKind.u8 ((y.val : Nat) : Int) 15 = ((y.val % 16 : Nat) : Int) := by decide +kernel
theorem and_low (y : Nat) (h : y < 256) : bits BinOp.and IntKind.u8 (y : Int) 15 = ((y % 16 : Nat) : Int) := and_low_all ⟨y, h⟩

theorem hex_at (v : Nat) (h : v < 16) (hh : v < (⟨#[48, 49, 50, 51, 52, 53, 54, 55, 56, 57, 97, 98, 99, 100, 101, 102]⟩ : ByteArray).size) : (⟨#[48, 49, 50, 51, 52, 53, 54, 55, 56, 57, 97, 98, 99, 100, 101, 102]⟩ : ByteArray)[v].toNat = hexC v := by
  have hv : v = 0 ∨ v = 1 ∨ v = 2 ∨ v = 3 ∨ v = 4 ∨ v = 5 ∨ v = 6 ∨ v = 7 ∨ v = 8 ∨ v = 9 ∨ v = 10 ∨ v = 11 ∨ v = 12 ∨ v = 13 ∨ v = 14 ∨ v = 15 := by omega
  rcases hv with rfl | rfl | rfl | rfl | rfl | rfl | rfl | rfl | rfl | rfl | rfl | rfl | rfl | rfl | rfl | rfl <;> rfl

set_option maxRecDepth 20000 in
set_option maxHeartbeats 2000000 in
theorem implQuote_calls (w : World) (s : ByteArray) (hl : s.size ≤ 1048576) :
    Calls Tryz.prog 55 #[.string s] w fun e w' => e = .returned (.string (quoV s)) ∧ Chg 0 0 w w' := by
  obtain ⟨r, Hr⟩ : ∃ r, Hid (r = quoV s) := ⟨_, rfl⟩
  rw [← Hr.out]
  have hmx : Tryz.prog.follows .mixedOrders = true := by kernel_rfl
  by_cases hbig : 65536 < s.size
  · have Hn : Hid (r = ⟨#[]⟩) := by show _ = _; rw [Hr.out]; unfold quoV; rw [if_pos hbig]
    go_enter Tryz.func55, Tryz.ntmps55
    go_wp2
    go_ret
    exact ⟨by rw [Hn.out]; rfl, Chg.refl _ _ _⟩
  by_cases h0 : s.size = 0
  · have Hn : Hid (r = ⟨#[37]⟩) := by show _ = _; rw [Hr.out]; unfold quoV; rw [if_neg hbig, if_pos h0]
    obtain rfl : s = ⟨#[]⟩ := by
      rcases s with ⟨⟨l⟩⟩
      cases l with
      | nil => rfl
      | cons x l => simp [ByteArray.size] at h0
    go_enter Tryz.func55, Tryz.ntmps55
    go_wp2
    go_ret
    exact ⟨by rw [Hn.out]; rfl, Chg.refl _ _ _⟩
  have hne : s.toList.isEmpty = false := by
    rw [ByteArray.toList_eq]
    rcases s with ⟨⟨l⟩⟩
    cases l with
    | nil => exact absurd rfl h0
    | cons x l => rfl
  have HB0 : Hid (Bd w.heap.size w.heap.size (quoL s 0) (w.alloc (.cells #[.pointer none, .slice none 0 0] 87))) := bd_new w
  have HC0 : Hid (Below w.heap.size w (w.alloc (.cells #[.pointer none, .slice none 0 0] 87))) := (Below.refl _ _).alloc (Nat.le_refl _) _
  have hs0 : w.heap.size + 1 ≤ (w.alloc (.cells #[.pointer none, .slice none 0 0] 87)).heap.size := by simp
  go_enter Tryz.func55, Tryz.ntmps55
  go_wp2
  clear hne
  go_loopw [13] (fun x wr => ∃ (k : Nat), k ≤ s.size ∧ x = .int .i64 k ∧ Bd w.heap.size w.heap.size (quoL s k) wr ∧ Below w.heap.size w wr ∧ w.heap.size + 1 ≤ wr.heap.size) (fun x _ => s.size - (RowKit.intOf x).toNat)
  case atStart => exact ⟨0, Nat.zero_le _, rfl, HB0.out, HC0.out, hs0⟩
  case round =>
    obtain ⟨k, hk, rfl, hb, hch, hsz⟩ := hrel
    obtain ⟨hq0, hq1⟩ := quoL_len s k
    have HB : Hid (Bd w.heap.size w.heap.size (quoL s k) wr) := hb
    have HC : Hid (Below w.heap.size w wr) := hch
    clear hb hch HB0 HC0 hs0
    by_cases hlt : k < s.size
    · have hi : (k : Int) < (s.size : Int) := by omega
      have hcs : s[k].toNat = chr s k := (chr_lt hlt).symm
      have hc2 := chr_256 s k
      have HQ : Hid (quoL s (k + 1) = quoL s k ++ quo1 (chr s k)) := quoL_succ s k
      generalize chr s k = c at *
      have e0 : IntKind.i64.wrap (c : Int) = (c : Int) := by rw [IntKind.wrap_i64]; omega
      have hN := isWithin_calls wr (c : Int) 33 126
      go_wp2_with fail
      refine hN.mono ?_
      rintro e wp ⟨rfl, rfl⟩
      by_cases hpl : plainC c = true
      · have Hq1 : Hid (quo1 c = [(c : Int)]) := by show _ = _; unfold quo1; rw [if_pos hpl]
        have hp : 33 ≤ c ∧ c ≤ 126 ∧ c ≠ 37 := by unfold plainC at hpl; exact of_decide_eq_true hpl
        have hd1 : (decide ((33 : Int) ≤ (c : Int)) && decide ((c : Int) ≤ 126)) = true := by simp; omega
        have hd2 : ((c : Int) != 37) = true := by simp; omega
        rw [hd1]
        clear hpl hN
        have hW := writeByte_calls w.heap.size w.heap.size (quoL s k) (c : Int) wp HB.out (by omega) (by omega)
        go_wp2_with fail
        refine hW.mono ?_
        rintro e w8 ⟨rfl, b8, c8⟩
        have HB8 : Hid (Bd w.heap.size w.heap.size (quoL s (k + 1)) w8) := by rw [HQ.out, Hq1.out]; exact b8
        have HC8 : Hid (Below w.heap.size w w8) := HC.out.trans c8
        have hs8 := c8.size
        clear b8 c8 hW
        go_wp2
        go_roundw
        case rel => exact ⟨k + 1, by omega, by go_num, HB8.out, HC8.out, by omega⟩
        case measure => simp [RowKit.intOf]; omega
      · have Hq1 : Hid (quo1 c = [37, (hexC (c / 16) : Int), (hexC (c % 16) : Int)]) := by show _ = _; unfold quo1; rw [if_neg hpl]
        obtain ⟨qa, hqa⟩ : ∃ qa, qa = c / 16 := ⟨_, rfl⟩
        obtain ⟨qb, hqb⟩ : ∃ qb, qb = c % 16 := ⟨_, rfl⟩
        rw [← hqa, ← hqb] at Hq1
        have hp : ¬ (33 ≤ c ∧ c ≤ 126 ∧ c ≠ 37) := by unfold plainC at hpl; exact fun h => hpl (decide_eq_true h)
        clear hpl hN
        have ha16 : qa < 16 := by omega
        have hb16 : qb < 16 := by omega
        have e1 : (c : Int) / 16 = (qa : Int) := by omega
        have e2 : (c : Int) % 16 = (qb : Int) := by omega
        have e3 : IntKind.u8.wrap (qa : Int) = (qa : Int) := by rw [IntKind.wrap_u8]; omega
        have e4 : IntKind.u8.wrap (qb : Int) = (qb : Int) := by rw [IntKind.wrap_u8]; omega
        have e5 : bits BinOp.and IntKind.u8 (c : Int) 15 = (qb : Int) := by rw [and_low c (by omega), hqb]
        clear hqa hqb
        obtain ⟨t, ht⟩ : ∃ t, t = (decide ((33 : Int) ≤ (c : Int)) && decide ((c : Int) ≤ 126)) := ⟨_, rfl⟩
        rw [← ht]
        have ht2 : t = true → ((c : Int) != 37) = false := by
          intro h
          rw [ht] at h
          simp at h
          simp
          omega
        clear ht
        have hsd : wp.heap.size ≤ wp.drew.heap.size := Nat.le_refl _
        have HBd : Hid (Bd w.heap.size w.heap.size (quoL s k) wp.drew) := HB.out.chg (Chg.drew (Chg.refl 0 0 wp)) (Or.inr (Or.inr (Nat.le_refl 0)))
        have HCd : Hid (Below w.heap.size w wp.drew) := HC.out.drew
        cases t
        all_goals
          go_wp2
          refine held_region (fun _ : World => True) hmx ?_
          generalize wp.drew = wd at *
          refine held_take 0 (.int .u8 (c : Int)) rfl (by kernel_rfl) (by kernel_rfl) (by kernel_rfl) (fun _ _ _ h => h) (.inl ⟨by kernel_rfl, fun w' hw' => by go_simp⟩) trivial ?_
          go_simp
          refine held_take 1 (.int .u8 (qa : Int)) rfl (by kernel_rfl) (by kernel_rfl) (by kernel_rfl) (fun _ _ _ h => h) (.inl ⟨by kernel_rfl, fun w' hw' => by go_simp⟩) trivial ?_
          go_simp
          refine held_take 2 (.int .u8 (hexC qa : Int)) rfl (by kernel_rfl) (by kernel_rfl) (by kernel_rfl) (fun _ _ _ h => h) (.inl ⟨by kernel_rfl, fun w' hw' => by go_simp; rw [dif_pos (by omega), hex_at _ ha16]; rfl⟩) trivial ?_
          go_simp
          refine held_take 3 (.int .u8 (c : Int)) rfl (by kernel_rfl) (by kernel_rfl) (by kernel_rfl) (fun _ _ _ h => h) (.inl ⟨by kernel_rfl, fun w' hw' => by go_simp⟩) trivial ?_
          go_simp
          refine held_take 4 (.int .u8 (qb : Int)) rfl (by kernel_rfl) (by kernel_rfl) (by kernel_rfl) (fun _ _ _ h => h) (.inl ⟨by kernel_rfl, fun w' hw' => by go_simp⟩) trivial ?_
          go_simp
          refine held_take 5 (.int .u8 (hexC qb : Int)) rfl (by kernel_rfl) (by kernel_rfl) (by kernel_rfl) (fun _ _ _ h => h) (.inl ⟨by kernel_rfl, fun w' hw' => by go_simp; rw [dif_pos (by omega), hex_at _ hb16]; rfl⟩) trivial ?_
          go_simp
          refine held_one 6 rfl rfl (by kernel_rfl) ?_
          obtain ⟨ic, hic, hcz0, hcz1, hcz2⟩ := info_parts Tryz.infoU1
          refine wp_buildSlice 22 5 3 #[(0, .const (.int .u8 37)), (1, .tmp 30), (2, .tmp 33)] rfl #[.int .u8 37, .int .u8 (hexC qa), .int .u8 (hexC qb)] ic _ Tryz.underlying22 hic hcz0 (by rw [hcz1]; decide) (by rw [hcz1]; decide) (by rw [hcz1, Array.toList_map]; refine fill_three _ ?_ _ _ _ _; simp) ?_
          have VX : Hid (View (wd.alloc (.cells #[.int .u8 37, .int .u8 (hexC qa), .int .u8 (hexC qb)] 5)) wd.heap.size (wd.heap.size + 1) .u8 (.slice (some ⟨wd.heap.size, 0, none⟩) 3 3) [37, (hexC qa : Int), (hexC qb : Int)]) := by
            have h := row_view (w := wd.alloc (.cells #[.int .u8 37, .int .u8 (hexC qa), .int .u8 (hexC qb)] 5)) (b := wd.heap.size) (xs := [37, (hexC qa : Int), (hexC qb : Int)]) (t := 5) (heap_new wd _) 0 3 3 (by simp) (by simp) (Nat.le_refl _)
            exact h
          have cA : Chg 0 0 wd (wd.alloc (.cells #[.int .u8 37, .int .u8 (hexC qa), .int .u8 (hexC qb)] 5)) := Chg.alloc (Chg.refl 0 0 wd) _
          have HBA : Hid (Bd w.heap.size w.heap.size (quoL s k) (wd.alloc (.cells #[.int .u8 37, .int .u8 (hexC qa), .int .u8 (hexC qb)] 5))) := HBd.out.chg cA (by omega)
          have HCA : Hid (Below w.heap.size w (wd.alloc (.cells #[.int .u8 37, .int .u8 (hexC qa), .int .u8 (hexC qb)] 5))) := HCd.out.trans (cA.belowN (Or.inr (Nat.le_refl 0)) (by omega))
          have sA : (wd.alloc (.cells #[.int .u8 37, .int .u8 (hexC qa), .int .u8 (hexC qb)] 5)).heap.size = wd.heap.size + 1 := by simp
          generalize wd.alloc (.cells #[.int .u8 37, .int .u8 (hexC qa), .int .u8 (hexC qb)] 5) = wa at *
          refine ⟨trivial, ?_⟩
          go_simp
          refine held_one 7 rfl rfl (by kernel_rfl) ?_
          refine wp_enter 70 #[.pointer (some ⟨w.heap.size, 0, none⟩), .slice (some ⟨wd.heap.size, 0, none⟩) 3 3] (by first | kernel_rfl | go_simp) (write_calls w.heap.size w.heap.size (quoL s k) [37, (hexC qa : Int), (hexC qb : Int)] wa HBA.out (by omega) VX.out (by omega) (by simp) (by simp only [List.length_cons, List.length_nil]; omega)) ?_
          rintro e w8 ⟨rfl, b8, c8⟩
          have HB8 : Hid (Bd w.heap.size w.heap.size (quoL s (k + 1)) w8) := by rw [HQ.out, Hq1.out]; exact b8
          have HC8 : Hid (Below w.heap.size w w8) := HCA.out.trans c8
          have hs8 := c8.size
          clear b8 c8
          refine ⟨_, rfl, trivial, ?_⟩
          go_simp
          refine held_done (by kernel_rfl) (NoPanic.normal ?_)
          go_wp2
          go_roundw
          case rel => exact ⟨k + 1, by omega, by go_num, HB8.out, HC8.out, by omega⟩
          case measure => simp [RowKit.intOf]; omega
    · obtain rfl : k = s.size := by omega
      have Hr0 : Hid (r = strOfNums (quoL s s.size)) := by show _ = _; rw [Hr.out]; unfold quoV; rw [if_neg (by omega), if_neg h0]
      have hS := bstring_calls w.heap.size w.heap.size (quoL s s.size) wr HB.out (by omega) (quoL_byte s _)
      go_wp2_with fail
      refine hS.mono ?_
      rintro e w8 ⟨rfl, c8⟩
      have HC8 : Hid (Below w.heap.size w w8) := HC.out.trans c8
      clear c8 hS
      go_wp2
      go_ret
      exact ⟨by rw [Hr0.out]; rfl, Chg.ofBelow HC8.out 0 0⟩

end Go.Proofs.YteaeikmgkmpkiaaGreatDoor

namespace Go.Proofs.YteaeikmgkmpkiaaGreatDoor
open Go.RowKit Go.Lib

theorem looseN_len : ∀ (f : Nat) (l : List UInt8), (looseN f l).length ≤ l.length
  | 0, _ => Nat.zero_le _
  | _ + 1, [] => Nat.le_refl _
  | n + 1, c :: r => by
    rw [looseN_c]
    split
    · have := looseN_len n (r.drop 2)
      rw [List.length_drop] at this
      simp only [List.length_cons]
      omega
    · have := looseN_len n r
      simp only [List.length_cons]
      omega

theorem looseV_size (s : ByteArray) : (looseV s).size ≤ s.size := by
  unfold looseV
  split
  · exact Nat.zero_le _
  · rw [strOfNums_size, Lib.size_eq s]
    exact looseN_len _ _

theorem str_eq_iff (a b : ByteArray) : a.toList = b.toList ↔ a = b := by
  rw [ByteArray.toList_eq, ByteArray.toList_eq]
  constructor
  · intro h
    apply ByteArray.ext
    apply Array.ext'
    exact h
  · rintro rfl; rfl

set_option maxRecDepth 20000 in
set_option maxHeartbeats 2000000 in
theorem implUnquote_calls (w : World) (s : ByteArray) (hl : s.size ≤ 1048576) (hE : SynE w) :
    Calls Tryz.prog 46 #[.string s] w fun e w' => e = .returned (unqV s) ∧ Chg 0 0 w w' := by
  obtain ⟨r, Hr⟩ : ∃ r, Hid (r = unqV s) := ⟨_, rfl⟩
  rw [← Hr.out]
  have HA : Hid (Chg 0 0 w (w.alloc (.cells #[.bool false, .string ⟨#[]⟩] 51))) := Chg.alloc (Chg.refl 0 0 w) _
  have HB : Hid ((w.alloc (.cells #[.bool false, .string ⟨#[]⟩] 51)).heap[w.heap.size]? = some (.cells #[.bool false, .string ⟨#[]⟩] 51 (0, 0))) := heap_new w _
  by_cases hs : s.toList = [37]
  · have hb : (s.toList == [37]) = true := by rw [hs]; rfl
    have hb2 : (s.toList != [37]) = false := by rw [hs]; rfl
    have hv : looseV s = ⟨#[]⟩ := by unfold looseV; rw [if_pos hs]
    have hq := fun W => implQuote_calls W ⟨#[]⟩ (by decide)
    have HU : Hid (r = if quoV ⟨#[]⟩ = s then unqO true ⟨#[]⟩ else unqO false ⟨#[]⟩) := by show _ = _; rw [Hr.out, unq_loose s, hv]
    clear hv
    generalize quoV ⟨#[]⟩ = q at *
    have xHC := HA
    have xHB := HB
    clear HA HB
    go_enter Tryz.func46, Tryz.ntmps46
    go_wp2_with fail
    generalize w.alloc (.cells #[.bool false, .string ⟨#[]⟩] 51) = w2 at *
    clear hs hb hb2
    refine (hq _).mono ?_
    rintro e w3 ⟨rfl, c3⟩
    have HC3 : Hid (Chg 0 0 w w3) := xHC.out.trans c3
    have HB3 := (c3.block _ (Array.getElem?_eq_some_iff.1 xHB.out).1 (by omega)).trans xHB.out
    clear c3 hq
    obtain ⟨y0, y1, yf0, yf1⟩ := two_cells HB3
    clear HB3
    by_cases hqs : q = s
    · have Hn : Hid (r = unqO true ⟨#[]⟩) := by show _ = _; rw [HU.out, if_pos hqs]
      have hne : (q.toList != s.toList) = false := by rw [hqs]; simp
      have hne2 : (q.toList == s.toList) = true := by rw [hqs]; simp
      clear hqs
      go_wp2
      rw [Hn.out]
      exact bodyPost_ret (v := unqO true ⟨#[]⟩) (by simp [results, Tryz.results46, go_sem, *]) rfl ⟨rfl, by refine Chg.setCell (Chg.setCell HC3.out ?_ _) ?_ _ <;> exact Or.inr (Nat.le_refl _)⟩
    · have Hn : Hid (r = unqO false ⟨#[]⟩) := by show _ = _; rw [HU.out, if_neg hqs]
      have hqs2 : ¬ q.toList = s.toList := fun h => hqs ((str_eq_iff q s).1 h)
      have hne : (q.toList != s.toList) = true := by rw [bne_iff_ne]; exact hqs2
      have hne2 : (q.toList == s.toList) = false := by rw [beq_eq_false_iff_ne]; exact hqs2
      clear hqs
      go_wp2
      rw [Hn.out]
      exact bodyPost_ret (v := unqO false ⟨#[]⟩) (by simp [results, Tryz.results46, go_sem, *]) rfl ⟨rfl, by refine Chg.setCell (Chg.setCell HC3.out ?_ _) ?_ _ <;> exact Or.inr (Nat.le_refl _)⟩
  · have hL := fun W (h : SynE W) => loose_calls W s hl h
    have hv : looseV s = strOfNums (looseN s.size s.data.toList) := by unfold looseV; rw [if_neg hs]
    rw [← hv] at hL
    have hb : (s.toList == [37]) = false := by rw [beq_eq_false_iff_ne]; exact hs
    have hb2 : (s.toList != [37]) = true := by rw [bne_iff_ne]; exact hs
    have hq := fun W => implQuote_calls W (looseV s) (by have := looseV_size s; omega)
    have HU : Hid (r = if quoV (looseV s) = s then unqO true (looseV s) else unqO false ⟨#[]⟩) := by show _ = _; rw [Hr.out]; exact unq_loose s
    clear hv
    generalize looseV s = d at *
    generalize quoV d = q at *
    have hE2 := hE.chg HA.out
    go_enter Tryz.func46, Tryz.ntmps46
    go_wp2_with fail
    generalize w.alloc (.cells #[.bool false, .string ⟨#[]⟩] 51) = w1 at *
    refine (hL _ hE2).mono ?_
    rintro e w2 ⟨rfl, c2⟩
    have yHC : Hid (Chg 0 0 w w2) := HA.out.trans c2
    have yHB : Hid (w2.heap[w.heap.size]? = some (.cells #[.bool false, .string ⟨#[]⟩] 51 (0, 0))) := (c2.block _ (Array.getElem?_eq_some_iff.1 HB.out).1 (by omega)).trans HB.out
    clear c2 hL hE2 HA HB hs hb hb2
    go_wp2_with fail
    refine (hq _).mono ?_
    rintro e w3 ⟨rfl, c3⟩
    have HC3 : Hid (Chg 0 0 w w3) := yHC.out.trans c3
    have HB3 := (c3.block _ (Array.getElem?_eq_some_iff.1 yHB.out).1 (by omega)).trans yHB.out
    clear c3 hq
    obtain ⟨y0, y1, yf0, yf1⟩ := two_cells HB3
    clear HB3
    by_cases hqs : q = s
    · have Hn : Hid (r = unqO true d) := by show _ = _; rw [HU.out, if_pos hqs]
      have hne : (q.toList != s.toList) = false := by rw [hqs]; simp
      have hne2 : (q.toList == s.toList) = true := by rw [hqs]; simp
      clear hqs
      go_wp2
      rw [Hn.out]
      exact bodyPost_ret (v := unqO true d) (by simp [results, Tryz.results46, go_sem, *]) rfl ⟨rfl, by refine Chg.setCell (Chg.setCell HC3.out ?_ _) ?_ _ <;> exact Or.inr (Nat.le_refl _)⟩
    · have Hn : Hid (r = unqO false ⟨#[]⟩) := by show _ = _; rw [HU.out, if_neg hqs]
      have hqs2 : ¬ q.toList = s.toList := fun h => hqs ((str_eq_iff q s).1 h)
      have hne : (q.toList != s.toList) = true := by rw [bne_iff_ne]; exact hqs2
      have hne2 : (q.toList == s.toList) = false := by rw [beq_eq_false_iff_ne]; exact hqs2
      clear hqs
      go_wp2
      rw [Hn.out]
      exact bodyPost_ret (v := unqO false ⟨#[]⟩) (by simp [results, Tryz.results46, go_sem, *]) rfl ⟨rfl, by refine Chg.setCell (Chg.setCell HC3.out ?_ _) ?_ _ <;> exact Or.inr (Nat.le_refl _)⟩

end Go.Proofs.YteaeikmgkmpkiaaGreatDoor

namespace Go.Proofs.YteaeikmgkmpkiaaGreatDoor
open Go.RowKit Go.Lib

/-- What is unquoted. -/
def unqD (x : ByteArray) : Option ByteArray := match unqR x with
  | none => none
  | some acc => some (strOfNums acc)
theorem unqD_none {x : ByteArray} (h : unqD x = none) : unqV x = unqO false ⟨#[]⟩ := by
  unfold unqD at h
  unfold unqV
  split at h
  · rename_i hr; rw [hr]
  · cases h
theorem unqD_some {x d : ByteArray} (h : unqD x = some d) : unqV x = unqO true d := by
  unfold unqD at h
  unfold unqV
  split at h
  · cases h
  · rename_i hr; injection h with h; rw [hr, ← h]

set_option maxHeartbeats 1000000 in
theorem takeData_ok : TakeOk 33 (fun s x => (unqD x).map fun d => { s with data := d }) := by
  intro W b s x hx _ _ hS _ _ hL
  have hb := hL.lt
  have hU := implUnquote_calls W x hx hS
  obtain ⟨g, d, e1, e2, HE⟩ : ∃ g d, unqV x = unqO g d ∧ ((unqD x).map fun d => { s with data := d }).isSome = g ∧ Hid (∀ s', ((unqD x).map fun d => { s with data := d }) = some s' → s' = { s with data := d }) := by
    cases hd : unqD x with
    | none => exact ⟨false, _, unqD_none hd, rfl, fun s' e => by cases e⟩
    | some d => exact ⟨true, d, unqD_some hd, rfl, fun s' e => by injection e with e; exact e.symm⟩
  rw [e1] at hU
  rw [e2]
  clear e1 e2
  go_enter Tryz.func33, Tryz.ntmps33
  go_wp2_with fail
  refine hU.mono ?_
  rintro e w2 ⟨rfl, c2⟩
  have c3 : Chg 0 0 W (w2.alloc (.cells #[.bool g, .string d] 51)) := c2.trans (Chg.alloc (Chg.refl 0 0 w2) _)
  have hs2 := c2.size
  obtain ⟨_, fz, hL4, c4⟩ := (hL.keep c3).put 7 (.string d) (s' := { s with data := d }) (fun nv => rfl) rfl
  obtain ⟨nv, h1, _⟩ := hL.keep c3
  have y : (w2.alloc (.cells #[.bool g, .string d] 51)).cell? ⟨b, 7, none⟩ = some (.string s.data) := by rw [Lib.cell_of_heap h1]; rfl
  have HL : Hid (LineAt ((w2.alloc (.cells #[.bool g, .string d] 51)).setCell ⟨b, 7, none⟩ (.string d)) b { s with data := d }) := hL4
  have HC : Hid (Chg b W.heap.size W ((w2.alloc (.cells #[.bool g, .string d] 51)).setCell ⟨b, 7, none⟩ (.string d))) := chg_into c3 c4
  have HO : Hid (Oth b W ((w2.alloc (.cells #[.bool g, .string d] 51)).setCell ⟨b, 7, none⟩ (.string d))) := oth_put c3 7 _
  have hne : b ≠ w2.heap.size := by omega
  obtain ⟨q0, q1, _, _⟩ := two_cells (heap_new w2 (.cells #[.bool g, .string d] 51))
  clear hL4 c4 h1 c3 c2 hU hL
  go_wp2
  go_ret
  exact ⟨rfl, fun s' e => by rw [HE.out s' e]; exact HL.out, HC.out, HO.out⟩

end Go.Proofs.YteaeikmgkmpkiaaGreatDoor
