/- Several short texts in one: LooseMath, ImplQuote. -/
import Derived.Test.YtacfkgfemmgpkaaGreatDoorQuoteMath
import Derived.Test.YtacfkgfemmgpkaaGreatDoorNumImpl
import Derived.Test.YtacfkgfemmgpkaaGreatDoorQuoteSpec
import Derived.Test.YtacfkgfemmgpkaaGreatDoorBld
namespace Go.Proofs.YtacfkgfemmgpkaaGreatDoor
open Go.RowKit Go.Lib

theorem puV_hex_all : ∀ x : Fin 256, puV [UInt8.ofNat (hexC (x.val / 16)), UInt8.ofNat (hexC (x.val % 16))] = x.val := by decide +kernel

theorem loose_quo : ∀ (xs : List Nat), (∀ x ∈ xs, x < 256) → ∀ f, (quoN xs).length ≤ f → looseN f ((quoN xs).map fun n => UInt8.ofNat n.toNat) = xs.map fun (x : Nat) => (x : Int)
  | [], _, f, _ => by cases f <;> rfl
  | x :: xs, hb, f, hf => by
    have hx : x < 256 := hb x (List.mem_cons_self ..)
    have ih := loose_quo xs (fun y hy => hb y (List.mem_cons_of_mem _ hy))
    rw [quoN_cons, List.length_append] at hf
    rw [quoN_cons, List.map_append, List.map_cons]
    unfold quo1 at hf ⊢
    by_cases hp : plainC x = true
    · rw [if_pos hp] at hf ⊢
      have h37 : x ≠ 37 := by rintro rfl; exact absurd hp (by decide)
      obtain ⟨f', rfl⟩ : ∃ f', f = f' + 1 := ⟨f - 1, by simp at hf; omega⟩
      have e : (UInt8.ofNat ((x : Nat) : Int).toNat).toNat = x := by rw [Int.toNat_natCast, UInt8.toNat_ofNat']; omega
      show looseN (f' + 1) (UInt8.ofNat ((x : Nat) : Int).toNat :: (quoN xs).map _) = _
      rw [looseN_c, e, if_neg (by omega), ih f' (by simp at hf; omega)]
    · rw [if_neg hp] at hf ⊢
      obtain ⟨f', rfl⟩ : ∃ f', f = f' + 1 := ⟨f - 1, by simp at hf; omega⟩
      show looseN (f' + 1) (UInt8.ofNat 37 :: UInt8.ofNat (hexC (x / 16)) :: UInt8.ofNat (hexC (x % 16)) :: (quoN xs).map _) = _
      rw [looseN_c, if_pos ⟨rfl, by simp⟩]
      show (puV [UInt8.ofNat (hexC (x / 16)), UInt8.ofNat (hexC (x % 16))] : Int) :: looseN f' ((quoN xs).map _) = _
      rw [puV_hex_all ⟨x, hx⟩, ih f' (by simp at hf; omega)]

/-- What the program takes a text for. -/
def looseV (s : ByteArray) : ByteArray := if s.toList = [37] then ⟨#[]⟩ else strOfNums (looseN s.size s.data.toList)

theorem loose_of {s d : ByteArray} (h : quoV d = s) (hd : d.size ≤ 65536) : looseV s = d := by
  subst h
  have hst := str_bytN d
  unfold quoV
  rw [if_neg (by omega)]
  by_cases h0 : d.size = 0
  · rw [if_pos h0]
    unfold looseV
    rw [if_pos (toList_eq37.2 rfl)]
    have : bytN d = [] := by unfold bytN; rw [h0]; rfl
    rw [this] at hst
    rw [← hst]; rfl
  · have hset : ∀ y ∈ quoN (bytN d), 0 ≤ y ∧ y < 256 := fun y hy => by have := quoN_set (bytN_lt d) y hy; omega
    rw [if_neg h0, quoL_all]
    unfold looseV
    rw [if_neg (fun h' => quoN_37 (str_37 hset (toList_eq37.1 h'))), strOfNums_data, strOfNums_size, loose_quo _ (bytN_lt d) _ (Nat.le_refl _), hst]

theorem unqV_is' (s : ByteArray) : (∃ d, unqV s = unqO true d) ∨ unqV s = unqO false ⟨#[]⟩ := by
  unfold unqV
  split
  · exact Or.inr rfl
  · exact Or.inl ⟨_, rfl⟩

theorem unqO_ne {d e : ByteArray} : unqO true d ≠ unqO false e := by
  intro h
  simp [unqO] at h

theorem nil_ne : ¬ (⟨#[]⟩ : ByteArray).toList = [37] := by
  rw [ByteArray.toList_eq]
  intro h
  cases h

theorem unq_nothing : unqV ⟨#[]⟩ = unqO false ⟨#[]⟩ := by
  have e : unqF ⟨#[]⟩ ((⟨#[]⟩ : ByteArray).size + 1) 0 [] = some [] := by
    unfold unqF
    rw [if_pos (show (⟨#[]⟩ : ByteArray).size ≤ 0 from Nat.le_refl 0)]
  have e2 : unqR ⟨#[]⟩ = none := by
    unfold unqR
    rw [if_neg nil_ne, e]
    rfl
  unfold unqV
  rw [e2]

theorem unq_loose (s : ByteArray) : unqV s = if quoV (looseV s) = s then unqO true (looseV s) else unqO false ⟨#[]⟩ := by
  rcases unqV_is' s with ⟨d, h⟩ | h
  · have hf := forth h
    by_cases hd : d.size ≤ 65536
    · rw [loose_of hf hd, if_pos hf, h]
    · exfalso
      unfold quoV at hf
      rw [if_pos (by omega)] at hf
      subst hf
      rw [unq_nothing] at h
      exact unqO_ne h.symm
  · rw [h]
    split
    · rename_i hq
      exfalso
      by_cases hd : (looseV s).size ≤ 65536
      · have hb := back hd
        rw [hq, h] at hb
        exact unqO_ne hb.symm
      · unfold quoV at hq
        rw [if_pos (by omega)] at hq
        subst hq
        exact hd (by unfold looseV; rw [if_neg nil_ne]; exact Nat.zero_le _)
    · rfl

end Go.Proofs.YtacfkgfemmgpkaaGreatDoor

namespace Go.Proofs.YtacfkgfemmgpkaaGreatDoor
open Go.RowKit Go.Lib

theorem quoL_byte (s : ByteArray) (k : Nat) : ∀ x ∈ quoL s k, 0 ≤ x ∧ x < 256 := by
  induction k with
  | zero => simp [quoL]
  | succ k ih =>
    rw [quoL_succ]
    intro x hx
    rcases List.mem_append.1 hx with h | h
    · exact ih x h
    · have hc := chr_256 s k
      unfold quo1 at h
      split at h
      · simp only [List.mem_singleton] at h; omega
      · have h1 := hexC_lt (chr s k / 16) (by omega)
        have h2 := hexC_lt (chr s k % 16) (by omega)
        simp only [List.mem_cons, List.not_mem_nil, or_false] at h
        omega

theorem fill_three (A : Array Value) (hr : A.size = 3) (a b c : Int) (k : IntKind) : Instr.fill (fun i => some (i * 1, 1)) A [(0, .int k a), (1, .int k b), (2, .int k c)] = some #[.int k a, .int k b, .int k c] := by
  rcases A with ⟨l⟩
  rcases l with _ | ⟨x, _ | ⟨y, _ | ⟨z, _ | ⟨u, l⟩⟩⟩⟩ <;> simp at hr
  rfl

theorem and_low_all : ∀ y : Fin 256, bits BinOp.and IntKind.u8 ((y.val : Nat) : Int) 15 = ((y.val % 16 : Nat) : Int) := by decide +kernel
theorem and_low (y : Nat) (h : y < 256) : bits BinOp.and IntKind.u8 (y : Int) 15 = ((y % 16 : Nat) : Int) := and_low_all ⟨y, h⟩

theorem hex_at (v : Nat) (h : v < 16) (hh : v < (⟨#[48, 49, 50, 51, 52, 53, 54, 55, 56, 57, 97, 98, 99, 100, 101, 102]⟩ : ByteArray).size) : (⟨#[48, 49, 50, 51, 52, 53, 54, 55, 56, 57, 97, 98, 99, 100, 101, 102]⟩ : ByteArray)[v].toNat = hexC v := by
  have hv : v = 0 ∨ v = 1 ∨ v = 2 ∨ v = 3 ∨ v = 4 ∨ v = 5 ∨ v = 6 ∨ v = 7 ∨ v = 8 ∨ v = 9 ∨ v = 10 ∨ v = 11 ∨ v = 12 ∨ v = 13 ∨ v = 14 ∨ v = 15 := by omega
  rcases hv with rfl | rfl | rfl | rfl | rfl | rfl | rfl | rfl | rfl | rfl | rfl | rfl | rfl | rfl | rfl | rfl <;> rfl

set_option maxRecDepth 20000 in
set_option maxHeartbeats 2000000 in
theorem implQuote_calls (w : World) (s : ByteArray) (hl : s.size ≤ 1048576) :
    Calls Tryz.prog 58 #[.string s] w fun e w' => e = .returned (.string (quoV s)) ∧ Chg 0 0 w w' := by
  obtain ⟨r, Hr⟩ : ∃ r, Hid (r = quoV s) := ⟨_, rfl⟩
  rw [← Hr.out]
  have hmx : Tryz.prog.follows .mixedOrders = true := by kernel_rfl
  by_cases hbig : 65536 < s.size
  · have Hn : Hid (r = ⟨#[]⟩) := by show _ = _; rw [Hr.out]; unfold quoV; rw [if_pos hbig]
    go_enter Tryz.func58, Tryz.ntmps58
    go_wp2
    go_ret
    exact ⟨by rw [Hn.out]; rfl, Chg.refl _ _ _⟩
  by_cases h0 : s.size = 0
  · have Hn : Hid (r = ⟨#[37]⟩) := by show _ = _; rw [Hr.out]; unfold quoV; rw [if_neg hbig, if_pos h0]
    obtain rfl : s = ⟨#[]⟩ := by
      rcases s with ⟨⟨l⟩⟩
      cases l with
      | nil => rfl
      | cons x l => simp [ByteArray.size] at h0
    go_enter Tryz.func58, Tryz.ntmps58
    go_wp2
    go_ret
    exact ⟨by rw [Hn.out]; rfl, Chg.refl _ _ _⟩
  have hne : s.toList.isEmpty = false := by
    rw [ByteArray.toList_eq]
    rcases s with ⟨⟨l⟩⟩
    cases l with
    | nil => exact absurd rfl h0
    | cons x l => rfl
  have HB0 : Hid (Bd w.heap.size w.heap.size (quoL s 0) (w.alloc (.cells #[.pointer none, .slice none 0 0] 96))) := bd_new w
  have HC0 : Hid (Below w.heap.size w (w.alloc (.cells #[.pointer none, .slice none 0 0] 96))) := (Below.refl _ _).alloc (Nat.le_refl _) _
  have hs0 : w.heap.size + 1 ≤ (w.alloc (.cells #[.pointer none, .slice none 0 0] 96)).heap.size := by simp
  go_enter Tryz.func58, Tryz.ntmps58
  go_wp2
  clear hne
  go_loopw [13] (fun x wr => ∃ (k : Nat), k ≤ s.size ∧ x = .int .i64 k ∧ Bd w.heap.size w.heap.size (quoL s k) wr ∧ Below w.heap.size w wr ∧ w.heap.size + 1 ≤ wr.heap.size) (fun x _ => s.size - (RowKit.intOf x).toNat)
  case atStart => exact ⟨0, Nat.zero_le _, rfl, HB0.out, HC0.out, hs0⟩
  case round =>
    obtain ⟨k, hk, rfl, hb, hch, hsz⟩ := hrel
    obtain ⟨hq0, hq1⟩ := quoL_len s k
    have HB : Hid (Bd w.heap.size w.heap.size (quoL s k) wr) := hb
    have HC : Hid (Below w.heap.size w wr) := hch
    clear hb hch HB0 HC0 hs0
    by_cases hlt : k < s.size
    · have hi : (k : Int) < (s.size : Int) := by omega
      have hcs : s[k].toNat = chr s k := (chr_lt hlt).symm
      have hc2 := chr_256 s k
      have HQ : Hid (quoL s (k + 1) = quoL s k ++ quo1 (chr s k)) := quoL_succ s k
      generalize chr s k = c at *
      have e0 : IntKind.i64.wrap (c : Int) = (c : Int) := by rw [IntKind.wrap_i64]; omega
      have hN := isWithin_calls wr (c : Int) 33 126
      go_wp2_with fail
      refine hN.mono ?_
      rintro e wp ⟨rfl, rfl⟩
      by_cases hpl : plainC c = true
      · have Hq1 : Hid (quo1 c = [(c : Int)]) := by show _ = _; unfold quo1; rw [if_pos hpl]
        have hp : 33 ≤ c ∧ c ≤ 126 ∧ c ≠ 37 := by unfold plainC at hpl; exact of_decide_eq_true hpl
        have hd1 : (decide ((33 : Int) ≤ (c : Int)) && decide ((c : Int) ≤ 126)) = true := by simp; omega
        have hd2 : ((c : Int) != 37) = true := by simp; omega
        rw [hd1]
        clear hpl hN
        have hW := writeByte_calls w.heap.size w.heap.size (quoL s k) (c : Int) wp HB.out (by omega) (by omega)
        go_wp2_with fail
        refine hW.mono ?_
        rintro e w8 ⟨rfl, b8, c8⟩
        have HB8 : Hid (Bd w.heap.size w.heap.size (quoL s (k + 1)) w8) := by rw [HQ.out, Hq1.out]; exact b8
        have HC8 : Hid (Below w.heap.size w w8) := HC.out.trans c8
        have hs8 := c8.size
        clear b8 c8 hW
        go_wp2
        go_roundw
        case rel => exact ⟨k + 1, by omega, by go_num, HB8.out, HC8.out, by omega⟩
        case measure => simp [RowKit.intOf]; omega
      · have Hq1 : Hid (quo1 c = [37, (hexC (c / 16) : Int), (hexC (c % 16) : Int)]) := by show _ = _; unfold quo1; rw [if_neg hpl]
        obtain ⟨qa, hqa⟩ : ∃ qa, qa = c / 16 := ⟨_, rfl⟩
        obtain ⟨qb, hqb⟩ : ∃ qb, qb = c % 16 := ⟨_, rfl⟩
        rw [← hqa, ← hqb] at Hq1
        have hp : ¬ (33 ≤ c ∧ c ≤ 126 ∧ c ≠ 37) := by unfold plainC at hpl; exact fun h => hpl (decide_eq_true h)
        clear hpl hN
        have ha16 : qa < 16 := by omega
        have hb16 : qb < 16 := by omega
        have e1 : (c : Int) / 16 = (qa : Int) := by omega
        have e2 : (c : Int) % 16 = (qb : Int) := by omega
        have e3 : IntKind.u8.wrap (qa : Int) = (qa : Int) := by rw [IntKind.wrap_u8]; omega
        have e4 : IntKind.u8.wrap (qb : Int) = (qb : Int) := by rw [IntKind.wrap_u8]; omega
        have e5 : bits BinOp.and IntKind.u8 (c : Int) 15 = (qb : Int) := by rw [and_low c (by omega), hqb]
        clear hqa hqb
        obtain ⟨t, ht⟩ : ∃ t, t = (decide ((33 : Int) ≤ (c : Int)) && decide ((c : Int) ≤ 126)) := ⟨_, rfl⟩
        rw [← ht]
        have ht2 : t = true → ((c : Int) != 37) = false := by
          intro h
          rw [ht] at h
          simp at h
          simp
          omega
        clear ht
        have hsd : wp.heap.size ≤ wp.drew.heap.size := Nat.le_refl _
        have HBd : Hid (Bd w.heap.size w.heap.size (quoL s k) wp.drew) := HB.out.chg (Chg.drew (Chg.refl 0 0 wp)) (Or.inr (Or.inr (Nat.le_refl 0)))
        have HCd : Hid (Below w.heap.size w wp.drew) := HC.out.drew
        cases t
        all_goals
          go_wp2
          refine held_region (fun _ : World => True) hmx ?_
          generalize wp.drew = wd at *
          refine held_take 0 (.int .u8 (c : Int)) rfl (by kernel_rfl) (by kernel_rfl) (by kernel_rfl) (fun _ _ _ h => h) (.inl ⟨by kernel_rfl, fun w' hw' => by go_simp⟩) trivial ?_
          go_simp
          refine held_take 1 (.int .u8 (qa : Int)) rfl (by kernel_rfl) (by kernel_rfl) (by kernel_rfl) (fun _ _ _ h => h) (.inl ⟨by kernel_rfl, fun w' hw' => by go_simp⟩) trivial ?_
          go_simp
          refine held_take 2 (.int .u8 (hexC qa : Int)) rfl (by kernel_rfl) (by kernel_rfl) (by kernel_rfl) (fun _ _ _ h => h) (.inl ⟨by kernel_rfl, fun w' hw' => by go_simp; rw [dif_pos (by omega), hex_at _ ha16]; rfl⟩) trivial ?_
          go_simp
          refine held_take 3 (.int .u8 (c : Int)) rfl (by kernel_rfl) (by kernel_rfl) (by kernel_rfl) (fun _ _ _ h => h) (.inl ⟨by kernel_rfl, fun w' hw' => by go_simp⟩) trivial ?_
          go_simp
          refine held_take 4 (.int .u8 (qb : Int)) rfl (by kernel_rfl) (by kernel_rfl) (by kernel_rfl) (fun _ _ _ h => h) (.inl ⟨by kernel_rfl, fun w' hw' => by go_simp⟩) trivial ?_
          go_simp
          refine held_take 5 (.int .u8 (hexC qb : Int)) rfl (by kernel_rfl) (by kernel_rfl) (by kernel_rfl) (fun _ _ _ h => h) (.inl ⟨by kernel_rfl, fun w' hw' => by go_simp; rw [dif_pos (by omega), hex_at _ hb16]; rfl⟩) trivial ?_
          go_simp
          refine held_one 6 rfl rfl (by kernel_rfl) ?_
          obtain ⟨ic, hic, hcz0, hcz1, hcz2⟩ := info_parts Tryz.infoU1
          refine wp_buildSlice 22 5 3 #[(0, .const (.int .u8 37)), (1, .tmp 30), (2, .tmp 33)] rfl #[.int .u8 37, .int .u8 (hexC qa), .int .u8 (hexC qb)] ic _ Tryz.underlying22 hic hcz0 (by rw [hcz1]; decide) (by rw [hcz1]; decide) (by rw [hcz1, Array.toList_map]; refine fill_three _ ?_ _ _ _ _; simp) ?_
          have VX : Hid (View (wd.alloc (.cells #[.int .u8 37, .int .u8 (hexC qa), .int .u8 (hexC qb)] 5)) wd.heap.size (wd.heap.size + 1) .u8 (.slice (some ⟨wd.heap.size, 0, none⟩) 3 3) [37, (hexC qa : Int), (hexC qb : Int)]) := by
            have h := row_view (w := wd.alloc (.cells #[.int .u8 37, .int .u8 (hexC qa), .int .u8 (hexC qb)] 5)) (b := wd.heap.size) (xs := [37, (hexC qa : Int), (hexC qb : Int)]) (t := 5) (heap_new wd _) 0 3 3 (by simp) (by simp) (Nat.le_refl _)
            exact h
          have cA : Chg 0 0 wd (wd.alloc (.cells #[.int .u8 37, .int .u8 (hexC qa), .int .u8 (hexC qb)] 5)) := Chg.alloc (Chg.refl 0 0 wd) _
          have HBA : Hid (Bd w.heap.size w.heap.size (quoL s k) (wd.alloc (.cells #[.int .u8 37, .int .u8 (hexC qa), .int .u8 (hexC qb)] 5))) := HBd.out.chg cA (by omega)
          have HCA : Hid (Below w.heap.size w (wd.alloc (.cells #[.int .u8 37, .int .u8 (hexC qa), .int .u8 (hexC qb)] 5))) := HCd.out.trans (cA.belowN (Or.inr (Nat.le_refl 0)) (by omega))
          have sA : (wd.alloc (.cells #[.int .u8 37, .int .u8 (hexC qa), .int .u8 (hexC qb)] 5)).heap.size = wd.heap.size + 1 := by simp
          generalize wd.alloc (.cells #[.int .u8 37, .int .u8 (hexC qa), .int .u8 (hexC qb)] 5) = wa at *
          refine ⟨trivial, ?_⟩
          go_simp
          refine held_one 7 rfl rfl (by kernel_rfl) ?_
          refine wp_enter 73 #[.pointer (some ⟨w.heap.size, 0, none⟩), .slice (some ⟨wd.heap.size, 0, none⟩) 3 3] (by first | kernel_rfl | go_simp) (write_calls w.heap.size w.heap.size (quoL s k) [37, (hexC qa : Int), (hexC qb : Int)] wa HBA.out (by omega) VX.out (by omega) (by simp) (by simp only [List.length_cons, List.length_nil]; omega)) ?_
          rintro e w8 ⟨rfl, b8, c8⟩
          have HB8 : Hid (Bd w.heap.size w.heap.size (quoL s (k + 1)) w8) := by rw [HQ.out, Hq1.out]; exact b8
          have HC8 : Hid (Below w.heap.size w w8) := HCA.out.trans c8
          have hs8 := c8.size
          clear b8 c8
          refine ⟨_, rfl, trivial, ?_⟩
          go_simp
          refine held_done (by kernel_rfl) (NoPanic.normal ?_)
          go_wp2
          go_roundw
          case rel => exact ⟨k + 1, by omega, by go_num, HB8.out, HC8.out, by omega⟩
          case measure => simp [RowKit.intOf]; omega
    · obtain rfl : k = s.size := by omega
      have Hr0 : Hid (r = strOfNums (quoL s s.size)) := by show _ = _; rw [Hr.out]; unfold quoV; rw [if_neg (by omega), if_neg h0]
      have hS := bstring_calls w.heap.size w.heap.size (quoL s s.size) wr HB.out (by omega) (quoL_byte s _)
      go_wp2_with fail
      refine hS.mono ?_
      rintro e w8 ⟨rfl, c8⟩
      have HC8 : Hid (Below w.heap.size w w8) := HC.out.trans c8
      clear c8 hS
      go_wp2
      go_ret
      exact ⟨by rw [Hr0.out]; rfl, Chg.ofBelow HC8.out 0 0⟩

end Go.Proofs.YtacfkgfemmgpkaaGreatDoor
