/- Quoted data of the model: l14Plain, l14Hex, Quote. (made ahead of stage 12) -/
import Derived.Test.YtmbonljmghpcmaaDoorStrChr
import Derived.Test.YtmbonljmghpcmaaDoorBytSeen
import Derived.Test.YtmbonljmghpcmaaDoorAppSeen
import Derived.Test.YtmbonljmghpcmaaDoorViewStr
import Derived.Test.YtmbonljmghpcmaaDoorRowZ
import Derived.Test.YtmbonljmghpcmaaDoorHeld
import Derived.Test.YtmbonljmghpcmaaDoorWeak
import Derived.Lib.AppendStr
import Derived.Great.BuildSlice
import Derived.Deep.DeepCutAuto
namespace Go.Proofs.YtmbonljmghpcmaaDoor
open Go.RowKit Go.Lib

/-- A byte that is written as it is; a digit; what a byte is written as; a text up to k. -/
def plainC (c : Nat) : Bool := decide (33 ≤ c ∧ c ≤ 126 ∧ c ≠ 37)
def hexC (v : Nat) : Nat := if v < 10 then 48 + v else 87 + v
def quo1 (c : Nat) : List Int := if plainC c = true then [(c : Int)] else [37, (hexC (c / 16) : Int), (hexC (c % 16) : Int)]
def quoL (s : ByteArray) (k : Nat) : List Int := ((List.range k).map fun i => quo1 (chr s i)).flatten
def quoV (s : ByteArray) : ByteArray := if 65536 < s.size then ⟨#[]⟩ else if s.size = 0 then ⟨#[37]⟩ else strOfNums (quoL s s.size)
theorem quoL_succ (s : ByteArray) (k : Nat) : quoL s (k + 1) = quoL s k ++ quo1 (chr s k) := by unfold quoL; rw [List.range_succ, List.map_append, List.flatten_append]; simp
theorem quo1_len (c : Nat) : 1 ≤ (quo1 c).length ∧ (quo1 c).length ≤ 3 := by unfold quo1; split <;> simp
theorem quoL_len (s : ByteArray) (k : Nat) : k ≤ (quoL s k).length ∧ (quoL s k).length ≤ 3 * k := by
  induction k with
  | zero => simp [quoL]
  | succ k ih => rw [quoL_succ, List.length_append]; have := quo1_len (chr s k); omega
theorem hexC_lt (v : Nat) (h : v < 16) : hexC v < 256 := by unfold hexC; split <;> omega

set_option maxHeartbeats 400000 in
theorem l14Plain_calls (w : World) (c : Nat) (h : c < 256) :
    Calls Tryd.prog 21 #[.int .u8 (c : Int)] w fun e w' => e = .returned (.bool (plainC c)) ∧ w' = w := by
  obtain ⟨r, Hr⟩ : ∃ r, Hid (r = plainC c) := ⟨_, rfl⟩
  rw [← Hr.out]
  go_enter Tryd.func21, Tryd.ntmps21
  by_cases h1 : 33 ≤ c
  case neg =>
    have Hn : Hid (r = false) := by show _ = _; rw [Hr.out]; unfold plainC; rw [decide_eq_false (by omega)]
    go_wp2
    go_ret
    exact ⟨by rw [Hn.out]; rfl, rfl⟩
  by_cases h2 : c ≤ 126
  case neg =>
    have Hn : Hid (r = false) := by show _ = _; rw [Hr.out]; unfold plainC; rw [decide_eq_false (by omega)]
    go_wp2
    go_ret
    exact ⟨by rw [Hn.out]; rfl, rfl⟩
  by_cases h3 : c = 37
  · have Hn : Hid (r = false) := by show _ = _; rw [Hr.out]; unfold plainC; rw [decide_eq_false (by omega)]
    subst h3
    go_wp2
    go_ret
    exact ⟨by rw [Hn.out]; rfl, rfl⟩
  · have Hn : Hid (r = true) := by show _ = _; rw [Hr.out]; unfold plainC; rw [decide_eq_true ⟨h1, h2, h3⟩]
    have h4 : ((c : Int) != 37) = true := by simp; omega
    go_wp2
    go_ret
    exact ⟨by rw [Hn.out]; rfl, rfl⟩

set_option maxHeartbeats 2000000 in
theorem l14Hex_calls (w : World) (v : Nat) (h : v < 16) :
    Calls Tryd.prog 22 #[.int .u8 (v : Int)] w fun e w' => e = .returned (.string ⟨#[UInt8.ofNat (hexC v)]⟩) ∧ w' = w := by
  have hv : v = 0 ∨ v = 1 ∨ v = 2 ∨ v = 3 ∨ v = 4 ∨ v = 5 ∨ v = 6 ∨ v = 7 ∨ v = 8 ∨ v = 9 ∨ v = 10 ∨ v = 11 ∨ v = 12 ∨ v = 13 ∨ v = 14 ∨ v = 15 := by omega
  clear h
  rcases hv with rfl | rfl | rfl | rfl | rfl | rfl | rfl | rfl | rfl | rfl | rfl | rfl | rfl | rfl | rfl | rfl
  all_goals
    go_enter Tryd.func22, Tryd.ntmps22
    go_wp2
    go_ret
    exact ⟨rfl, rfl⟩

/-- append of a text to bytes of one's own. -/
theorem wp_app_text {o : Oper} {a : Act} {w : World} {K : Act → World → Prop} {Q : Exit → Act → World → Prop} (sl x : Operand)
    (ho : o.op = .call { callee := .builtin .append, args := #[sl, x], argTypes := #[22, 9] })
    (base : Nat) (sv : Value) (xs : List Int) (hs : a.eval sl = sv) (hO : OwnB w base 5 sv xs) (hbase : base ≤ w.heap.size) (ys : List Int) (s : ByteArray) (hx : a.eval x = .string s) (hc : strCells s = ys.map (Value.int .u8)) (hl : xs.length + ys.length ≤ 1048576)
    (h : ∀ v' w', OwnB w' base 5 v' (xs ++ ys) → Chg base w.heap.size w w' → K (a.put o.dst v') w') : o.wp Tryd.prog a w K Q := by
  obtain ⟨i, hi, hz0, hz1, hz2⟩ := info_parts Tryd.infoU1
  have hsz : s.size = ys.length := by rw [← strCells_length, hc, List.length_map]
  have hrow : w.ownsRow base 5 1 sv xs.length (xs.map (Value.int .u8)) := hO
  obtain ⟨v', w', hr, h2, h3, _⟩ := run_append_own_string (P := Tryd.prog) w base 22 9 o.type 5 i Tryd.underlying22 Tryd.underlying9 hi hz0 hz1 hz2 sv xs.length _ hrow s (by unfold maxLen; omega) (by omega) hbase
  have hfin := h v' w' (by unfold OwnB; rw [List.length_append, List.map_append, ← hc, ← hsz]; exact h2) (Chg.ofGrown h3 (fun g hg hlt => ⟨(World.ownsRow.lt hrow g hg).1, hlt⟩))
  unfold Oper.wp execOp
  simp only [ho, resolve, invoke, builtin, Sem.run_bind, Sem.run_pure, Result.andThen_ok, List.map_toArray, List.map_cons, List.map_nil, hs, hx, hr]
  exact hfin

theorem text3_cells (a b : Nat) (ha : a < 256) (hb : b < 256) : strCells ((⟨#[37]⟩ ++ ⟨#[UInt8.ofNat a]⟩) ++ ⟨#[UInt8.ofNat b]⟩) = [37, (a : Int), (b : Int)].map (Value.int .u8) := by
  have h1 : (UInt8.ofNat a).toNat = a := by rw [UInt8.toNat_ofNat']; omega
  have h2 : (UInt8.ofNat b).toNat = b := by rw [UInt8.toNat_ofNat']; omega
  simp [strCells, h1, h2]

set_option maxRecDepth 20000 in
set_option maxHeartbeats 2000000 in
theorem specQuote_calls (w : World) (s : ByteArray) (hl : s.size ≤ 1048576) :
    Calls Tryd.prog 16 #[.string s] w fun e w' => e = .returned (.string (quoV s)) ∧ Chg 0 0 w w' := by
  obtain ⟨r, Hr⟩ : ∃ r, Hid (r = quoV s) := ⟨_, rfl⟩
  rw [← Hr.out]
  have hmx : Tryd.prog.follows .mixedOrders = true := by kernel_rfl
  by_cases hbig : 65536 < s.size
  · have Hn : Hid (r = ⟨#[]⟩) := by show _ = _; rw [Hr.out]; unfold quoV; rw [if_pos hbig]
    go_enter Tryd.func16, Tryd.ntmps16
    go_wp2
    go_ret
    exact ⟨by rw [Hn.out]; rfl, Chg.refl _ _ _⟩
  have HO0 : Hid (OwnB (w.alloc (.cells #[] 5)) w.heap.size 5 (.slice (some ⟨w.heap.size, 0, none⟩) 0 0) []) := OwnB.bnil w w.heap.size (Nat.le_refl _)
  have C0 : Chg 0 0 w (w.alloc (.cells #[] 5)) := Chg.alloc (Chg.refl 0 0 w) _
  go_enter Tryd.func16, Tryd.ntmps16
  go_wp2
  go_loopw [3, 4] (fun o x wr => ∃ (k g cp : Nat), k ≤ s.size ∧ x = .int .i64 k ∧ o = .slice (some ⟨g, 0, none⟩) (quoL s k).length cp ∧ OwnB wr w.heap.size 5 (.slice (some ⟨g, 0, none⟩) (quoL s k).length cp) (quoL s k) ∧ Chg 0 0 w wr) (fun _ x _ => s.size - (RowKit.intOf x).toNat)
  case atStart => exact ⟨0, _, _, Nat.zero_le _, rfl, rfl, HO0.out, C0⟩
  case round =>
    obtain ⟨k, g, cp, hk, rfl, rfl, ho, hch⟩ := hrel
    obtain ⟨hq0, hq1⟩ := quoL_len s k
    have HO : Hid (OwnB wr w.heap.size 5 (.slice (some ⟨g, 0, none⟩) (quoL s k).length cp) (quoL s k)) := ho
    have HC : Hid (Chg 0 0 w wr) := hch
    have hsw := hch.size
    clear ho hch HO0 C0
    obtain ⟨n, hn⟩ : ∃ n, n = (quoL s k).length := ⟨_, rfl⟩
    rw [← hn] at HO hq0 hq1 ⊢
    have Hn : Hid (n = (quoL s k).length) := hn
    clear hn
    by_cases hlt : k < s.size
    · have hi : (k : Int) < (s.size : Int) := by omega
      have hcs : s[k].toNat = chr s k := (chr_lt hlt).symm
      have hc2 := chr_256 s k
      have HQ : Hid (quoL s (k + 1) = quoL s k ++ quo1 (chr s k)) := quoL_succ s k
      generalize chr s k = c at *
      have hN := fun W => l14Plain_calls W c hc2
      go_wp2_with fail
      refine (hN _).mono ?_
      rintro e wp ⟨rfl, rfl⟩
      by_cases hpl : plainC c = true
      · have Hq1 : Hid (quo1 c = [(c : Int)]) := by show _ = _; unfold quo1; rw [if_pos hpl]
        rw [hpl]
        clear hpl hN
        have cA : Chg 0 0 wp (wp.alloc (.cells #[.int .u8 (c : Int)] 5)) := Chg.alloc (Chg.refl 0 0 wp) _
        have VX : Hid (View (wp.alloc (.cells #[.int .u8 (c : Int)] 5)) wp.heap.size (wp.heap.size + 1) .u8 (.slice (some ⟨wp.heap.size, 0, none⟩) 1 1) [(c : Int)]) := by
          have h := row_view (w := wp.alloc (.cells #[.int .u8 (c : Int)] 5)) (b := wp.heap.size) (xs := [(c : Int)]) (t := 5) (heap_new wp _) 0 1 1 (by simp) (by simp) (Nat.le_refl _)
          exact h
        have HOA : Hid (OwnB (wp.alloc (.cells #[.int .u8 (c : Int)] 5)) w.heap.size 5 (.slice (some ⟨g, 0, none⟩) n cp) (quoL s k)) := HO.out.chg cA (fun g' _ => by omega)
        have HCA : Hid (Chg 0 0 w (wp.alloc (.cells #[.int .u8 (c : Int)] 5))) := HC.out.trans cA
        have sA : wp.heap.size + 1 ≤ (wp.alloc (.cells #[.int .u8 (c : Int)] 5)).heap.size := by simp
        clear cA
        go_wp2_with (refine wpList_app_seen rfl (.tmp 19) (.tmp 23) rfl w.heap.size (.slice (some ⟨g, 0, none⟩) n cp) (quoL s k) rfl HOA.out (by omega) wp.heap.size (wp.heap.size + 1) (.slice (some ⟨wp.heap.size, 0, none⟩) 1 1) [(c : Int)] rfl VX.out (by simp) (by rw [← Hn.out]; simp only [List.length_cons, List.length_nil]; omega) ?_; intro v8 w8 o8 c8)
        obtain ⟨g8, cp8, rfl⟩ := o8.some_of (by rw [List.length_append]; simp)
        have HO8 : Hid (OwnB w8 w.heap.size 5 (.slice (some ⟨g8, 0, none⟩) (quoL s (k + 1)).length cp8) (quoL s (k + 1))) := by
          rw [HQ.out, Hq1.out]
          exact o8
        have HC8 : Hid (Chg 0 0 w w8) := HCA.out.step c8 (by omega)
        rw [show quoL s k ++ [(c : Int)] = quoL s (k + 1) by rw [HQ.out, Hq1.out]]
        clear o8 c8
        go_wp2
        go_roundw
        case rel => exact ⟨k + 1, g8, cp8, by omega, by go_num, rfl, HO8.out, HC8.out⟩
        case measure => simp [RowKit.intOf]; omega
      · have Hq1 : Hid (quo1 c = [37, (hexC (c / 16) : Int), (hexC (c % 16) : Int)]) := by show _ = _; unfold quo1; rw [if_neg hpl]
        obtain ⟨qa, hqa⟩ : ∃ qa, qa = c / 16 := ⟨_, rfl⟩
        obtain ⟨qb, hqb⟩ : ∃ qb, qb = c % 16 := ⟨_, rfl⟩
        rw [← hqa, ← hqb] at Hq1
        rw [Bool.not_eq_true] at hpl
        rw [hpl]
        clear hpl hN
        have e1 : (c : Int).tdiv 16 = (qa : Int) := by rw [Int.tdiv_eq_ediv_of_nonneg (by omega)]; omega
        have e2 : (c : Int).tmod 16 = (qb : Int) := by rw [Int.tmod_eq_emod_of_nonneg (by omega)]; omega
        have ha16 : qa < 16 := by omega
        have hb16 : qb < 16 := by omega
        have e3 : IntKind.u8.wrap (qa : Int) = (qa : Int) := by rw [IntKind.wrap_u8]; omega
        have e4 : IntKind.u8.wrap (qb : Int) = (qb : Int) := by rw [IntKind.wrap_u8]; omega
        clear hqa hqb
        have HOd : Hid (OwnB wp.drew w.heap.size 5 (.slice (some ⟨g, 0, none⟩) n cp) (quoL s k)) := HO.out.chg (Chg.drew (Chg.refl 0 0 wp)) (fun g' _ => by omega)
        have HCd : Hid (Chg 0 0 w wp.drew) := HC.out.trans (Chg.drew (Chg.refl 0 0 wp))
        have HT : Hid ((fun _ : World => True) wp.drew) := trivial
        go_wp2
        refine held_region (fun _ : World => True) hmx ?_
        generalize wp.drew = wd at *
        refine held_take 0 (.slice (some ⟨g, 0, none⟩) n cp) rfl (by kernel_rfl) (by kernel_rfl) (by kernel_rfl) (fun _ _ _ h => h) (.inl ⟨by kernel_rfl, fun w' hw' => by go_simp⟩) trivial ?_
        go_simp
        refine held_take 1 (.string s) rfl (by kernel_rfl) (by kernel_rfl) (by kernel_rfl) (fun _ _ _ h => h) (.inl ⟨by kernel_rfl, fun w' hw' => by go_simp⟩) trivial ?_
        go_simp
        refine held_take 2 (.int .i64 (k : Int)) rfl (by kernel_rfl) (by kernel_rfl) (by kernel_rfl) (fun _ _ _ h => h) (.inl ⟨by kernel_rfl, fun w' hw' => by go_simp⟩) trivial ?_
        go_simp
        refine held_take 3 (.int .u8 (c : Int)) rfl (by kernel_rfl) (by kernel_rfl) (by kernel_rfl) (fun _ _ _ h => h) (.inl ⟨by kernel_rfl, fun w' hw' => by go_simp⟩) trivial ?_
        go_simp
        refine held_take 4 (.int .u8 (qa : Int)) rfl (by kernel_rfl) (by kernel_rfl) (by kernel_rfl) (fun _ _ _ h => h) (.inl ⟨by kernel_rfl, fun w' hw' => by go_simp⟩) trivial ?_
        go_simp
        refine held_take 7 (.string s) rfl (by kernel_rfl) (by kernel_rfl) (by kernel_rfl) (fun _ _ _ h => h) (.inl ⟨by kernel_rfl, fun w' hw' => by go_simp⟩) trivial ?_
        go_simp
        refine held_take 8 (.int .i64 (k : Int)) rfl (by kernel_rfl) (by kernel_rfl) (by kernel_rfl) (fun _ _ _ h => h) (.inl ⟨by kernel_rfl, fun w' hw' => by go_simp⟩) trivial ?_
        go_simp
        refine held_take 9 (.int .u8 (c : Int)) rfl (by kernel_rfl) (by kernel_rfl) (by kernel_rfl) (fun _ _ _ h => h) (.inl ⟨by kernel_rfl, fun w' hw' => by go_simp⟩) trivial ?_
        go_simp
        refine held_take 10 (.int .u8 (qb : Int)) rfl (by kernel_rfl) (by kernel_rfl) (by kernel_rfl) (fun _ _ _ h => h) (.inl ⟨by kernel_rfl, fun w' hw' => by go_simp⟩) trivial ?_
        go_simp
        refine held_one 5 rfl rfl (by kernel_rfl) ?_
        refine wp_enter 22 #[.int .u8 (qa : Int)] (by first | kernel_rfl | go_simp) (l14Hex_calls _ _ (by omega)) ?_
        rintro e w5 ⟨rfl, rfl⟩
        refine ⟨_, rfl, trivial, ?_⟩
        go_simp
        refine held_take 6 (.string (⟨#[37]⟩ ++ ⟨#[UInt8.ofNat (hexC qa)]⟩)) rfl (by kernel_rfl) (by kernel_rfl) (by kernel_rfl) (fun _ _ _ h => h) (.inl ⟨by kernel_rfl, fun w' hw' => by go_simp⟩) trivial ?_
        go_simp
        refine held_one 11 rfl rfl (by kernel_rfl) ?_
        refine wp_enter 22 #[.int .u8 (qb : Int)] (by first | kernel_rfl | go_simp) (l14Hex_calls _ _ (by omega)) ?_
        rintro e w6 ⟨rfl, rfl⟩
        refine ⟨_, rfl, trivial, ?_⟩
        go_simp
        refine held_take 12 (.string ((⟨#[37]⟩ ++ ⟨#[UInt8.ofNat (hexC qa)]⟩) ++ ⟨#[UInt8.ofNat (hexC qb)]⟩)) rfl (by kernel_rfl) (by kernel_rfl) (by kernel_rfl) (fun _ _ _ h => h) (.inl ⟨by kernel_rfl, fun w' hw' => by go_simp⟩) trivial ?_
        go_simp
        refine held_one 13 rfl rfl (by kernel_rfl) ?_
        refine wp_app_text (.tmp 25) (.tmp 37) rfl w.heap.size (.slice (some ⟨g, 0, none⟩) n cp) (quoL s k) rfl HOd.out (by have := HCd.out.size; omega) [37, hexC qa, hexC qb] _ rfl (text3_cells _ _ (hexC_lt _ (by omega)) (hexC_lt _ (by omega))) (by rw [← Hn.out]; simp only [List.length_cons, List.length_nil]; omega) ?_
        intro v8 w8 o8 c8
        obtain ⟨g8, cp8, rfl⟩ := o8.some_of (by rw [List.length_append]; simp)
        have HO8 : Hid (OwnB w8 w.heap.size 5 (.slice (some ⟨g8, 0, none⟩) (quoL s (k + 1)).length cp8) (quoL s (k + 1))) := by
          rw [HQ.out, Hq1.out]
          exact o8
        have HC8 : Hid (Chg 0 0 w w8) := HCd.out.step c8 (by omega)
        rw [show (quoL s k ++ [37, (hexC qa : Int), (hexC qb : Int)]) = quoL s (k + 1) by rw [HQ.out, Hq1.out]]
        clear o8 c8
        refine ⟨trivial, ?_⟩
        go_simp
        refine held_take 14 (.slice (some ⟨g8, 0, none⟩) (quoL s (k + 1)).length cp8) rfl (by kernel_rfl) (by kernel_rfl) (by kernel_rfl) (fun _ _ _ h => h) (.inl ⟨by kernel_rfl, fun w' hw' => by go_simp⟩) trivial ?_
        go_simp
        refine held_done (by kernel_rfl) (NoPanic.normal ?_)
        go_wp2
        go_roundw
        case rel => exact ⟨k + 1, g8, cp8, by omega, by go_num, rfl, HO8.out, HC8.out⟩
        case measure => simp [RowKit.intOf]; omega
    · obtain rfl : k = s.size := by omega
      have HV := HO.out.seen (by rw [← Hn.out]; omega)
      have hst := HV.str
      by_cases h0 : s.size = 0
      · have Hr0 : Hid (r = ⟨#[37]⟩) := by show _ = _; rw [Hr.out]; unfold quoV; rw [if_neg (by omega), if_pos h0]
        clear hst HV
        go_wp2
        go_ret
        exact ⟨by rw [Hr0.out]; rfl, HC.out⟩
      · have Hr0 : Hid (r = strOfNums (quoL s s.size)) := by show _ = _; rw [Hr.out]; unfold quoV; rw [if_neg (by omega), if_neg h0]
        have h00 : ¬ (s.size : Int) = 0 := by omega
        have h01 : ((s.size : Int) == 0) = false := by rw [beq_eq_false_iff_ne]; omega
        clear HV
        go_wp2
        go_ret
        exact ⟨by rw [Hr0.out]; rfl, HC.out⟩

end Go.Proofs.YtmbonljmghpcmaaDoor
