/- Several short texts in one: Join2, Byt, CrcMath, Steps. -/
import Derived.Test.YtmfkgnifkkkkiaaDoorGeoSpec
import Derived.Test.YtmfkgnifkkkkiaaDoorRows
import Derived.Test.YtmfkgnifkkkkiaaDoorMem
import Derived.Laws.BitsAllLaws
namespace Go.Proofs.YtmfkgnifkkkkiaaDoor
open Go.RowKit

set_option maxRecDepth 20000 in
set_option maxHeartbeats 400000 in
theorem l2Zero_calls (w : World) (n : Nat) (hn : n ≤ 1048576) :
    Calls Tryd.prog 16 #[.int .i64 n] w fun e w' => ∃ g, e = .returned (.slice (some ⟨g, 0, none⟩) n n) ∧ OwnB w' w.heap.size 5 (.slice (some ⟨g, 0, none⟩) n n) (List.replicate n 0) ∧ Chg 0 0 w w' := by
  obtain ⟨i, hi, hz0, hz1, hz2⟩ := info_parts Tryd.infoU
  go_enter Tryd.func16, Tryd.ntmps16
  go_wp2_with (at_make; refine wpList_make_full _ rfl _ _ 24 rfl w.heap.size 5 i (.int .u8 0) 1 Tryd.underlying24 hi hz0 hz1 _ _ _ _ n rfl rfl (by omega) (by omega) (by rw [hz2]; omega) (by unfold maxLen; omega) (by omega) ?_)
  intro w1 hown hgrow
  have HO : Hid (OwnB w1 w.heap.size 5 (.slice (some ⟨w.heap.size, 0, none⟩) n n) (List.replicate n 0)) := by
    show OwnB _ _ _ _ _
    unfold OwnB
    simpa [toList_madeCells_one] using hown
  have HC : Hid (Chg 0 0 w w1) := Chg.ofGrown hgrow (by simp)
  clear hown hgrow
  go_wp2
  go_ret
  exact ⟨_, rfl, HO.out, HC.out⟩

set_option maxRecDepth 20000 in
set_option maxHeartbeats 1000000 in
theorem l2Join_any (w : World) {lo hi lo' : Nat} {a : Value} {xs ys : List Int} {b off n cap : Nat} (hl : xs.length ≤ 1048576) (hl' : ys.length ≤ 1048576) (h1 : View w lo hi .u8 a xs) (h2 : View w lo' w.heap.size .u8 (.slice (some ⟨b, off, none⟩) n cap) ys) :
    Calls Tryd.prog 19 #[a, .slice (some ⟨b, off, none⟩) n cap] w fun e w' => ∃ v, e = .returned v ∧ OwnB w' w.heap.size 5 v (xs ++ ys) ∧ Chg 0 0 w w' := by
  obtain ⟨i, hi, hz0, hz1, hz2⟩ := info_parts Tryd.infoU
  have hN := l1Copy_calls w hl h1
  obtain ⟨_, _, e, _, _, hcell⟩ := h2
  simp only [Value.slice.injEq] at e
  obtain ⟨rfl, rfl, rfl⟩ := e
  have hc : ∀ i, i < ys.length → w.cell? ⟨b, off + i, none⟩ = some (.int .u8 (ys.getD i 0)) := by
    rcases hcell with e | ⟨_, _, e, _, h3, h4⟩
    · intro i hi; rw [e] at hi; exact absurd hi (Nat.not_lt_zero i)
    · cases e; exact h4
  have Hc : Hid (∀ i, i < ys.length → w.cell? ⟨b, off + i, none⟩ = some (.int .u8 (ys.getD i 0))) := hc
  have hay : ∃ ao n c, a = .slice ao n c := by obtain ⟨ao, c, rfl, _⟩ := h1; exact ⟨ao, _, c, rfl⟩
  obtain ⟨ao, an, ac, rfl⟩ := hay
  clear hcell hc h1
  go_enter Tryd.func19, Tryd.ntmps19
  go_wp2_with fail
  refine hN.mono ?_
  rintro e w1 ⟨v1, rfl, o1, hc1⟩
  have hrow : w1.ownsRow w.heap.size 5 1 v1 xs.length (xs.map (Value.int .u8)) := o1
  obtain ⟨so, sn, sc, rfl⟩ := row_slice hrow
  have HO1 : Hid (w1.ownsRow w.heap.size 5 1 (.slice so sn sc) xs.length (xs.map (Value.int .u8))) := hrow
  have hs1 := hc1.size
  have HC1 : Hid (Chg 0 0 w w1) := hc1
  have HNW : Hid (∀ j u, (ys.map (Value.int .u8))[j]? = some u → w1.cell? ((⟨b, off, none⟩ : Addr).add j) = some u) := by
    intro j u hj
    have hjl : j < ys.length := by have := (List.getElem?_eq_some_iff.1 hj).1; simpa using this
    rw [Addr.add_mid, hc1.cell (Hc.out j hjl) (by omega), ← hj]
    simp [List.getD_eq_getElem?_getD, hjl]
  clear hN o1 hc1 hrow
  go_wp2_with (at_builtin; refine wpList_append_own _ rfl (.tmp 8) (.tmp 9) 24 rfl w.heap.size 5 i (.int .u8 0) 1 1 Tryd.underlying24 hi hz0 hz1 hz2 rfl (by decide) _ xs.length (xs.map (Value.int .u8)) rfl HO1.out ⟨b, off, none⟩ ys.length cap (ys.map (Value.int .u8)) rfl (by simp) HNW.out (ints_oneCell _ _) (by unfold maxLen; omega) (by omega) (by omega) ?_)
  intro v' w2 hown hgrow _
  have HO : Hid (OwnB w2 w.heap.size 5 v' (xs ++ ys)) := by
    show OwnB _ _ _ _ _
    unfold OwnB
    rw [List.length_append, List.map_append]
    exact hown
  have hrb : ∀ k, (Value.slice so sn sc).ownBlock = some k → w.heap.size ≤ k ∧ k < w1.heap.size := fun k hk => World.ownsRow.lt HO1.out k hk
  have HC : Hid (Chg 0 0 w w2) := HC1.out.step (Chg.ofGrown (lo := w.heap.size) (hi := w1.heap.size) hgrow (fun k hk _ => hrb k hk)) (Or.inr (Or.inl (Nat.le_refl _)))
  clear hown hgrow HO1 HC1 HNW hrb
  go_wp2
  go_ret
  exact ⟨_, rfl, HO.out, HC.out⟩

theorem l2Join_calls (w : World) {lo hi lo' : Nat} {a : Value} {xs ys : List Int} {b off n cap : Nat} (hl : xs.length ≤ 1048576) (hl' : ys.length ≤ 1048576) (h1 : View w lo hi .u8 a xs) (h2 : View w lo' w.heap.size .u8 (.slice (some ⟨b, off, none⟩) n cap) ys) (_hy : 0 < ys.length) :
    Calls Tryd.prog 19 #[a, .slice (some ⟨b, off, none⟩) n cap] w fun e w' => ∃ v, e = .returned v ∧ OwnB w' w.heap.size 5 v (xs ++ ys) ∧ Chg 0 0 w w' := l2Join_any w hl hl' h1 h2

end Go.Proofs.YtmfkgnifkkkkiaaDoor

namespace Go.Proofs.YtmfkgnifkkkkiaaDoor
open Go.RowKit

def Byt (xs : List Int) : Prop := ∀ x ∈ xs, 0 ≤ x ∧ x < 256

theorem Byt.getD {xs : List Int} (h : Byt xs) (k : Nat) : 0 ≤ xs.getD k 0 ∧ xs.getD k 0 < 256 := by
  rw [List.getD_eq_getElem?_getD]
  by_cases hk : k < xs.length
  · rw [List.getElem?_eq_getElem hk]; exact h _ (List.getElem_mem hk)
  · rw [List.getElem?_eq_none (by omega)]; simp

theorem byt_of_wf {xs : List Int} (h : ∀ x ∈ xs, (Lit.int .u8 x).wf = true) : Byt xs := by
  intro x hx
  have h1 := h x hx
  have h2 : IntKind.u8.min ≤ x ∧ x ≤ IntKind.u8.max := by simpa [Lit.wf] using h1
  have e1 : IntKind.u8.min = 0 := by decide
  have e2 : IntKind.u8.max = 255 := by decide
  omega

theorem Byt.take {xs : List Int} (h : Byt xs) (n : Nat) : Byt (xs.take n) := fun x hx => h x (List.mem_of_mem_take hx)
theorem Byt.drop {xs : List Int} (h : Byt xs) (n : Nat) : Byt (xs.drop n) := fun x hx => h x (List.mem_of_mem_drop hx)

end Go.Proofs.YtmfkgnifkkkkiaaDoor

namespace Go.Proofs.YtmfkgnifkkkkiaaDoor

/-- The register behind one bit of data. -/
def stp (x b : Nat) : Nat := if (x + b) % 2 = 1 then x / 2 ^^^ 2197175160 else x / 2

/-- The register behind k bits of v, the lowest first. -/
def regK : Nat → Nat → Nat → Nat
  | 0, x, _ => x
  | k + 1, x, v => regK k (stp x (v % 2)) (v / 2)

/-- The register behind some bytes. -/
def reg (x : Nat) (ds : List Nat) : Nat := ds.foldl (fun r d => regK 8 r d) x

theorem xor_mod2 (a b : Nat) : (a ^^^ b) % 2 = (a + b) % 2 := by
  have h := Nat.testBit_xor a b 0
  simp only [Nat.testBit_zero] at h
  rcases Nat.mod_two_eq_zero_or_one (a ^^^ b) with h1 | h1 <;> rcases Nat.mod_two_eq_zero_or_one a with h2 | h2 <;>
    rcases Nat.mod_two_eq_zero_or_one b with h3 | h3 <;> simp [h1, h2, h3] at h ⊢ <;> omega

theorem xor_div2 (a b : Nat) : (a ^^^ b) / 2 = a / 2 ^^^ b / 2 := by
  exact Nat.xor_div_two

theorem stp_xor_in (r x : Nat) : stp (r ^^^ x) 0 = stp r (x % 2) ^^^ x / 2 := by
  unfold stp
  have h1 := xor_mod2 r x
  have h2 := xor_div2 r x
  have h3 : (r + x % 2) % 2 = (r + x) % 2 := by omega
  rw [Nat.add_zero, h1, h2, h3]
  split
  · rw [Nat.xor_assoc, Nat.xor_assoc, Nat.xor_comm (x / 2)]
  · rfl

theorem regK_in (k : Nat) : ∀ r x : Nat, x < 2 ^ k → regK k r x = regK k (r ^^^ x) 0 := by
  induction k with
  | zero => intro r x hx; simp [regK]; have : x = 0 := by simpa using hx
            simp [this]
  | succ k ih =>
    intro r x hx
    rw [regK, regK, ih _ _ (by rw [Nat.pow_succ] at hx; omega), ← stp_xor_in]

theorem stp_lin (a b : Nat) : stp (a ^^^ b) 0 = stp a 0 ^^^ stp b 0 := by
  unfold stp
  have h1 := xor_mod2 a b
  have h2 := xor_div2 a b
  simp only [Nat.add_zero, h1, h2]
  by_cases ha : a % 2 = 1 <;> by_cases hb : b % 2 = 1
  · rw [if_neg (by omega), if_pos ha, if_pos hb]
    rw [Nat.xor_assoc, Nat.xor_comm 2197175160, Nat.xor_assoc, Nat.xor_self, Nat.xor_zero]
  · rw [if_pos (by omega), if_pos ha, if_neg hb, Nat.xor_assoc, Nat.xor_assoc, Nat.xor_comm (b / 2)]
  · rw [if_pos (by omega), if_neg ha, if_pos hb, Nat.xor_assoc]
  · rw [if_neg (by omega), if_neg ha, if_neg hb]

theorem regK_lin (k : Nat) : ∀ a b : Nat, regK k (a ^^^ b) 0 = regK k a 0 ^^^ regK k b 0 := by
  induction k with
  | zero => intro a b; rfl
  | succ k ih => intro a b; simp only [regK]; rw [stp_lin, ih]

theorem regK_shift (k : Nat) : ∀ h : Nat, regK k (h * 2 ^ k) 0 = h := by
  induction k with
  | zero => intro h; simp [regK]
  | succ k ih =>
    intro h
    have e : stp (h * 2 ^ (k + 1)) (0 % 2) = h * 2 ^ k := by
      have e2 : h * 2 ^ (k + 1) = 2 * (h * 2 ^ k) := by
        rw [Nat.pow_succ, Nat.mul_comm (2 ^ k) 2, ← Nat.mul_assoc, Nat.mul_comm h 2, Nat.mul_assoc]
      unfold stp
      rw [e2, if_neg (by omega)]
      omega
    rw [regK, e]; exact ih h

/-- What the table's entry does: eight bits at once. -/
theorem regK_table (r x : Nat) (hx : x < 256) : regK 8 r x = r / 256 ^^^ regK 8 (r % 256 ^^^ x) 0 := by
  rw [regK_in 8 r x (by simpa using hx)]
  have e : r = r / 256 * 2 ^ 8 ^^^ r % 256 := by
    have h : r / 256 * 2 ^ 8 ||| r % 256 = r := by
      rw [Nat.mul_comm, ← Nat.two_pow_add_eq_or_of_lt (by omega)]; omega
    have h2 : r / 256 * 2 ^ 8 ^^^ r % 256 = r / 256 * 2 ^ 8 ||| r % 256 := by
      apply Nat.eq_of_testBit_eq
      intro i
      rw [Nat.testBit_xor, Nat.testBit_or]
      by_cases hi : i < 8
      · have : (r / 256 * 2 ^ 8).testBit i = false := by
          rw [Nat.testBit_mul_two_pow]; simp; omega
        simp [this]
      · have : (r % 256).testBit i = false := by
          apply Nat.testBit_lt_two_pow
          have : 2 ^ 8 ≤ 2 ^ i := Nat.pow_le_pow_right (by omega) (by omega)
          omega
        simp [this]
    rw [h2, h]
  conv => lhs; rw [e, Nat.xor_assoc, regK_lin, regK_shift]

theorem stp_lt (x b : Nat) (hx : x < 4294967296) : stp x b < 4294967296 := by
  unfold stp
  split
  · exact Nat.xor_lt_two_pow (n := 32) (by omega) (by omega)
  · omega

theorem regK_lt (k : Nat) : ∀ x v : Nat, x < 4294967296 → regK k x v < 4294967296 := by
  induction k with
  | zero => intro x v hx; exact hx
  | succ k ih => intro x v hx; rw [regK]; exact ih _ _ (stp_lt _ _ hx)

theorem reg_lt (ds : List Nat) : ∀ x : Nat, x < 4294967296 → reg x ds < 4294967296 := by
  induction ds with
  | nil => intro x hx; exact hx
  | cons d ds ih => intro x hx; exact ih _ (regK_lt 8 _ _ hx)

theorem reg_append (x : Nat) (ys zs : List Nat) : reg x (ys ++ zs) = reg (reg x ys) zs := by
  simp [reg, List.foldl_append]


/-- The register behind n bits, told by a function. -/
def regF (x : Nat) (β : Nat → Nat) : Nat → Nat
  | 0 => x
  | n + 1 => stp (regF x β n) (β n)

theorem regF_congr (x : Nat) (β γ : Nat → Nat) (n : Nat) (h : ∀ i, i < n → β i = γ i) : regF x β n = regF x γ n := by
  induction n with
  | zero => rfl
  | succ n ih => rw [regF, regF, ih (fun i hi => h i (by omega)), h n (by omega)]

theorem regF_add (x : Nat) (β : Nat → Nat) (m n : Nat) : regF x β (m + n) = regF (regF x β m) (fun i => β (m + i)) n := by
  induction n with
  | zero => rfl
  | succ n ih => rw [← Nat.add_assoc, regF, regF, ih]

theorem regK_regF (k : Nat) : ∀ x v : Nat, regK k x v = regF x (fun i => v / 2 ^ i % 2) k := by
  induction k with
  | zero => intro x v; rfl
  | succ k ih =>
    intro x v
    rw [regK, ih, Nat.add_comm k 1, regF_add]
    simp only [regF, Nat.pow_zero, Nat.div_one]
    apply regF_congr
    intro i _
    rw [Nat.div_div_eq_div_mul, Nat.pow_add, Nat.pow_one]

/-- Bit n of some bytes, counted from the lowest of each byte on. -/
def bitAt (ds : List Nat) (n : Nat) : Nat := ds[n / 8]?.getD 0 / 2 ^ (n % 8) % 2

theorem reg_regF (ds : List Nat) : ∀ x : Nat, reg x ds = regF x (bitAt ds) (8 * ds.length) := by
  induction ds with
  | nil => intro x; rfl
  | cons d ds ih =>
    intro x
    have e : 8 * (d :: ds).length = 8 + 8 * ds.length := by simp; omega
    rw [e, regF_add]
    have e1 : reg x (d :: ds) = reg (regK 8 x d) ds := rfl
    rw [e1, ih, regK_regF]
    have e2 : regF x (fun i => d / 2 ^ i % 2) 8 = regF x (bitAt (d :: ds)) 8 := by
      apply regF_congr
      intro i hi
      have h1 : i / 8 = 0 := by omega
      have h2 : i % 8 = i := by omega
      simp [bitAt, h1, h2]
    rw [e2]
    apply regF_congr
    intro i _
    have h1 : (8 + i) / 8 = i / 8 + 1 := by omega
    have h2 : (8 + i) % 8 = i % 8 := by omega
    simp [bitAt, h1, h2]

theorem stp_xor (x y b c : Nat) : stp x b ^^^ stp y c = stp (x ^^^ y) ((b + c) % 2) := by
  unfold stp
  have h1 := xor_mod2 x y
  have h2 := xor_div2 x y
  have h3 : ((x ^^^ y) + (b + c) % 2) % 2 = ((x + b) + (y + c)) % 2 := by omega
  simp only [h3, h2]
  by_cases ha : (x + b) % 2 = 1 <;> by_cases hb : (y + c) % 2 = 1
  · rw [if_neg (c := ((x + b) + (y + c)) % 2 = 1) (by omega), if_pos ha, if_pos hb]
    rw [Nat.xor_assoc, Nat.xor_comm 2197175160, Nat.xor_assoc, Nat.xor_self, Nat.xor_zero]
  · rw [if_pos (c := ((x + b) + (y + c)) % 2 = 1) (by omega), if_pos ha, if_neg hb, Nat.xor_assoc, Nat.xor_assoc, Nat.xor_comm (y / 2)]
  · rw [if_pos (c := ((x + b) + (y + c)) % 2 = 1) (by omega), if_neg ha, if_pos hb, Nat.xor_assoc]
  · rw [if_neg (c := ((x + b) + (y + c)) % 2 = 1) (by omega), if_neg ha, if_neg hb]

/-- A step back: what lies below the highest bit came by a shift alone. -/
theorem stp_back (x b : Nat) (hx : x < 4294967296) (hb : b < 2) (h : stp x b < 2147483648) : x = 2 * stp x b + b := by
  unfold stp at h ⊢
  split at h
  · exfalso
    have h1 : (x / 2 ^^^ 2197175160).testBit 31 = true := by
      rw [Nat.testBit_xor, Nat.testBit_lt_two_pow (x := x / 2) (i := 31) (by omega)]; rfl
    have h2 : (x / 2 ^^^ 2197175160).testBit 31 = false := Nat.testBit_lt_two_pow (by omega)
    rw [h1] at h2; cases h2
  · rename_i h1
    rw [if_neg h1]; omega

theorem regF_lt (x : Nat) (β : Nat → Nat) (hx : x < 4294967296) (n : Nat) : regF x β n < 4294967296 := by
  induction n with
  | zero => exact hx
  | succ n ih => exact stp_lt _ _ ih

/-- Bits that are changed within 32 in a row give another register. -/
theorem burst (x : Nat) (hx : x < 4294967296) (β γ : Nat → Nat) (N at' : Nat) (hat : at' < N)
    (hβ : ∀ i, β i < 2) (hγ : ∀ i, γ i < 2) (h0 : β at' ≠ γ at')
    (hlo : ∀ i, i < at' → β i = γ i) (hhi : ∀ i, at' + 32 ≤ i → i < N → β i = γ i) : regF x β N ≠ regF x γ N := by
  intro hN
  have hD : ∀ n, regF x β (n + 1) ^^^ regF x γ (n + 1) = stp (regF x β n ^^^ regF x γ n) ((β n + γ n) % 2) := by
    intro n; rw [regF, regF, stp_xor]
  have hlt : ∀ n, regF x β n ^^^ regF x γ n < 4294967296 := fun n =>
    Nat.xor_lt_two_pow (n := 32) (by have := regF_lt x β hx n; omega) (by have := regF_lt x γ hx n; omega)
  generalize hd : (fun n => regF x β n ^^^ regF x γ n) = D at *
  have hD' : ∀ n, D (n + 1) = stp (D n) ((β n + γ n) % 2) := by intro n; rw [← hd]; exact hD n
  have hlt' : ∀ n, D n < 4294967296 := by intro n; rw [← hd]; exact hlt n
  have hNz : D N = 0 := by rw [← hd]; simp [hN]
  have hat0 : D at' = 0 := by rw [← hd]; simp [regF_congr x β γ at' hlo]
  -- behind the run
  have hback : ∀ k, at' + 32 ≤ N - k → D (N - k) = 0 := by
    intro k
    induction k with
    | zero => intro _; exact hNz
    | succ k ih =>
      intro hk
      have e : N - k = N - (k + 1) + 1 := by omega
      have h1 := ih (by omega)
      rw [e, hD'] at h1
      have h2 := hhi (N - (k + 1)) (by omega) (by omega)
      have h3 := stp_back _ ((β (N - (k + 1)) + γ (N - (k + 1))) % 2) (hlt' (N - (k + 1))) (by omega) (by rw [h1]; omega)
      rw [h1] at h3
      omega
  -- within it
  have hin : ∀ e, e ≤ at' + 32 → D e = 0 → ∀ k, k ≤ 31 → at' + 1 ≤ e - k → D (e - k) < 2 ^ k := by
    intro e _ hz k
    induction k with
    | zero => intro _ _; simp [hz]
    | succ k ih =>
      intro hk hle
      have h1 := ih (by omega) (by omega)
      have e1 : e - k = e - (k + 1) + 1 := by omega
      rw [e1, hD'] at h1
      have hp : 2 ^ k ≤ 2 ^ 30 := Nat.pow_le_pow_right (by omega) (by omega)
      have h3 := stp_back _ ((β (e - (k + 1)) + γ (e - (k + 1))) % 2) (hlt' (e - (k + 1))) (by omega) (by omega)
      rw [Nat.pow_succ]
      omega
  have hend : ∀ e, at' < e → e ≤ at' + 32 → D e = 0 → False := by
    intro e h1 h2 hz
    have h3 := hin e h2 hz (e - (at' + 1)) (by omega) (by omega)
    have e1 : e - (e - (at' + 1)) = at' + 1 := by omega
    have hp : 2 ^ (e - (at' + 1)) ≤ 2 ^ 31 := Nat.pow_le_pow_right (by omega) (by omega)
    rw [e1, hD'] at h3
    have h4 := stp_back _ ((β at' + γ at') % 2) (hlt' at') (by omega) (by omega)
    have h5 := hβ at'
    have h6 := hγ at'
    omega
  by_cases hc : at' + 32 ≤ N
  · have h1 := hback (N - (at' + 32)) (by omega)
    have e1 : N - (N - (at' + 32)) = at' + 32 := by omega
    rw [e1] at h1
    exact hend (at' + 32) (by omega) (by omega) h1
  · exact hend N hat (by omega) hNz

theorem bitAt_lt (ds : List Nat) (n : Nat) : bitAt ds n < 2 := Nat.mod_lt _ (by omega)

/-- One bit turned. -/
theorem bitAt_flip (ds : List Nat) (q r : Nat) (hq : q < ds.length) (hr : r < 8) (n : Nat) :
    bitAt (ds.set q (ds[q]?.getD 0 ^^^ 2 ^ r)) n = if n = 8 * q + r then 1 - bitAt ds n else bitAt ds n := by
  unfold bitAt
  by_cases hn : n / 8 = q
  · rw [hn]
    have e : (ds.set q (ds[q]?.getD 0 ^^^ 2 ^ r))[q]?.getD 0 = ds[q]?.getD 0 ^^^ 2 ^ r := by
      simp [hq]
    rw [e]
    generalize ds[q]?.getD 0 = d
    have hb : ∀ a i : Nat, a / 2 ^ i % 2 = (a.testBit i).toNat := by
      intro a i; rw [Nat.testBit_eq_decide_div_mod_eq]
      rcases Nat.mod_two_eq_zero_or_one (a / 2 ^ i) with h | h <;> simp [h]
    rw [hb, hb, Nat.testBit_xor, Nat.testBit_two_pow]
    by_cases hc : n = 8 * q + r
    · rw [if_pos hc]
      have h1 : r = n % 8 := by omega
      cases d.testBit (n % 8) <;> simp [h1]
    · rw [if_neg hc]
      have h1 : r ≠ n % 8 := by omega
      simp [h1]
  · have e : (ds.set q (ds[q]?.getD 0 ^^^ 2 ^ r))[n / 8]?.getD 0 = ds[n / 8]?.getD 0 := by
      rw [List.getElem?_set_ne (by omega)]
    rw [e, if_neg (by omega)]

theorem regK_end (k : Nat) : ∀ x : Nat, regK (k + 1) x 0 = stp (regK k x 0) 0 := by
  induction k with
  | zero => intro x; rfl
  | succ k ih => intro x; rw [regK, ih]; rfl

end Go.Proofs.YtmfkgnifkkkkiaaDoor

namespace Go.Proofs.YtmfkgnifkkkkiaaDoor
open Go.RowKit

theorem low_bit (x : Nat) (hx : x < 4294967296) : bits .and .u32 (x : Int) 1 = ((x % 2 : Nat) : Int) := by
  have := u32_and_nat x 1 hx (by omega)
  rw [nat_mask1] at this
  exact this

theorem xor_taps (x : Nat) (hx : x < 4294967296) : bits .xor .u32 ((x : Int) / 2) 2197175160 = ((x / 2 ^^^ 2197175160 : Nat) : Int) := by
  have := u32_xor_nat (x / 2) 2197175160 (by omega) (by omega)
  rw [← this]; congr 1

theorem i64_xor_nat (a b : Nat) (ha : a < 4294967296) (hb : b < 4294967296) : bits .xor .i64 (a : Int) (b : Int) = ((a ^^^ b : Nat) : Int) := by
  have hx : a ^^^ b < 2 ^ 32 := Nat.xor_lt_two_pow (by omega) (by omega)
  show IntKind.i64.wrap ((BitVec.ofInt 64 (a : Int) ^^^ BitVec.ofInt 64 (b : Int)).toNat : Int) = _
  rw [BitVec.toNat_xor, ofInt_u64 a (by omega), ofInt_u64 b (by omega)]
  simp [IntKind.wrap, IntKind.bits, IntKind.signed]
  omega

theorem xor_taps' (x : Nat) (hx : x < 4294967296) : bits .xor .i64 ((x : Int) / 2) 2197175160 = ((x / 2 ^^^ 2197175160 : Nat) : Int) := by
  have := i64_xor_nat (x / 2) 2197175160 (by omega) (by omega)
  rw [← this]; congr 1

theorem not32 (a : Nat) (ha : a < 4294967296) : bits .xor .u32 4294967295 (a : Int) = ((4294967295 - a : Nat) : Int) := by
  show IntKind.u32.wrap ((BitVec.ofInt 32 4294967295 ^^^ BitVec.ofInt 32 (a : Int)).toNat : Int) = _
  have h1 : BitVec.ofInt 32 4294967295 = BitVec.allOnes 32 := by decide
  rw [h1, BitVec.allOnes_xor, BitVec.toNat_not, ofInt_u32 a ha, IntKind.wrap_u32']
  omega

theorem ex_int {k : IntKind} {a b : Int} (h : a = b) : Value.int k a = Value.int k b := by rw [h]

set_option maxHeartbeats 400000 in
theorem eightSteps_calls (w : World) (r : Nat) (hr : r < 4294967296) :
    Calls Tryd.prog 76 #[.int .u32 r] w fun e w' => e = .returned (.int .u32 (regK 8 r 0 : Nat)) ∧ w' = w := by
  go_enter Tryd.func76, Tryd.ntmps76
  go_wp2
  go_loop [0, 4] (fun x i => ∃ k : Nat, k ≤ 8 ∧ i = .int .i64 k ∧ x = .int .u32 (regK k r 0 : Nat)) (fun _ i => 8 - (intOf i).toNat)
  case atStart => exact ⟨0, Nat.zero_le _, rfl, rfl⟩
  case round =>
    obtain ⟨k, hk, rfl, rfl⟩ := hrel
    by_cases hlt : k < 8
    · have b1 := regK_lt k r 0 hr
      have HE : Hid (regK (k + 1) r 0 = stp (regK k r 0) 0) := regK_end k r
      generalize regK k r 0 = x at *
      have hi : (k : Int) < 8 := by omega
      have hlow := low_bit x b1
      by_cases h1 : x % 2 = 1
      · have HX : Hid (((regK (k + 1) r 0 : Nat) : Int) = bits .xor .u32 ((x : Int) / 2) 2197175160) := by
          show _ = _
          rw [HE.out, xor_taps x b1]; unfold stp; rw [if_pos (by omega)]
        have hc : (bits .and .u32 (x : Int) 1 == 1) = true := by rw [hlow, h1]; rfl
        clear hlow h1
        go_wp2
        go_round
        case rel => exact ⟨k + 1, by omega, by go_num, by rw [HX.out]⟩
        case measure => simp [intOf]; omega
      · have HX : Hid (((regK (k + 1) r 0 : Nat) : Int) = (x : Int) / 2) := by
          show _ = _
          rw [HE.out]; unfold stp; rw [if_neg (by omega)]; omega
        have hc : (bits .and .u32 (x : Int) 1 == 1) = false := by rw [hlow, show x % 2 = 0 by omega]; rfl
        clear hlow h1
        go_wp2
        go_round
        case rel => exact ⟨k + 1, by omega, by go_num, by rw [HX.out]⟩
        case measure => simp [intOf]; omega
    · obtain rfl : k = 8 := by omega
      go_wp2
      go_ret
      exact ⟨rfl, rfl⟩

theorem regK_next (j x d : Nat) : regK (j + 1) x d = stp (regK j x d) (d / 2 ^ j % 2) := by
  rw [regK_regF, regK_regF]; rfl

/-- The bytes as natural numbers. -/
def nb (xs : List Int) : List Nat := xs.map Int.toNat

theorem reg_take_succ (x : Nat) (xs : List Int) (k : Nat) (h : k < xs.length) : reg x (nb (xs.take (k + 1))) = regK 8 (reg x (nb (xs.take k))) (xs.getD k 0).toNat := by
  unfold reg nb
  rw [List.take_succ_eq_append_getElem h, List.map_append, List.foldl_append]
  simp [List.getD_eq_getElem?_getD, h]

/-- What Crc and CrcOn answer. -/
def crcV (xs : List Int) : Int := 4294967295 - (reg 4294967295 (nb xs) : Nat)
def crcOnV (c : Int) (xs : List Int) : Int := if c < 0 ∨ c > 4294967295 then -1 else 4294967295 - (reg (4294967295 - c.toNat) (nb xs) : Nat)

theorem crcOnV_zero (xs : List Int) : crcOnV 0 xs = crcV xs := by
  unfold crcOnV crcV; rw [if_neg (by omega)]; rfl

end Go.Proofs.YtmfkgnifkkkkiaaDoor
