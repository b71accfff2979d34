/- Several short texts in one: ShelfErr, Pu16, PutN, AppSeen. -/
import Derived.Shelf.Strconv.ToError
import Derived.Test.YtacfkgfemmgpkaaGreatDoorRows
import Derived.Test.YtacfkgfemmgpkaaGreatDoorMem
import Derived.Test.YtacfkgfemmgpkaaGreatDoorStrSpec
import Derived.Laws.BitsAllLaws
import Derived.Lib.ConvBytes
import Derived.BigCall
import Derived.BigGuard
import Derived.Laws.AppendOwnNone
import Derived.Deep.MidRow
namespace Go.Proofs.YtacfkgfemmgpkaaGreatDoor
open Go.Shelf

def Tryz.laysC245_ren : Go.Shelf.Ren := ⟨fun | 245 => 75 | 279 => 88 | 280 => 89 | 281 => 90 | 282 => 91 | 316 => 102 | 171 => 104 | 205 => 103 | 243 => 110 | 246 => 76 | 283 => 92 | 284 => 93 | 285 => 94 | 286 => 95 | 129 => 106 | 317 => 105 | 318 => 107 | 319 => 108 | 320 => 109 | 337 => 111 | 338 => 112 | n => n, fun | 9 => 9 | 3 => 3 | 75 => 86 | 167 => 119 | 4 => 4 | 168 => 120 | 210 => 139 | 37 => 22 | 0 => 0 | 127 => 117 | 145 => 148 | 143 => 146 | 2 => 2 | 171 => 124 | 53 => 106 | 5 => 5 | 173 => 127 | 212 => 142 | 51 => 112 | 20 => 20 | 213 => 143 | 46 => 90 | 232 => 150 | 233 => 151 | 80 => 101 | n => n, fun | 15 => 3 | 16 => 4 | 17 => 5 | 18 => 6 | 19 => 7 | n => n⟩

theorem Tryz.laysC245 : Go.Proofs.LaysC.n245 Tryz.prog Tryz.laysC245_ren := {
  mixed := by kernel_rfl
  f129 := Tryz.func106.trans (congrArg some (by kernel_rfl))
  f171 := Tryz.func104.trans (congrArg some (by kernel_rfl))
  f205 := Tryz.func103.trans (congrArg some (by kernel_rfl))
  f243 := Tryz.func110.trans (congrArg some (by kernel_rfl))
  f245 := Tryz.func75.trans (congrArg some (by kernel_rfl))
  f246 := Tryz.func76.trans (congrArg some (by kernel_rfl))
  f279 := Tryz.func88.trans (congrArg some (by kernel_rfl))
  f280 := Tryz.func89.trans (congrArg some (by kernel_rfl))
  f281 := Tryz.func90.trans (congrArg some (by kernel_rfl))
  f282 := Tryz.func91.trans (congrArg some (by kernel_rfl))
  f283 := Tryz.func92.trans (congrArg some (by kernel_rfl))
  f284 := Tryz.func93.trans (congrArg some (by kernel_rfl))
  f285 := Tryz.func94.trans (congrArg some (by kernel_rfl))
  f286 := Tryz.func95.trans (congrArg some (by kernel_rfl))
  f316 := Tryz.func102.trans (congrArg some (by kernel_rfl))
  f317 := Tryz.func105.trans (congrArg some (by kernel_rfl))
  f318 := Tryz.func107.trans (congrArg some (by kernel_rfl))
  f319 := Tryz.func108.trans (congrArg some (by kernel_rfl))
  f320 := Tryz.func109.trans (congrArg some (by kernel_rfl))
  f337 := Tryz.func111.trans (congrArg some (by kernel_rfl))
  f338 := Tryz.func112.trans (congrArg some (by kernel_rfl))
  t0 := Tryz.underlying0
  a0 := Tryz.isAgg0
  z0 := Tryz.sizeOf0
  v0 := Tryz.zeroValue0
  t2 := Tryz.underlying2
  a2 := Tryz.isAgg2
  z2 := Tryz.sizeOf2
  v2 := Tryz.zeroValue2
  t3 := Tryz.underlying3
  a3 := Tryz.isAgg3
  z3 := Tryz.sizeOf3
  v3 := Tryz.zeroValue3
  t4 := Tryz.underlying4
  a4 := Tryz.isAgg4
  z4 := Tryz.sizeOf4
  v4 := Tryz.zeroValue4
  t5 := Tryz.underlying5
  a5 := Tryz.isAgg5
  z5 := Tryz.sizeOf5
  v5 := Tryz.zeroValue5
  t9 := Tryz.underlying9
  a9 := Tryz.isAgg9
  z9 := Tryz.sizeOf9
  v9 := Tryz.zeroValue9
  t20 := Tryz.underlying20
  a20 := Tryz.isAgg20
  z20 := Tryz.sizeOf20
  v20 := Tryz.zeroValue20
  t37 := Tryz.underlying22
  a37 := Tryz.isAgg22
  z37 := Tryz.sizeOf22
  v37 := Tryz.zeroValue22
  t46 := Tryz.underlying90
  a46 := Tryz.isAgg90
  z46 := Tryz.sizeOf90
  v46 := Tryz.zeroValue90
  t51 := Tryz.underlying112
  a51 := Tryz.isAgg112
  z51 := Tryz.sizeOf112
  v51 := Tryz.zeroValue112
  t53 := Tryz.underlying106
  a53 := Tryz.isAgg106
  z53 := Tryz.sizeOf106
  v53 := Tryz.zeroValue106
  t75 := Tryz.underlying86
  a75 := Tryz.isAgg86
  z75 := Tryz.sizeOf86
  v75 := Tryz.zeroValue86
  t127 := Tryz.underlying117
  a127 := Tryz.isAgg117
  z127 := Tryz.sizeOf117
  v127 := Tryz.zeroValue117
  t143 := Tryz.underlying146
  a143 := Tryz.isAgg146
  z143 := Tryz.sizeOf146
  v143 := Tryz.zeroValue146
  t145 := Tryz.underlying148
  a145 := Tryz.isAgg148
  z145 := Tryz.sizeOf148
  v145 := Tryz.zeroValue148
  t167 := Tryz.underlying119
  a167 := Tryz.isAgg119
  z167 := Tryz.sizeOf119
  v167 := Tryz.zeroValue119
  t168 := Tryz.underlying120
  a168 := Tryz.isAgg120
  z168 := Tryz.sizeOf120
  v168 := Tryz.zeroValue120
  t171 := Tryz.underlying124
  a171 := Tryz.isAgg124
  z171 := Tryz.sizeOf124
  v171 := Tryz.zeroValue124
  t173 := Tryz.underlying127
  a173 := Tryz.isAgg127
  z173 := Tryz.sizeOf127
  v173 := Tryz.zeroValue127
  t210 := Tryz.underlying139
  a210 := Tryz.isAgg139
  z210 := Tryz.sizeOf139
  v210 := Tryz.zeroValue139
  t212 := Tryz.underlying142
  a212 := Tryz.isAgg142
  z212 := Tryz.sizeOf142
  v212 := Tryz.zeroValue142
  t213 := Tryz.underlying143
  a213 := Tryz.isAgg143
  z213 := Tryz.sizeOf143
  t232 := Tryz.underlying150
  a232 := Tryz.isAgg150
  z232 := Tryz.sizeOf150
  v232 := Tryz.zeroValue150
  t233 := Tryz.underlying151
  a233 := Tryz.isAgg151
  z233 := Tryz.sizeOf151
  v233 := Tryz.zeroValue151
  g15 := by kernel_rfl
  g16 := by kernel_rfl
  g17 := by kernel_rfl
  g18 := by kernel_rfl
  g19 := by kernel_rfl
  t80 := Tryz.underlying101
  a80 := Tryz.isAgg101
  z80 := Tryz.sizeOf101
  v80 := Tryz.zeroValue101
  i0 := by kernel_rfl
  i2 := by kernel_rfl
  i3 := by kernel_rfl
  i4 := by kernel_rfl
  i5 := by kernel_rfl
  i9 := by kernel_rfl
  i20 := by kernel_rfl
  i37 := by kernel_rfl
  i46 := by kernel_rfl
  i51 := by kernel_rfl
  i53 := by kernel_rfl
  i75 := by kernel_rfl
  i80 := by kernel_rfl
  i127 := by kernel_rfl
  i143 := by kernel_rfl
  i145 := by kernel_rfl
  i167 := by kernel_rfl
  i168 := by kernel_rfl
  i171 := by kernel_rfl
  i173 := by kernel_rfl
  i210 := by kernel_rfl
  i212 := by kernel_rfl
  i232 := by kernel_rfl
  i233 := by kernel_rfl
  m15 := by kernel_rfl
  m16 := by kernel_rfl
  m17 := by kernel_rfl
  m18 := by kernel_rfl
  m19 := by kernel_rfl
  c0 := by kernel_rfl
  c2 := by kernel_rfl
  c3 := by kernel_rfl
  c4 := by kernel_rfl
  c5 := by kernel_rfl
  c9 := by kernel_rfl
  c20 := by kernel_rfl
  c37 := by kernel_rfl
  c46 := by kernel_rfl
  c51 := by kernel_rfl
  c53 := by kernel_rfl
  c75 := by kernel_rfl
  c80 := by kernel_rfl
  c127 := by kernel_rfl
  c143 := by kernel_rfl
  c145 := by kernel_rfl
  c167 := by kernel_rfl
  c168 := by kernel_rfl
  c171 := by kernel_rfl
  c173 := by kernel_rfl
  c210 := by kernel_rfl
  c212 := by kernel_rfl
  c213 := by kernel_rfl
  c232 := by kernel_rfl
  c233 := by kernel_rfl }

end Go.Proofs.YtacfkgfemmgpkaaGreatDoor

namespace Go.Proofs.YtacfkgfemmgpkaaGreatDoor
open Go.RowKit Go.Lib

/-- A digit of base 36, at least 16 where it is none of base 16; what digits are, none if one is none. -/
def hxD (c : Nat) : Nat := if 48 ≤ c ∧ c ≤ 57 then c - 48 else if 97 ≤ (c ||| 32) ∧ (c ||| 32) ≤ 122 then (c ||| 32) - 87 else 255
def puF : Nat → List UInt8 → Option Nat
  | acc, [] => some acc
  | acc, c :: r => if hxD c.toNat < 16 then puF (acc * 16 + hxD c.toNat) r else none
def puO : Option Nat → Value
  | some v => .tuple #[.int .u64 (v : Int), .nilIface]
  | none => .tuple #[.int .u64 0, .iface 119 (.int .i64 2)]

theorem lower_calls (w : World) (c : Nat) (h : c < 256) : Calls Tryz.prog 100 #[.int .u8 (c : Int)] w fun e w' => e = .returned (.int .u8 ((c ||| 32 : Nat) : Int)) ∧ w' = w := by
  have hb : bits .or .u8 (c : Int) 32 = ((c ||| 32 : Nat) : Int) := u8_or_nat c 32 h (by omega)
  go_enter Tryz.func100, Tryz.ntmps100
  go_wp2
  go_ret
  exact ⟨rfl, rfl⟩

set_option maxHeartbeats 8000000 in
set_option maxRecDepth 100000 in
theorem pu16_calls (t : ByteArray) (h2 : t.size = 2) (w : World) :
    Calls Tryz.prog 87 #[.string t, .int .i64 16, .int .i64 8] w fun e w' => e = .returned (puO (puF 0 t.data.toList)) ∧ w' = Lib.bytesWorld w 5 t := by
  have hemp : t.toList.isEmpty = false := by
    rw [← decide_eq_emptyBytes]
    exact decide_eq_false (fun h => by rw [h] at h2; cases h2)
  have hcv := Lib.run_convert_string_bytes (P := Tryz.prog) w 9 22 5 t (u := .string) Tryz.underlying9 Tryz.underlying22 Tryz.underlying5
  have hB : ∀ j, j < t.size → (Lib.bytesWorld w 5 t).cell? ⟨w.heap.size, j, none⟩ = some (.int .u8 (t.data.toList.getD j 0).toNat) := fun j hj => Lib.bytesWorld_cell w 5 t j hj
  obtain ⟨W1, hW1⟩ : ∃ W1, W1 = Lib.bytesWorld w 5 t := ⟨_, rfl⟩
  rw [← hW1] at hcv hB ⊢
  clear hW1
  obtain ⟨bs, hL⟩ : ∃ bs, bs = t.data.toList := ⟨_, rfl⟩
  have hLn : bs.length = t.size := by rw [hL, Lib.size_eq]
  rw [← hL] at hB ⊢
  clear hL
  have hmv : IntKind.u64.wrap (IntKind.u64.wrap 256 - 1) = 255 := by
    rw [IntKind.wrap_u64, IntKind.wrap_u64]
    decide
  go_enter Tryz.func87, Tryz.ntmps87
  go_wp2
  go_loop [12, 13, 101] (fun vu vn vi => ∃ (k acc : Nat) (a : Int), vu = .bool false ∧ vn = .int .u64 a ∧ vi = .int .i64 k ∧ k ≤ 2 ∧ Hid (a = (acc : Int) ∧ acc < 16 ^ k ∧ puF 0 bs = puF acc (bs.drop k)))
    (fun _ _ vi => 2 - (RowKit.intOf vi).toNat)
  case atStart => exact ⟨0, 0, 0, rfl, rfl, rfl, by omega, rfl, by simp, rfl⟩
  case round =>
    obtain ⟨k, acc, a, rfl, rfl, rfl, hk, hh⟩ := hrel
    obtain ⟨ha, hacc, hdec⟩ := hh.out
    clear hh
    by_cases hkn : k < 2
    · have hc := hB k (by omega)
      have ha16 : acc < 16 := by
        have : (16 : Nat) ^ k ≤ 16 ^ 1 := Nat.pow_le_pow_right (by omega) (by omega)
        omega
      have hpw : acc * 16 + 15 < 16 ^ (k + 1) := by rw [Nat.pow_succ]; omega
      have hdrop : bs.drop k = bs[k]'(by omega) :: bs.drop (k + 1) := List.drop_eq_getElem_cons (by omega)
      have hget : bs.getD k 0 = bs[k]'(by omega) := by simp [List.getD, List.getElem?_eq_getElem (show k < bs.length by omega)]
      rw [hdrop] at hdec
      rw [hget] at hc
      generalize bs[k]'(by omega) = c at hc hdec
      have hc256 : c.toNat < 256 := c.toNat_lt
      have hlow := fun W => lower_calls W c.toNat hc256
      clear hB hdrop hget
      have HD : Hid (puF 0 bs = if hxD c.toNat < 16 then puF (acc * 16 + hxD c.toNat) (bs.drop (k + 1)) else none) := hdec
      clear hdec
      have HL : Hid (hxD c.toNat = if 48 ≤ c.toNat ∧ c.toNat ≤ 57 then c.toNat - 48 else if 97 ≤ (c.toNat ||| 32) ∧ (c.toNat ||| 32) ≤ 122 then (c.toNat ||| 32) - 87 else 255) := rfl
      have hl256 : c.toNat ||| 32 < 256 := Nat.or_lt_two_pow (n := 8) hc256 (by omega)
      have h95 : c.toNat = 95 → c.toNat ||| 32 = 127 := fun h => by rw [h]; rfl
      generalize c.toNat ||| 32 = l at *
      generalize hxD c.toNat = d at *
      generalize c.toNat = n at *
      have a0 : 0 ≤ a := by omega
      have a1 : a ≤ 15 := by omega
      by_cases hu : n = 95
      · have hl7 := h95 hu
        subst hu
        subst hl7
        have HN : Hid (puF 0 bs = none) := by
          show _ = _
          rw [HD.out, if_neg (by rw [HL.out, if_neg (by omega), if_neg (by omega)]; omega)]
        clear HD HL hacc ha hpw ha16 h95
        go_wp2_with (go_at_call 100; refine (hlow _).mono ?_; rintro e w' ⟨rfl, rfl⟩)
        all_goals go_ret2
        all_goals exact ⟨by rw [HN.out]; rfl, rfl⟩
      have hun : ((n : Int) == 95) = false := by rw [beq_eq_false_iff_ne]; omega
      have hun2 : ¬ (n : Int) = 95 := by omega
      clear h95
      by_cases hdig : 48 ≤ n ∧ n ≤ 57
      · obtain ⟨hd0, hd1⟩ := hdig
        have ed : d = n - 48 := by rw [HL.out, if_pos ⟨hd0, hd1⟩]
        have HN : Hid (a * 16 + ((n : Int) - 48) = ((acc * 16 + d : Nat) : Int) ∧ acc * 16 + d < 16 ^ (k + 1) ∧ puF 0 bs = puF (acc * 16 + d) (bs.drop (k + 1))) := ⟨by omega, by omega, by rw [HD.out, if_pos (by omega)]⟩
        have iov : a * 16 + ((n : Int) - 48) ≤ 255 := by omega
        clear ed HD HL hacc ha hpw ha16 hlow
        go_wp2
        refine ⟨⟨k + 1, acc * 16 + d, a * 16 + ((n : Int) - 48), rfl, (by first | rfl | (congr 1; omega)), (by first | rfl | (congr 1; omega)), by omega, HN⟩, by simp [RowKit.intOf]; omega⟩
      by_cases hlet : 97 ≤ l ∧ l ≤ 122
      · obtain ⟨hl0, hl1⟩ := hlet
        have ed : d = l - 87 := by rw [HL.out, if_neg hdig, if_pos ⟨hl0, hl1⟩]
        by_cases hd16 : d < 16
        · have HN : Hid (a * 16 + ((l : Int) - 97 + 10) = ((acc * 16 + d : Nat) : Int) ∧ acc * 16 + d < 16 ^ (k + 1) ∧ puF 0 bs = puF (acc * 16 + d) (bs.drop (k + 1))) := ⟨by omega, by omega, by rw [HD.out, if_pos hd16]⟩
          have iov : a * 16 + ((l : Int) - 97 + 10) ≤ 255 := by omega
          have i16 : (l : Int) - 97 + 10 < 16 := by omega
          clear ed HD HL hacc ha hpw ha16 hd16
          go_wp2_with (go_at_call 100; refine (hlow _).mono ?_; rintro e w' ⟨rfl, rfl⟩)
          all_goals refine ⟨⟨k + 1, acc * 16 + d, a * 16 + ((l : Int) - 97 + 10), rfl, (by first | rfl | (congr 1; omega)), (by first | rfl | (congr 1; omega)), by omega, HN⟩, by simp [RowKit.intOf]; omega⟩
        · have HN : Hid (puF 0 bs = none) := by show _ = _; rw [HD.out, if_neg hd16]
          have i16 : 16 ≤ (l : Int) - 97 + 10 := by omega
          clear ed HD HL hacc ha hpw ha16 hd16
          go_wp2_with (go_at_call 100; refine (hlow _).mono ?_; rintro e w' ⟨rfl, rfl⟩)
          all_goals go_ret2
          all_goals exact ⟨by rw [HN.out]; rfl, rfl⟩
      · have HN : Hid (puF 0 bs = none) := by
          show _ = _
          rw [HD.out, if_neg (by rw [HL.out, if_neg hdig, if_neg hlet]; omega)]
        clear HD HL hacc ha hpw ha16
        go_wp2_with (go_at_call 100; refine (hlow _).mono ?_; rintro e w' ⟨rfl, rfl⟩)
        all_goals go_ret2
        all_goals exact ⟨by rw [HN.out]; rfl, rfl⟩
    · have hkk : k = 2 := by omega
      subst hkk
      subst ha
      have hF : puF acc (bs.drop 2) = some acc := by rw [List.drop_eq_nil_of_le (by omega)]; rfl
      rw [hF] at hdec
      clear hF
      have h20 : ((t.size : Nat) : Int) = 2 := by omega
      go_wp2
      go_ret2
      exact ⟨rfl, rfl⟩

end Go.Proofs.YtacfkgfemmgpkaaGreatDoor

namespace Go.Proofs.YtacfkgfemmgpkaaGreatDoor
open Go.RowKit

theorem Tryz.infoU1 : (Tryz.prog.info? 5).map (fun i => (i.zero, i.size, i.bytes)) = some (some (.int .u8 0), 1, 1) := by kernel_rfl

/-- The lowest n digits of a number to the base 256, the highest first. -/
def digs (v : Int) : Nat → List Int
  | 0 => []
  | n + 1 => (v / 256 ^ n % 256) :: digs v n

theorem digs_length (v : Int) (n : Nat) : (digs v n).length = n := by
  induction n with
  | zero => rfl
  | succ n ih => simp [digs, ih]

theorem div_next (v : Int) (k : Nat) : v / 256 ^ (k + 1) = v / 256 ^ k / 256 := by
  rw [Int.pow_succ, Int.ediv_ediv_of_nonneg (Int.le_of_lt (Int.pow_pos (by decide)))]

theorem div_nonneg' {v : Int} (h : 0 ≤ v) (k : Nat) : 0 ≤ v / 256 ^ k := Int.ediv_nonneg h (Int.le_of_lt (Int.pow_pos (by decide)))

theorem div_le' {v : Int} (h : 0 ≤ v) (k : Nat) : v / 256 ^ k ≤ v := Int.ediv_le_self _ h

/-- What PutNumber answers. -/
def putN (v n : Int) : List Int := if n < 1 ∨ n > 8 ∨ v < 0 then [] else if v / 256 ^ n.toNat > 0 then [] else digs v n.toNat

/-- What lies in the row when its last k cells are written. -/
theorem digs_set (v : Int) (m k : Nat) (h : k < m) :
    ((List.replicate (m - k) 0 ++ digs v k).map (Value.int .u8)).set (m - k - 1) (.int .u8 (v / 256 ^ k % 256)) = (List.replicate (m - (k + 1)) 0 ++ digs v (k + 1)).map (Value.int .u8) := by
  have e : m - k = (m - (k + 1)) + 1 := by omega
  have e2 : m - k - 1 = m - (k + 1) := by omega
  rw [e2, e, List.replicate_succ', List.append_assoc, List.map_append, List.map_append, List.set_append]
  simp [digs]

end Go.Proofs.YtacfkgfemmgpkaaGreatDoor

namespace Go.Proofs.YtacfkgfemmgpkaaGreatDoor
open Go.RowKit

/-- append(s, x...), s one's own, x seen in memory and not empty. -/
theorem wp_app_seen {o : Oper} {a : Act} {w : World} {K : Act → World → Prop} {Q : Exit → Act → World → Prop} (s x : Operand)
    (ho : o.op = .call { callee := .builtin .append, args := #[s, x], argTypes := #[22, 22] })
    (base : Nat) (sv : Value) (xs : List Int) (hs : a.eval s = sv) (hO : OwnB w base 5 sv xs) (hbase : base ≤ w.heap.size) (lo hi : Nat) (xv : Value) (ys : List Int) (hx : a.eval x = xv) (hv : View w lo hi .u8 xv ys) (hy : 0 < ys.length) (hl : xs.length + ys.length ≤ 1048576)
    (h : ∀ v' w', OwnB w' base 5 v' (xs ++ ys) → Chg base w.heap.size w w' → K (a.put o.dst v') w') : o.wp Tryz.prog a w K Q := by
  obtain ⟨i, hi, hz0, hz1, hz2⟩ := info_parts Tryz.infoU1
  obtain ⟨ao, cap, rfl, _, _, hcell⟩ := hv
  obtain ⟨b, off, rfl, hc⟩ : ∃ b off, ao = some ⟨b, off, none⟩ ∧ ∀ i, i < ys.length → w.cell? ⟨b, off + i, none⟩ = some (.int .u8 (ys.getD i 0)) := by
    rcases hcell with e | ⟨b, off, e, _, _, h3⟩
    · rw [e] at hy; simp at hy
    · exact ⟨b, off, e, h3⟩
  have HNW : ∀ j u, (ys.map (Value.int .u8))[j]? = some u → w.cell? ((⟨b, off, none⟩ : Addr).add j) = some u := by
    intro j u hj
    have hjl : j < ys.length := by have := (List.getElem?_eq_some_iff.1 hj).1; simpa using this
    rw [Addr.add_mid, hc j hjl, ← hj]
    simp [List.getD_eq_getElem?_getD, hjl]
  have hrow : w.ownsRow base 5 1 sv xs.length (xs.map (Value.int .u8)) := hO
  refine wp_append_own _ s x 22 ho base 5 i (.int .u8 0) 1 1 Tryz.underlying22 hi hz0 hz1 hz2 rfl (by decide) sv xs.length (xs.map (Value.int .u8)) hs hrow ⟨b, off, none⟩ ys.length cap (ys.map (Value.int .u8)) hx (by simp) HNW (ints_oneCell _ _) (by unfold maxLen; omega) (by omega) hbase ?_
  intro v' w2 hown hgrow _
  refine h v' w2 ?_ (Chg.ofGrown hgrow (fun k hk _ => World.ownsRow.lt hrow k hk))
  unfold OwnB
  rw [List.length_append, List.map_append]
  exact hown

theorem wpList_app_seen {ops : Array Oper} {rest : List Oper} {o : Oper} {a : Act} {w : World} {Q : Exit → Act → World → Prop} (hgd : o.guard = none) (s x : Operand)
    (ho : o.op = .call { callee := .builtin .append, args := #[s, x], argTypes := #[22, 22] })
    (base : Nat) (sv : Value) (xs : List Int) (hs : a.eval s = sv) (hO : OwnB w base 5 sv xs) (hbase : base ≤ w.heap.size) (lo hi : Nat) (xv : Value) (ys : List Int) (hx : a.eval x = xv) (hv : View w lo hi .u8 xv ys) (hy : 0 < ys.length) (hl : xs.length + ys.length ≤ 1048576)
    (h : ∀ v' w', OwnB w' base 5 v' (xs ++ ys) → Chg base w.heap.size w w' → wpList Tryz.prog ops Q rest (a.put o.dst v') w') : wpList Tryz.prog ops Q (o :: rest) a w :=
  wpList_plain hgd fun _ hK => wp_app_seen s x ho base sv xs hs hO hbase lo hi xv ys hx hv hy hl fun v' w' h1 h2 => hK _ _ (h v' w' h1 h2)

end Go.Proofs.YtacfkgfemmgpkaaGreatDoor
