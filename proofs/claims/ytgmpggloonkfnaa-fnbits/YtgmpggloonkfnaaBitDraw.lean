/- The model's draws of bits and of bounds: l8DrawBits, l8DrawPlace, l8DrawRange, DrawBitRuns. -/
import Derived.Test.YtgmpggloonkfnaaDraw
import Derived.Test.YtgmpggloonkfnaaAppSeen
import Derived.Test.YtgmpggloonkfnaaBytSeen
import Derived.Deep.DeepCutAuto
namespace Go.Proofs.Ytgmpggloonkfnaa
open Go.RowKit

theorem Try.infoU9 : (Try.prog.info? 5).map (fun i => (i.zero, i.size, i.bytes)) = some (some (.int .u8 0), 1, 1) := by kernel_rfl

theorem wrap_byte {x : Int} (h0 : 0 ≤ x) (h1 : x < 256) : IntKind.u8.wrap x = x := by
  unfold IntKind.wrap
  simp [IntKind.bits, IntKind.signed]
  omega

theorem byte_row (W : World) (base : Nat) (a : Int) (hb : base ≤ W.heap.size) : OwnB (W.alloc (.cells #[.int .u8 a] 5)) base 5 (.slice (some ⟨W.heap.size, 0, none⟩) 1 1) [a] := by
  have := World.ownsRow_lit (base := base) (e := 5) (size := 1) W #[.int .u8 a] 1 hb (by unfold maxLen; omega) rfl
  unfold OwnB
  simpa using this

set_option maxRecDepth 20000 in
set_option maxHeartbeats 4000000 in
theorem l8DrawBits_calls (w : World) (p at' sz : Nat) {lo hi : Nat} {cv : Value} {code : List Int} (hsz : sz ≤ 12) (hB : Byt code) (hcl : code.length ≤ 1048576) (hat : at' ≤ 1000)
    (hs : SrcAt w p cv at' sz) (hc : View w lo hi .u8 cv code) (hp : p < lo ∨ hi ≤ p) :
    Calls Try.prog 22 #[.pointer (some ⟨p, 0, none⟩)] w fun e w' => ∃ v xs at2, e = .returned v ∧ OwnB w' w.heap.size 5 v xs ∧ Byt xs ∧ xs.length ≤ 2049 ∧ SrcAt w' p cv at2 sz ∧ at2 ≤ at' + 100 ∧ Chg p (p + 1) w w' := by
  obtain ⟨ti, hti, hz0, hz1, hz2⟩ := info_parts Try.infoU9
  have hps : p < w.heap.size := (Array.getElem?_eq_some_iff.1 hs).1
  obtain ⟨c0, c1, c2, _⟩ := three_cells hs
  have HV : Hid (View w lo hi .u8 cv code) := hc
  have hN := l1Next_calls w p at' sz (5 + (sz : Int)) (by omega) hB hcl (by omega) hs hc hp
  have hr := nxt_range code at' (5 + (sz : Int))
  have hr2 := hr.2 (by omega)
  obtain ⟨n, hn⟩ : ∃ n : Nat, nxt code at' (5 + (sz : Int)) = (n : Int) := ⟨(nxt code at' (5 + (sz : Int))).toNat, by omega⟩
  rw [hn] at hN hr2
  have hn17 : n ≤ 17 := by omega
  clear hr hn hs
  go_enter Try.func22, Try.ntmps22
  go_wp2_with fail
  refine hN.mono ?_
  rintro e w1 ⟨rfl, s1, h1⟩
  have HC1 : Hid (Chg p (p + 1) w w1) := h1
  have hN2 := l1Chance_calls w1 p (at' + 1) sz 30 (by omega) hB hcl (by omega) s1 (HV.out.chg h1 (by omega)) hp
  have z1 := h1.size
  generalize (nxt code (at' + 1) 30 == 0) = cb at *
  clear hN s1 h1 c0 c1 c2
  go_wp2_with fail
  refine hN2.mono ?_
  rintro e w2 ⟨rfl, s2, h2⟩
  have HC2 : Hid (Chg p (p + 1) w w2) := HC1.out.trans h2
  have z2 := h2.size
  have HS2 : Hid (SrcAt w2 p cv (at' + 1 + 1) sz) := s2
  clear hN2 s2 h2 HC1
  cases cb
  · have HO0 : Hid (OwnB (w2.alloc (.cells #[] 5)) w.heap.size 5 (.slice (some ⟨w2.heap.size, 0, none⟩) 0 0) []) := OwnB.bnil w2 _ (by omega)
    have HC0 : Hid (Chg p (p + 1) w (w2.alloc (.cells #[] 5))) := HC2.out.alloc _
    have HS0 : Hid (SrcAt (w2.alloc (.cells #[] 5)) p cv (at' + 2) sz) := HS2.out.chg (Chg.alloc (Chg.refl 0 0 w2) _) (by omega)
    go_wp2
    go_loopw [4, 5] (fun o x wr => ∃ (k g cp a2 : Nat) (xs : List Int), k ≤ n ∧ x = .int .i64 k ∧ o = .slice (some ⟨g, 0, none⟩) k cp ∧ xs.length = k ∧ Byt xs ∧ OwnB wr w.heap.size 5 (.slice (some ⟨g, 0, none⟩) k cp) xs ∧ SrcAt wr p cv a2 sz ∧ a2 = at' + 2 + 2 * k ∧ Chg p (p + 1) w wr) (fun _ x _ => n - (intOf x).toNat)
    case atStart => exact ⟨0, _, _, _, [], Nat.zero_le _, rfl, rfl, rfl, (by intro x hx; cases hx), HO0.out, HS0.out, rfl, HC0.out⟩
    case round =>
      obtain ⟨k, g, cp, a2, xs, hk, rfl, rfl, hxl, hxb, ho, hs, ha2, hch⟩ := hrel
      clear HO0 HC0 HS0 HC2 HS2
      have HO : Hid (OwnB wr w.heap.size 5 (.slice (some ⟨g, 0, none⟩) k cp) xs) := ho
      have HC : Hid (Chg p (p + 1) w wr) := hch
      have HXl : Hid (xs.length = k) := hxl
      have HXb : Hid (Byt xs) := hxb
      have HA2 : Hid (a2 = at' + 2 + 2 * k) := ha2
      have zr := hch.size
      have hab : a2 ≤ 2000 := by omega
      by_cases hlt : k < n
      · have hi' : (k : Int) < (n : Int) := by omega
        have hN := l1Next_calls wr p a2 sz 256 (by omega) hB hcl (by omega) hs (HV.out.chg hch (by omega)) hp
        have hr := nxt_range code a2 256
        have hr2 := hr.2 (by omega)
        generalize nxt code a2 256 = bx at *
        have hwx : IntKind.u8.wrap bx = bx := wrap_byte hr.1 hr2
        clear ho hch hs hxl hxb ha2
        go_wp2_with fail
        refine hN.mono ?_
        rintro e w5 ⟨rfl, s5, h5⟩
        have HC5 : Hid (Chg p (p + 1) w w5) := HC.out.trans h5
        have HO5 : Hid (OwnB w5 w.heap.size 5 (.slice (some ⟨g, 0, none⟩) k cp) xs) := HO.out.chg h5 (fun g hg => by have := (HO.out.lt g hg).1; omega)
        have z5 := h5.size
        have hN := l1Next_calls w5 p (a2 + 1) sz 4 (by omega) hB hcl (by omega) s5 (HV.out.chg HC5.out (by omega)) hp
        generalize nxt code (a2 + 1) 4 = kx at *
        clear s5 h5 HO HC
        go_wp2_with fail
        clear hwx
        refine hN.mono ?_
        rintro e w6 ⟨rfl, s6, h6⟩
        have HC6 : Hid (Chg p (p + 1) w w6) := HC5.out.trans h6
        have HO6 : Hid (OwnB w6 w.heap.size 5 (.slice (some ⟨g, 0, none⟩) k cp) xs) := HO5.out.chg h6 (fun g hg => by have := (HO5.out.lt g hg).1; omega)
        have HS6 : Hid (SrcAt w6 p cv (a2 + 1 + 1) sz) := s6
        have z6 := h6.size
        clear s6 h6 HO5 HC5 hN
        go_upto_if 33 with fail
        go_cut [6] (fun s6 wx => (∃ y : Int, s6 = .int .u8 y ∧ 0 ≤ y ∧ y < 256) ∧ wx = w6)
        case first =>
          by_cases e0 : kx = 0
          · subst e0
            go_wp2
            go_meet
            exact ⟨⟨255, rfl, by omega, by omega⟩, rfl⟩
          · have f0 : (kx == 0) = false := by simpa using e0
            go_wp2
            go_meet
            exact ⟨⟨bx, rfl, hr.1, hr2⟩, rfl⟩
        case rest =>
          obtain ⟨⟨y, rfl, hy0, hy1⟩, rfl⟩ := hcut
          generalize wc = wq at *
          clear hr hr2
          go_upto_if 35 with fail
          go_cut [6] (fun s6 wx => (∃ y : Int, s6 = .int .u8 y ∧ 0 ≤ y ∧ y < 256) ∧ wx = wq)
          case first =>
            by_cases e0 : kx = 1
            · subst e0
              go_wp2
              go_meet
              exact ⟨⟨0, rfl, by omega, by omega⟩, rfl⟩
            · have f0 : (kx == 1) = false := by simpa using e0
              go_wp2
              go_meet
              exact ⟨⟨y, rfl, hy0, hy1⟩, rfl⟩
          case rest =>
            clear hy0 hy1 y
            obtain ⟨⟨y, rfl, hy0, hy1⟩, rfl⟩ := hcut
            generalize wc = wq at *
            have X7 := byte_row wq w.heap.size y (by omega)
            have cb : Chg 0 0 wq (wq.alloc (.cells #[.int .u8 y] 5)) := Chg.alloc (Chg.refl 0 0 wq) _
            have HO7 : Hid (OwnB (wq.alloc (.cells #[.int .u8 y] 5)) w.heap.size 5 (.slice (some ⟨g, 0, none⟩) k cp) xs) := HO6.out.chg cb (by intro g _; omega)
            have HV7 : Hid (View (wq.alloc (.cells #[.int .u8 y] 5)) w.heap.size (wq.alloc (.cells #[.int .u8 y] 5)).heap.size .u8 (.slice (some ⟨wq.heap.size, 0, none⟩) 1 1) [y]) := X7.seen (by simp)
            have HC7 : Hid (Chg p (p + 1) w (wq.alloc (.cells #[.int .u8 y] 5))) := HC6.out.alloc _
            have HS7 : Hid (SrcAt (wq.alloc (.cells #[.int .u8 y] 5)) p cv (a2 + 1 + 1) sz) := HS6.out.chg cb (by omega)
            have z7 : (wq.alloc (.cells #[.int .u8 y] 5)).heap.size = wq.heap.size + 1 := by simp
            clear X7 cb HO6 HC6 HS6
            go_wp2_with (at_builtin; refine wpList_app_seen rfl _ _ rfl w.heap.size _ xs rfl HO7.out (by omega) _ _ _ [y] rfl HV7.out (by simp) (by rw [HXl.out]; simp; omega) ?_)
            intro v8 w8 o8 h8
            have HL8 : Hid ((xs ++ [y]).length = k + 1) := by show _ = _; rw [List.length_append, HXl.out]; rfl
            obtain ⟨g8, c8, rfl⟩ := o8.some_of (by rw [HL8.out]; omega)
            rw [HL8.out] at o8
            rw [HL8.out]
            have HR : Hid (Byt (xs ++ [y]) ∧ OwnB w8 w.heap.size 5 (.slice (some ⟨g8, 0, none⟩) (k + 1) c8) (xs ++ [y]) ∧ SrcAt w8 p cv (a2 + 1 + 1) sz ∧ Chg p (p + 1) w w8) := by
              refine ⟨fun x hx => ?_, o8, HS7.out.chg h8 (by omega), HC7.out.step h8 (by omega)⟩
              rcases List.mem_append.1 hx with hx | hx
              · exact HXb.out x hx
              · rw [List.mem_singleton.1 hx]; exact ⟨hy0, hy1⟩
            clear o8 h8 HO7 HV7 HC7 HS7
            go_wp2
            go_roundw
            case rel => exact ⟨k + 1, g8, c8, a2 + 1 + 1, xs ++ [y], by omega, by go_num, rfl, HL8.out, HR.out.1, HR.out.2.1, HR.out.2.2.1, by have := HA2.out; omega, HR.out.2.2.2⟩
            case measure => simp [intOf]; omega
      · obtain rfl : k = n := by omega
        have HS : Hid (SrcAt wr p cv a2 sz) := hs
        clear ho hch hs hxl hxb ha2
        go_wp2
        go_ret
        exact ⟨_, xs, a2, rfl, HO.out, HXb.out, by rw [HXl.out]; omega, HS.out, by have := HA2.out; omega, HC.out⟩
  · have hN := l1Next_calls w2 p (at' + 1 + 1) sz 2 (by omega) hB hcl (by omega) HS2.out (HV.out.chg HC2.out (by omega)) hp
    have hr := nxt_range code (at' + 1 + 1) 2
    have hr2 := hr.2 (by omega)
    obtain ⟨m, hm⟩ : ∃ m : Nat, nxt code (at' + 1 + 1) 2 = (m : Int) := ⟨(nxt code (at' + 1 + 1) 2).toNat, by omega⟩
    rw [hm] at hN hr2
    have hm1 : m ≤ 1 := by omega
    clear hr hm
    go_wp2_with fail
    refine hN.mono ?_
    rintro e w3 ⟨rfl, s3, h3⟩
    have HC3 : Hid (Chg p (p + 1) w w3) := HC2.out.trans h3
    have HS3 : Hid (SrcAt w3 p cv (at' + 1 + 1 + 1) sz) := s3
    have z3 := h3.size
    obtain ⟨N, hNe⟩ : ∃ N : Nat, N = 2048 + m := ⟨_, rfl⟩
    have hen : (2048 : Int) + (m : Int) = (N : Int) := by omega
    have hN1 : N ≤ 2049 := by omega
    clear hN s3 h3 HC2 HS2 hNe
    go_wp2_with (at_make; refine wpList_make_full _ rfl _ _ 22 rfl w3.heap.size 5 ti (.int .u8 0) 1 Try.underlying22 hti hz0 hz1 _ _ _ _ N rfl rfl (by omega) (by omega) (by rw [hz2]; omega) (by unfold maxLen; omega) (by omega) ?_)
    intro w5 hown hgrow
    have HO : Hid (OwnB w5 w3.heap.size 5 (.slice (some ⟨w3.heap.size, 0, none⟩) N N) (List.replicate N 0)) := by
      show OwnB _ _ _ _ _
      unfold OwnB
      simpa [toList_madeCells_one] using hown
    have c5 : Chg 0 0 w3 w5 := Chg.ofGrown hgrow (by simp)
    have HO2 : Hid (OwnB w5 w.heap.size 5 (.slice (some ⟨w3.heap.size, 0, none⟩) N N) (List.replicate N 0)) := HO.out.base (fun g hg => by have := (HO.out.lt g hg).1; omega)
    have HR : Hid (SrcAt w5 p cv (at' + 1 + 1 + 1) sz ∧ Chg p (p + 1) w w5) := ⟨HS3.out.chg c5 (by omega), HC3.out.trans ⟨c5.os, c5.tape, c5.output, c5.size, fun k hk _ => c5.block k hk (by omega)⟩⟩
    clear hown hgrow c5 HO HC3 HS3 hen
    go_wp2
    go_ret
    exact ⟨_, List.replicate N 0, _, rfl, HO2.out, (fun x hx => by rw [List.eq_of_mem_replicate hx]; omega), by rw [List.length_replicate]; omega, HR.out.1, by omega, HR.out.2⟩

set_option maxRecDepth 20000 in
set_option maxHeartbeats 2000000 in
theorem l8DrawPlace_calls (w : World) (p at' sz : Nat) {lo hi : Nat} {cv : Value} {code : List Int} (ao : Option Addr) (n cap : Nat) (hn : n ≤ 2049) (hB : Byt code) (hcl : code.length ≤ 1048576) (hat : at' ≤ 10000)
    (hs : SrcAt w p cv at' sz) (hc : View w lo hi .u8 cv code) (hp : p < lo ∨ hi ≤ p) :
    Calls Try.prog 23 #[.pointer (some ⟨p, 0, none⟩), .slice ao n cap] w fun e w' => ∃ (x : Int) (at2 : Nat), e = .returned (.int .i64 x) ∧ SrcAt w' p cv at2 sz ∧ at2 ≤ at' + 10 ∧ Chg p (p + 1) w w' := by
  have hN := l1Next_calls w p at' sz 20 (by omega) hB hcl (by omega) hs hc hp
  have HV : Hid (View w lo hi .u8 cv code) := hc
  generalize nxt code at' 20 = kx at *
  clear hs
  go_enter Try.func23, Try.ntmps23
  go_wp2_with fail
  refine hN.mono ?_
  rintro e w1 ⟨rfl, s1, h1⟩
  have HR1 : Hid (SrcAt w1 p cv (at' + 1) sz ∧ Chg p (p + 1) w w1) := ⟨s1, h1⟩
  by_cases e0 : kx = 0
  · subst e0
    clear hN s1 h1
    go_wp2
    go_ret
    exact ⟨_, _, rfl, HR1.out.1, by omega, HR1.out.2⟩
  have f0 : (kx == 0) = false := by simpa using e0
  by_cases e1 : kx = 1
  · subst e1
    clear hN s1 h1
    go_wp2
    go_ret
    exact ⟨_, _, rfl, HR1.out.1, by omega, HR1.out.2⟩
  have f1 : (kx == 1) = false := by simpa using e1
  have hN2 := l1Next_calls w1 p (at' + 1) sz (8 * (n : Int) + 3) (by omega) hB hcl (by omega) s1 (HV.out.chg h1 (by omega)) hp
  have hr := nxt_range code (at' + 1) (8 * (n : Int) + 3)
  have hr2 := hr.2 (by omega)
  generalize nxt code (at' + 1) (8 * (n : Int) + 3) = y at *
  clear hN s1 h1 e0 e1
  go_wp2_with fail
  refine hN2.mono ?_
  rintro e w2 ⟨rfl, s2, h2⟩
  have HR2 : Hid (SrcAt w2 p cv (at' + 1 + 1) sz ∧ Chg p (p + 1) w w2) := ⟨s2, HR1.out.2.trans h2⟩
  clear hN2 s2 h2 HR1 f0 f1
  go_wp2
  go_ret
  exact ⟨_, _, rfl, HR2.out.1, by omega, HR2.out.2⟩

set_option maxRecDepth 20000 in
set_option maxHeartbeats 2000000 in
theorem l8DrawRange_calls (w : World) (p sz : Nat) {lo hi : Nat} {cv : Value} {code : List Int} (hsz : sz ≤ 12) (hB : Byt code) (hcl : code.length ≤ 1048576)
    (hs : SrcAt w p cv 0 sz) (hc : View w lo hi .u8 cv code) (hp : p < lo ∨ hi ≤ p) :
    Calls Try.prog 13 #[.pointer (some ⟨p, 0, none⟩)] w fun e w' => ∃ (v : Value) (xs : List Int) (f t : Int), e = .returned (.tuple #[v, .int .i64 f, .int .i64 t]) ∧ OwnB w' w.heap.size 5 v xs ∧ Byt xs ∧ xs.length ≤ 2049 ∧ Chg p (p + 1) w w' := by
  have hps : p < w.heap.size := (Array.getElem?_eq_some_iff.1 hs).1
  have HV : Hid (View w lo hi .u8 cv code) := hc
  have hN := l8DrawBits_calls w p 0 sz hsz hB hcl (by omega) hs hc hp
  clear hs hc
  go_enter Try.func13, Try.ntmps13
  go_wp2_with fail
  refine hN.mono ?_
  rintro e w1 ⟨v1, xs, a1, rfl, o1, hxb, hxl, s1, ha1, h1⟩
  have z1 := h1.size
  have HO1 : Hid (OwnB w1 w.heap.size 5 v1 xs) := o1
  have HXb : Hid (Byt xs) := hxb
  have HXl : Hid (xs.length ≤ 2049) := hxl
  have HC1 : Hid (Chg p (p + 1) w w1) := h1
  obtain ⟨va, vc, rfl⟩ : ∃ va vc, v1 = .slice va xs.length vc := by
    rcases o1.2 with ⟨rfl, h0⟩ | ⟨g, gc, cur, rfl, _⟩
    · exact ⟨none, 0, by rw [h0]⟩
    · exact ⟨_, _, rfl⟩
  have hN2 := l8DrawPlace_calls w1 p a1 sz va xs.length vc hxl hB hcl (by omega) s1 (HV.out.chg h1 (by omega)) hp
  clear hN o1 hxb hxl s1 h1
  go_wp2_with fail
  refine hN2.mono ?_
  rintro e w2 ⟨f, a2, rfl, s2, ha2, h2⟩
  have HO2 : Hid (OwnB w2 w.heap.size 5 (.slice va xs.length vc) xs) := HO1.out.chg h2 (fun g hg => by have := (HO1.out.lt g hg).1; omega)
  have HC2 : Hid (Chg p (p + 1) w w2) := HC1.out.trans h2
  have hN3 := l8DrawPlace_calls w2 p a2 sz va xs.length vc HXl.out hB hcl (by omega) s2 (HV.out.chg HC2.out (by omega)) hp
  clear hN2 s2 h2 HO1 HC1
  go_wp2_with fail
  refine hN3.mono ?_
  rintro e w3 ⟨t, a3, rfl, s3, ha3, h3⟩
  have HO3 : Hid (OwnB w3 w.heap.size 5 (.slice va xs.length vc) xs) := HO2.out.chg h3 (fun g hg => by have := (HO2.out.lt g hg).1; omega)
  have HC3 : Hid (Chg p (p + 1) w w3) := HC2.out.trans h3
  have hN4 := l1Chance_calls w3 p a3 sz 5 (by omega) hB hcl (by omega) s3 (HV.out.chg HC3.out (by omega)) hp
  generalize (nxt code a3 5 == 0) = cb at *
  clear hN3 s3 h3 HO2 HC2
  by_cases hft : t < f
  · go_wp2_with fail
    refine hN4.mono ?_
    rintro e w4 ⟨rfl, s4, h4⟩
    have HR : Hid (OwnB w4 w.heap.size 5 (.slice va xs.length vc) xs ∧ Byt xs ∧ xs.length ≤ 2049 ∧ Chg p (p + 1) w w4) := ⟨HO3.out.chg h4 (fun g hg => by have := (HO3.out.lt g hg).1; omega), HXb.out, HXl.out, HC3.out.trans h4⟩
    clear hN4 s4 h4 HO3 HC3
    cases cb
    · go_wp2
      exact bodyPost_ret (v := .tuple #[.slice va xs.length vc, .int .i64 t, .int .i64 f]) (by simp [results, Try.results13, go_sem]) rfl ⟨_, xs, _, _, rfl, HR.out⟩
    · go_wp2
      exact bodyPost_ret (v := .tuple #[.slice va xs.length vc, .int .i64 f, .int .i64 t]) (by simp [results, Try.results13, go_sem]) rfl ⟨_, xs, _, _, rfl, HR.out⟩
  · clear hN4
    go_wp2
    exact bodyPost_ret (v := .tuple #[.slice va xs.length vc, .int .i64 f, .int .i64 t]) (by simp [results, Try.results13, go_sem]) rfl (by first | exact ⟨_, xs, _, _, rfl, HO3.out, HXb.out, HXl.out, HC3.out⟩ | exact ⟨_, ⟨_, _, rfl⟩, xs, HO3.out, HXb.out, HXl.out, HC3.out⟩)

set_option maxRecDepth 20000 in
set_option maxHeartbeats 1000000 in
theorem drawBitRuns_calls (w : World) {lo hi : Nat} {cv : Value} {code : List Int} (hB : Byt code) (hcl : code.length ≤ 1048576) (hc : View w lo hi .u8 cv code) (hhi : hi ≤ w.heap.size) :
    Calls Try.prog 4 #[cv] w fun e w' => ∃ (v : Value) (xs : List Int) (f t : Int), e = .returned (.tuple #[v, .int .i64 f, .int .i64 t]) ∧ OwnB w' w.heap.size 5 v xs ∧ Byt xs ∧ xs.length ≤ 2049 ∧ Chg 0 0 w w' := by
  have v0 := hc
  obtain ⟨ao, cap, rfl, hl, _, _⟩ := hc
  go_enter Try.func4, Try.ntmps4
  go_wp2_with fail
  refine (l1Source_calls _ ao code.length cap hl).mono ?_
  rintro e w1 ⟨rfl, s1, c1⟩
  have hN := l8DrawRange_calls w1 w.heap.size (min (code.length / 16) 12) (by omega) hB hcl s1 (v0.chg c1 (by omega)) (Or.inr hhi)
  have z1 := c1.size
  have HC1 : Hid (Chg 0 0 w w1) := c1
  clear s1 c1
  go_wp2_with fail
  refine hN.mono ?_
  rintro e w2 ⟨v, xs, f, t, rfl, o2, hxb, hxl, h2⟩
  have HR : Hid (OwnB w2 w.heap.size 5 v xs ∧ Byt xs ∧ xs.length ≤ 2049 ∧ Chg 0 0 w w2) := ⟨o2.base (fun g hg => by have := (o2.lt g hg).1; omega), hxb, hxl, HC1.out.step h2 (Or.inr (Or.inl (Nat.le_refl _)))⟩
  clear hN o2 hxb hxl h2 HC1
  go_wp2
  exact bodyPost_ret (v := .tuple #[v, .int .i64 f, .int .i64 t]) (by simp [results, Try.results4, go_sem]) rfl ⟨_, xs, _, _, rfl, HR.out⟩

end Go.Proofs.Ytgmpggloonkfnaa
