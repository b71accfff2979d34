/- One operation on a device: doWrite, doFlush, do of the program. -/
import Derived.Test.YtplfehjaakkldaaDiskP
import Derived.Test.YtplfehjaakkldaaWriteNo
import Derived.Test.YtplfehjaakkldaaOps
import Derived.Deep.RegionWith
namespace Go.Proofs.Ytplfehjaakkldaa
open Go.RowKit

theorem ownsRow_chg {w w' : World} {base : Nat} {e : TypeId} {size : Nat} {v : Value} {n : Nat} {xs : List Value} (h : w.ownsRow base e size v n xs) (c : Chg 0 0 w w') : w'.ownsRow base e size v n xs := by
  obtain ⟨h1, h2⟩ := h
  refine ⟨h1, ?_⟩
  rcases h2 with h2 | ⟨g, cap, cur, hv, hg, hh, r⟩
  · exact Or.inl h2
  · refine Or.inr ⟨g, cap, cur, hv, hg, ?_, r⟩
    rw [c.block g (Array.getElem?_eq_some_iff.1 hh).1 (by omega)]; exact hh

theorem Dev.chg0 {w w' : World} {base p : Nat} {d : Dsk} (h : Dev w base p d) (c : Chg 0 0 w w') : Dev w' base p d := by
  obtain ⟨gD, pv, h1, h2, h3, h4, h5⟩ := h
  exact ⟨gD, pv, h1, h2, (c.block p (Array.getElem?_eq_some_iff.1 h3).1 (by omega)).trans h3, ownsRow_chg h4 c, ownsRow_chg h5 c⟩

theorem Chg.into {base : Nat} {a b c : World} (h : Chg 0 0 a b) (k : Chg base b.heap.size b c) : Chg base a.heap.size a c :=
  ⟨k.os.trans h.os, k.tape.trans h.tape, k.output.trans h.output, Nat.le_trans h.size k.size, fun i hi ho => (k.block i (Nat.lt_of_lt_of_le hi h.size) (Or.inl (by omega))).trans (h.block i hi (by omega))⟩
theorem Chg.onto {base : Nat} {a b c : World} (h : Chg base a.heap.size a b) (k : Chg base b.heap.size b c) : Chg base a.heap.size a c :=
  ⟨k.os.trans h.os, k.tape.trans h.tape, k.output.trans h.output, Nat.le_trans h.size k.size, fun i hi ho => (k.block i (Nat.lt_of_lt_of_le hi h.size) (Or.inl (by omega))).trans (h.block i hi ho)⟩

/-- What a disk is behind one operation; nothing if it is refused. -/
def opD (d : Dsk) (o : Opx) : Option Dsk :=
  if o.1 = 1 then (if d.pend.length < 600 ∧ 0 ≤ o.2.1 ∧ o.2.1 < ((d.dur.length / 64 : Nat) : Int) ∧ o.2.2.length = 64 then some ⟨d.dur, d.pend ++ [(o.2.1, o.2.2)]⟩ else none)
  else if o.1 = 2 then (if o.2.1 = 0 ∧ o.2.2.length = 0 then some (setD (fun _ => true) d) else none) else none

theorem three_cells' {w : World} {s : Nat} {a b c : Value} {t : TypeId} (h : w.heap[s]? = some (.cells #[a, b, c] t (0, 0))) :
    w.cell? ⟨s, 0, none⟩ = some a ∧ w.cell? ⟨s, 1, none⟩ = some b ∧ w.cell? ⟨s, 2, none⟩ = some c := by
  simp [World.cell?, h]

/-- What one operation leaves of a device. -/
def Did (w w' : World) (base p : Nat) (r : Option Dsk) (e : Ending) : Prop :=
  ∃ b : Bool, e = .returned (.bool b) ∧ Chg base w.heap.size w w' ∧ ((b = true ∧ ∃ d', r = some d' ∧ Dev w' base p d') ∨ (b = false ∧ r = none))

theorem Did.yes {w w' : World} {base p : Nat} {r : Option Dsk} {e : Ending} (d' : Dsk) (hr : r = some d') (he : e = .returned (.bool true)) (hd : Dev w' base p d') (hc : Chg base w.heap.size w w') : Did w w' base p r e := ⟨true, he, hc, Or.inl ⟨rfl, d', hr, hd⟩⟩
theorem Did.no {w w' : World} {base p : Nat} {r : Option Dsk} {e : Ending} (hr : r = none) (he : e = .returned (.bool false)) (hc : Chg base w.heap.size w w') : Did w w' base p r e := ⟨false, he, hc, Or.inr ⟨rfl, hr⟩⟩

set_option maxRecDepth 20000 in
set_option maxHeartbeats 1000000 in
theorem doWrite_calls (w : World) {base p lo hi : Nat} {d : Dsk} {dv : Value} (q a : Int) (ys : List Int) (h : Dev w base p d) (hb : View w lo hi .u8 dv ys) (hlo : hi ≤ base) :
    Calls Try.prog 83 #[.pointer (some ⟨p, 0, none⟩), .agg #[.int .i64 q, .int .i64 a, dv]] w fun e w' => Did w w' base p (opD d (1, a, ys)) e := by
  have B := heap_new w (.cells #[.int .i64 q, .int .i64 a, dv] 89)
  have C : Chg 0 0 w (w.alloc (.cells #[.int .i64 q, .int .i64 a, dv] 89)) := Chg.alloc (Chg.refl 0 0 w) _
  obtain ⟨k0, k1, k2⟩ := three_cells' B
  have hv := hb.chg C (by omega)
  have hdev := h.chg0 C
  obtain ⟨vo, vc, rfl, _, _, _⟩ := hb
  by_cases hok : d.pend.length < 600 ∧ 0 ≤ a ∧ a < ((d.dur.length / 64 : Nat) : Int) ∧ ys.length = 64
  · have HF : Hid (opD d (1, a, ys) = some ⟨d.dur, d.pend ++ [(a, ys)]⟩) := by show _ = _; unfold opD; rw [if_pos rfl, if_pos hok]
    obtain ⟨o1, o2, o3, o4⟩ := hok
    obtain ⟨an, rfl⟩ := Int.eq_ofNat_of_zero_le o2
    have hW := write_yes _ an ys hdev hv hlo o4 (by omega) o1
    clear h B o2 o3 hdev hv
    have HL : Hid _ := o4
    clear o4
    go_enter Try.func83, Try.ntmps83
    go_wp2_with fail
    refine hW.mono ?_
    rintro e w2 ⟨rfl, hdev2, hc⟩
    have HC : Hid _ := C.into hc
    clear hW hc C k0 k1 k2
    go_wp2
    go_ret
    exact Did.yes _ HF.out rfl hdev2 HC.out
  · have HF : Hid (opD d (1, a, ys) = none) := by show _ = _; unfold opD; rw [if_pos rfl, if_neg hok]
    have hW := write_no _ a ys hdev hv (by omega)
    have HC : Hid (Chg base w.heap.size w (w.alloc (.cells #[.int .i64 q, .int .i64 a, .slice vo ys.length vc] 89))) := C.into (Chg.refl _ _ _)
    clear h B hdev hv hok C
    go_enter Try.func83, Try.ntmps83
    go_wp2_with fail
    refine hW.mono ?_
    rintro e w2 ⟨rfl, rfl⟩
    clear hW k0 k1 k2
    go_wp2
    go_ret
    exact Did.no HF.out rfl HC.out

set_option maxRecDepth 20000 in
set_option maxHeartbeats 1000000 in
theorem doFlush_calls (w : World) {base p lo hi : Nat} {d : Dsk} {dv : Value} (q a : Int) (ys : List Int) (h : Dev w base p d) (hb : View w lo hi .u8 dv ys) :
    Calls Try.prog 84 #[.pointer (some ⟨p, 0, none⟩), .agg #[.int .i64 q, .int .i64 a, dv]] w fun e w' => Did w w' base p (opD d (2, a, ys)) e := by
  have B := heap_new w (.cells #[.int .i64 q, .int .i64 a, dv] 89)
  have C : Chg 0 0 w (w.alloc (.cells #[.int .i64 q, .int .i64 a, dv] 89)) := Chg.alloc (Chg.refl 0 0 w) _
  have hdev := h.chg0 C
  obtain ⟨vo, vc, rfl, _, _, _⟩ := hb
  obtain ⟨k0, k1, k2⟩ := three_cells' B
  have HC0 : Hid (Chg base w.heap.size w (w.alloc (.cells #[.int .i64 q, .int .i64 a, .slice vo ys.length vc] 89))) := C.into (Chg.refl _ _ _)
  by_cases ha : a = 0
  · have ha' : (a != 0) = false := by rw [ha]; rfl
    by_cases hy : ys.length = 0
    · have hy' : ((ys.length : Int) != 0) = false := by rw [hy]; rfl
      have HF : Hid (opD d (2, a, ys) = some (setD (fun _ => true) d)) := by show _ = _; unfold opD; rw [if_neg (show ¬ (2 : Int) = 1 by decide), if_pos rfl, if_pos ⟨ha, hy⟩]
      have hW := flush_calls _ hdev
      clear h B hdev ha hy HC0
      go_enter Try.func84, Try.ntmps84
      go_wp2_with fail
      refine hW.mono ?_
      rintro e w2 ⟨rfl, hdev2, hc⟩
      have HC : Hid _ := C.into hc
      clear hW hc C k0 k1 k2
      go_wp2
      go_ret
      exact Did.yes _ HF.out rfl hdev2 HC.out
    · have hy' : ((ys.length : Int) != 0) = true := by simp only [bne_iff_ne, ne_eq]; omega
      have HF : Hid (opD d (2, a, ys) = none) := by show _ = _; unfold opD; rw [if_neg (show ¬ (2 : Int) = 1 by decide), if_pos rfl, if_neg (fun h => hy h.2)]
      clear h B hdev ha hy C
      go_enter Try.func84, Try.ntmps84
      go_wp2
      go_ret
      exact Did.no HF.out rfl HC0.out
  · have ha' : (a != 0) = true := by simp only [bne_iff_ne, ne_eq]; exact ha
    have HF : Hid (opD d (2, a, ys) = none) := by show _ = _; unfold opD; rw [if_neg (show ¬ (2 : Int) = 1 by decide), if_pos rfl, if_neg (fun h => ha h.1)]
    clear h B hdev ha C
    go_enter Try.func84, Try.ntmps84
    go_wp2
    go_ret
    exact Did.no HF.out rfl HC0.out

theorem step_some (f : Nat) (w : World) : (binOp .eql 114 (.func (.func f) #[] #[]) .nilFunc).run Try.prog w = .ok (.bool false) w := by
  have h : (Op.equal 114 (.func (.func f) #[] #[]) .nilFunc).run Try.prog w = .ok false w := by
    unfold Op.equal Op.maxDepth
    rw [Op.equalIn]
    simp [run_underlying Try.underlying114]
  simp [binOp, h]
theorem step_none (w : World) : (binOp .eql 114 .nilFunc .nilFunc).run Try.prog w = .ok (.bool true) w := by
  have h : (Op.equal 114 .nilFunc .nilFunc).run Try.prog w = .ok true w := by
    unfold Op.equal Op.maxDepth
    rw [Op.equalIn]
    simp [run_underlying Try.underlying114]
  simp [binOp, h]

set_option maxRecDepth 20000 in
set_option maxHeartbeats 2000000 in
theorem do_calls (w : World) {base p lo hi : Nat} {d : Dsk} {dv : Value} (q a : Int) (ys : List Int) (h : Dev w base p d) (hb : View w lo hi .u8 dv ys) (hlo : hi ≤ base) :
    Calls Try.prog 66 #[.pointer (some ⟨p, 0, none⟩), .agg #[.int .i64 q, .int .i64 a, dv]] w fun e w' => Did w w' base p (opD d (q, a, ys)) e := by
  have v0 := hb
  obtain ⟨vo, vc, rfl, _, _, _⟩ := hb
  have hs1 := fun (w : World) (a : Addr) (m : Mode) => run_store Try.prog w a Value.nilFunc m rfl
  have hs2 := fun (w : World) (a : Addr) (m : Mode) => run_store Try.prog w a (.func (.func 83) #[] #[]) m rfl
  have hs3 := fun (w : World) (a : Addr) (m : Mode) => run_store Try.prog w a (.func (.func 84) #[] #[]) m rfl
  have C0 : Chg 0 0 w ((w.alloc (.cells #[.int .i64 q, .int .i64 a, .slice vo ys.length vc] 89)).alloc (.cells #[.nilFunc, .func (.func 83) #[] #[], .func (.func 84) #[] #[]] 115)) := (Chg.alloc (Chg.refl 0 0 w) _).alloc _
  have HC0 : Hid (Chg base w.heap.size w ((w.alloc (.cells #[.int .i64 q, .int .i64 a, .slice vo ys.length vc] 89)).alloc (.cells #[.nilFunc, .func (.func 83) #[] #[], .func (.func 84) #[] #[]] 115))) := C0.into (Chg.refl _ _ _)
  have he1 := step_some
  have he2 := step_none
  by_cases hq1 : q = 1
  · subst hq1
    have hdev := h.chg0 C0.drew
    have hv := v0.chg C0.drew (by omega)
    have hD := doWrite_calls _ 1 a ys hdev hv hlo
    have HD : Hid _ := hD
    clear h hdev hv v0 hD HC0
    go_enter Try.func66, Try.ntmps66
    go_wp2
    go_region_with (go_at_call 83; refine Calls.mono HD.out ?_; rintro e w2 ⟨b, rfl, hc, hr⟩)
    all_goals
      have HC : Hid _ := C0.drew.into hc
      have HR : Hid _ := hr
      clear hc hr HD
      go_wp2
      go_ret
      exact ⟨b, rfl, HC.out, HR.out⟩
  by_cases hq2 : q = 2
  · subst hq2
    have hdev := h.chg0 C0.drew
    have hv := v0.chg C0.drew (by omega)
    have hD := doFlush_calls _ 2 a ys hdev hv
    have HD : Hid _ := hD
    clear h hdev hv v0 hD HC0
    go_enter Try.func66, Try.ntmps66
    go_wp2
    go_region_with (go_at_call 84; refine Calls.mono HD.out ?_; rintro e w2 ⟨b, rfl, hc, hr⟩)
    all_goals
      have HC : Hid _ := C0.drew.into hc
      have HR : Hid _ := hr
      clear hc hr HD
      go_wp2
      go_ret
      exact ⟨b, rfl, HC.out, HR.out⟩
  have HF : Hid (opD d (q, a, ys) = none) := by show _ = _; unfold opD; rw [if_neg hq1, if_neg hq2]
  clear h v0 C0
  by_cases hq0 : q = 0
  · subst hq0
    go_enter Try.func66, Try.ntmps66
    go_wp2
    go_ret
    exact Did.no HF.out rfl HC0.out
  by_cases hneg : q < 0
  · go_enter Try.func66, Try.ntmps66
    go_wp2
    go_ret
    exact Did.no HF.out rfl HC0.out
  · have hge : q ≥ 3 := by omega
    go_enter Try.func66, Try.ntmps66
    go_wp2
    go_ret
    exact Did.no HF.out rfl HC0.out

end Go.Proofs.Ytplfehjaakkldaa
