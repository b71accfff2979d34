/- Several short texts in one: TakeAll, ShelfSplit. -/
import Derived.Test.YteaeikmgkmpkiaaGreatDoorTakeB
import Derived.Test.YteaeikmgkmpkiaaGreatDoorTakeC
import Derived.Test.YteaeikmgkmpkiaaGreatDoorMapText
import Derived.Test.YteaeikmgkmpkiaaGreatDoorCmds
import Derived.Test.YteaeikmgkmpkiaaGreatDoorTextL
import Derived.Shelf.Strings.Split
import Derived.Shelf.Slices.Turned
import Derived.Test.YteaeikmgkmpkiaaGreatDoorRows
namespace Go.Proofs.YteaeikmgkmpkiaaGreatDoor
open Go.RowKit Go.Lib

def tNum : Lst → ByteArray → Option Lst := fun s x => (numF x).map fun n => { s with nums := s.nums ++ [n] }
/-- What a taker does, by its number. -/
def tk (f : Nat) : Lst → ByteArray → Option Lst :=
  if f = 31 then fun s x => some { s with path := x }
  else if f = 32 then fun s x => some { s with to' := x }
  else if f = 38 then fun s x => (numF x).map fun n => { s with han := n }
  else if f = 34 then fun s x => (numF x).map fun n => { s with off := n }
  else if f = 37 then fun s x => (numF x).map fun n => { s with siz := n }
  else if f = 33 then fun s x => (unqD x).map fun d => { s with data := d }
  else if f = 35 then lenF
  else if f = 36 then letF
  else if f = 39 then countF
  else tNum
def known : List Nat := [31, 32, 38, 34, 37, 33, 35, 36, 39, 45]
theorem tk_ok : ∀ f ∈ known, TakeOk f (tk f) := by
  intro f hf
  unfold known at hf
  simp only [List.mem_cons, List.not_mem_nil, or_false] at hf
  rcases hf with rfl | rfl | rfl | rfl | rfl | rfl | rfl | rfl | rfl | rfl
  · exact takePath_ok
  · exact takeTo_ok
  · exact takeHandle_ok
  · exact takeOffset_ok
  · exact takeSize_ok
  · exact takeData_ok
  · exact takeLength_ok
  · exact takeLetter_ok
  · exact takeCount_ok
  · exact takeNumber_ok

def fnAt (fns : List Nat) (i : Nat) : Nat := fns.getD i 45
def takeAll (fns : List Nat) : Nat → List ByteArray → Lst → Option Lst
  | _, [], s => some s
  | i, x :: r, s => (tk (fnAt fns i) s x).bind (takeAll fns (i + 1) r)

theorem aN_size (k : Nat) : (aN k).size = k := by
  unfold aN
  show (Lib.repeatL [97] k).toArray.size = k
  rw [List.size_toArray]
  induction k with
  | zero => rfl
  | succ n ih => show ([97] ++ Lib.repeatL [97] n).length = n + 1; rw [List.length_append, ih]; simp; omega

/-- What a taker keeps of sizes. -/
theorem tk_sizes {f : Nat} {s s' : Lst} {x : ByteArray} (h : tk f s x = some s') : s'.nums.length ≤ s.nums.length + 1 ∧ (s.data.size ≤ 1048576 → s'.data.size ≤ 1048576) := by
  unfold tk at h
  split at h
  · injection h with h; subst h; exact ⟨by simp, fun h => h⟩
  split at h
  · injection h with h; subst h; exact ⟨by simp, fun h => h⟩
  split at h
  · obtain ⟨n, _, rfl⟩ := Option.map_eq_some_iff.1 h; exact ⟨by simp, fun h => h⟩
  split at h
  · obtain ⟨n, _, rfl⟩ := Option.map_eq_some_iff.1 h; exact ⟨by simp, fun h => h⟩
  split at h
  · obtain ⟨n, _, rfl⟩ := Option.map_eq_some_iff.1 h; exact ⟨by simp, fun h => h⟩
  split at h
  · obtain ⟨d, hd, rfl⟩ := Option.map_eq_some_iff.1 h
    refine ⟨by simp, fun _ => ?_⟩
    have h := unqD_some hd
    have hf := forth h
    show d.size ≤ 1048576
    by_cases hd : d.size ≤ 65536
    · omega
    · exfalso
      unfold quoV at hf
      rw [if_pos (by omega)] at hf
      subst hf
      rw [unq_nothing] at h
      exact unqO_ne h.symm
  split at h
  · unfold lenF at h
    split at h
    · cases h
    · split at h
      · injection h with h; subst h
        refine ⟨by simp, fun _ => ?_⟩
        show (aN _).size ≤ _
        rw [aN_size]
        omega
      · cases h
  split at h
  · unfold letF at h
    split at h
    · injection h with h; subst h
      refine ⟨by simp, fun hz => ?_⟩
      show (strOfNums _).size ≤ _
      rw [strOfNums_size]
      unfold letL
      simpa using hz
    · cases h
  split at h
  · unfold countF at h
    split at h
    · cases h
    · split at h
      · injection h with h; subst h
        exact ⟨by simp, fun h => h⟩
      · cases h
  · unfold tNum at h
    obtain ⟨n, _, rfl⟩ := Option.map_eq_some_iff.1 h
    exact ⟨by simp, fun h => h⟩

theorem SynE.up {b r : Nat} {w w' : World} (h : SynE w) (c : Chg b r w w') (hb : 8 ≤ b) : SynE w' := by
  obtain ⟨te, pe, h⟩ := h
  exact ⟨te, pe, c.cell h (Or.inl (Nat.lt_of_lt_of_le (show 3 < 8 by decide) hb))⟩
theorem RanE.up {b r : Nat} {w w' : World} (h : RanE w) (c : Chg b r w w') (hb : 8 ≤ b) : RanE w' := by
  obtain ⟨te, pe, h⟩ := h
  exact ⟨te, pe, c.cell h (Or.inl (Nat.lt_of_lt_of_le (show 4 < 8 by decide) hb))⟩
theorem Pow.up {b r : Nat} {w w' : World} (h : Pow w) (c : Chg b r w w') (hb : 8 ≤ b) : Pow w' := by
  unfold Pow Lib.TabIs at h ⊢
  have hg : Tryz.prog.globalNamed "internal/strconv.uint64pow10" = some 5 := by kernel_rfl
  simp only [World.var?, hg, Option.bind_some] at h ⊢
  have hlt : 5 < w.heap.size := by
    rcases Nat.lt_or_ge 5 w.heap.size with h' | h'
    · exact h'
    · rw [Array.getElem?_eq_none h'] at h
      cases h
  rw [c.block _ hlt (Or.inl (Nat.lt_of_lt_of_le (show 5 < 8 by decide) hb))]
  exact h

theorem takeAll_nil (fns : List Nat) (i : Nat) (s : Lst) : takeAll fns i [] s = some s := rfl
theorem takeAll_cons (fns : List Nat) (i : Nat) (x : ByteArray) (r : List ByteArray) (s : Lst) : takeAll fns i (x :: r) s = (tk (fnAt fns i) s x).bind (takeAll fns (i + 1) r) := rfl
theorem fnAt_known {fns : List Nat} (hk : ∀ f ∈ fns, f ∈ known) (i : Nat) : fnAt fns i ∈ known := by
  unfold fnAt
  rw [List.getD_eq_getElem?_getD]
  cases h : fns[i]? with
  | none => simp [known]
  | some f => exact hk f (List.mem_of_getElem? h)

theorem chg_step2 {b : Nat} {W w w2 : World} (h : Chg b W.heap.size W w) (k : Chg b w.heap.size w w2) (_ : b < W.heap.size) : Chg b W.heap.size W w2 :=
  ⟨k.os.trans h.os, k.tape.trans h.tape, k.output.trans h.output, Nat.le_trans h.size k.size, fun j hj ho => by
    have := h.size
    rw [k.block j (by omega) (by omega), h.block j hj ho]⟩

/-- Where a round of take stands. -/
structure TkI (W : World) (b : Nat) (cv : Array Value) (fns : List Nat) (fields : List ByteArray) (s : Lst) (i : Nat) (w : World) : Prop where
  box : w.heap[W.heap.size]? = some (.cells cv 57 (0, 0))
  chg : Chg b W.heap.size W w
  line : ∃ u, LineAt w b u ∧ takeAll fns 0 fields s = takeAll fns i (fields.drop i) u ∧ u.nums.length ≤ i ∧ u.data.size ≤ 1048576

set_option maxRecDepth 20000 in
set_option maxHeartbeats 4000000 in
theorem take_calls (W : World) (b : Nat) (line call nums : Int) (ao fa : Option Addr) (fc : Nat) (fns : List Nat) (fields : List ByteArray) (s : Lst)
    (hk : ∀ f ∈ fns, f ∈ known) (hfl : fns.length ≤ 1000) (hn0 : 0 ≤ nums) (hn1 : nums ≤ 1000)
    (hF : ∀ i, i < fns.length → ∃ g, ao = some ⟨g, 0, none⟩ ∧ g < b ∧ W.cell? ⟨g, i, none⟩ = some (fnV (fnAt fns i)))
    (hV : ∀ i, i < fields.length → ∃ g off, fa = some ⟨g, off, none⟩ ∧ g < b ∧ W.cell? ⟨g, off + i, none⟩ = some (.string (fields.getD i noText)))
    (hfz : fields.length ≤ 100000) (hxz : ∀ x ∈ fields, x.size ≤ 1048576)
    (hS : SynE W) (hR : RanE W) (hP : Pow W) (hL : LineAt W b s) (hs0 : s.nums = []) (hsd : s.data.size ≤ 1048576) (hgb : 8 ≤ b) :
    Calls Tryz.prog 29 #[cmdV line call (.slice ao fns.length fns.length) nums, .pointer (some ⟨b, 0, none⟩), .slice fa fields.length fc] W fun e w' =>
      e = .returned (.bool (decide (fns.length ≤ fields.length ∧ (fields.length : Int) ≤ fns.length + nums) && (takeAll fns 0 fields s).isSome)) ∧
      (fns.length ≤ fields.length → (fields.length : Int) ≤ fns.length + nums → ∀ s', takeAll fns 0 fields s = some s' → LineAt w' b s') ∧ Chg b W.heap.size W w' := by
  have hbl := hL.lt
  have HI0 : Hid (TkI W b #[.int .i64 line, .int .i64 call, .slice ao fns.length fns.length, .int .i64 nums] fns fields s 0 (W.alloc (.cells #[.int .i64 line, .int .i64 call, .slice ao fns.length fns.length, .int .i64 nums] 57))) :=
    ⟨heap_new W _, (Chg.alloc (Chg.refl 0 0 W) _).widen (Or.inr (Nat.le_refl 0)) (Or.inr (Nat.le_refl 0)), s, hL.keep (Chg.alloc (Chg.refl 0 0 W) _), rfl, by rw [hs0]; exact Nat.le_refl 0, hsd⟩
  have HF : Hid (∀ i, i < fns.length → ∃ g, ao = some ⟨g, 0, none⟩ ∧ g < b ∧ W.cell? ⟨g, i, none⟩ = some (fnV (fnAt fns i))) := hF
  have HV : Hid (∀ i, i < fields.length → ∃ g off, fa = some ⟨g, off, none⟩ ∧ g < b ∧ W.cell? ⟨g, off + i, none⟩ = some (.string (fields.getD i noText))) := hV
  clear hF hV hL hsd hs0
  go_enter Tryz.func29, Tryz.ntmps29
  by_cases hA : fields.length < fns.length
  · have hAi : (fields.length : Int) < (fns.length : Int) := by omega
    have hd : decide (fns.length ≤ fields.length ∧ (fields.length : Int) ≤ fns.length + nums) = false := by rw [decide_eq_false_iff_not]; omega
    rw [hd, Bool.false_and]
    go_wp2
    go_ret
    exact ⟨rfl, fun h => by omega, HI0.out.chg⟩
  by_cases hB : (fns.length : Int) + nums < (fields.length : Int)
  · have hAi : ¬ ((fields.length : Int) < (fns.length : Int)) := by omega
    have hd : decide (fns.length ≤ fields.length ∧ (fields.length : Int) ≤ fns.length + nums) = false := by rw [decide_eq_false_iff_not]; omega
    rw [hd, Bool.false_and]
    go_wp2
    go_ret
    exact ⟨rfl, fun _ h => by omega, HI0.out.chg⟩
  have hAi : ¬ ((fields.length : Int) < (fns.length : Int)) := by omega
  have hd : decide (fns.length ≤ fields.length ∧ (fields.length : Int) ≤ fns.length + nums) = true := by rw [decide_eq_true_eq]; omega
  rw [hd, Bool.true_and]
  obtain ⟨R, HR⟩ : ∃ R, Hid (R = takeAll fns 0 fields s) := ⟨_, rfl⟩
  rw [← HR.out]
  have HSy : Hid (SynE W) := hS
  have HRa : Hid (RanE W) := hR
  have HPo : Hid (Pow W) := hP
  clear hS hR hP hd
  go_wp2
  go_loopw [29] (fun i wr => ∃ k : Nat, k ≤ fields.length ∧ i = .int .i64 k ∧ TkI W b #[.int .i64 line, .int .i64 call, .slice ao fns.length fns.length, .int .i64 nums] fns fields s k wr) (fun i _ => fields.length - (RowKit.intOf i).toNat)
  case atStart => exact ⟨0, Nat.zero_le _, rfl, HI0.out⟩
  case round =>
    obtain ⟨k, hkl, rfl, hI⟩ := hrel
    clear HI0
    by_cases hlt : k < fields.length
    · have hi : (k : Int) < (fields.length : Int) := by omega
      obtain ⟨hbox, hchg, u, hLu, hTk, hun, hud⟩ := hI
      obtain ⟨g, off, rfl, hg, cF⟩ := HV.out k hlt
      have cF2 := hchg.cell cF (Or.inl hg)
      have cB : wr.cell? ⟨W.heap.size, 2, none⟩ = some (.slice ao fns.length fns.length) := by rw [Lib.cell_of_heap hbox]; rfl
      have eX : fields.drop k = fields.getD k noText :: fields.drop (k + 1) := by
        rw [List.drop_eq_getElem_cons hlt, List.getD_eq_getElem?_getD, List.getElem?_eq_getElem hlt]; rfl
      have hxm : fields.getD k noText ∈ fields := by
        rw [List.getD_eq_getElem?_getD, List.getElem?_eq_getElem hlt]; exact List.getElem_mem hlt
      have hxs := hxz _ hxm
      have HT : Hid (R = (tk (fnAt fns k) u (fields.getD k noText)).bind (takeAll fns (k + 1) (fields.drop (k + 1)))) := by
        show _ = _
        rw [HR.out, hTk, eX, takeAll_cons]
      have hC := tk_ok _ (fnAt_known hk k) wr b u (fields.getD k noText) hxs (by omega) hud (HSy.out.up hchg hgb) (HRa.out.up hchg hgb) (HPo.out.up hchg hgb) hLu
      have Hbox : Hid (wr.heap[W.heap.size]? = some (.cells #[.int .i64 line, .int .i64 call, .slice ao fns.length fns.length, .int .i64 nums] 57 (0, 0))) := hbox
      have Hchg : Hid (Chg b W.heap.size W wr) := hchg
      have Hun : Hid (u.nums.length ≤ k) := hun
      generalize hfn : fnAt fns k = f at *
      generalize fields.getD k noText = x at *
      clear hTk eX hxm hLu hbox hchg cF hun
      by_cases hkf : k < fns.length
      · have hki : (k : Int) < (fns.length : Int) := by omega
        obtain ⟨g2, rfl, hg2, cG⟩ := HF.out k hkf
        rw [hfn] at cG
        have cG2 := Hchg.out.cell cG (Or.inl hg2)
        clear cG
        have hfk : f ∈ known := by rw [← hfn]; exact fnAt_known hk k
        unfold known at hfk
        simp only [List.mem_cons, List.not_mem_nil, or_false] at hfk
        rcases hfk with rfl | rfl | rfl | rfl | rfl | rfl | rfl | rfl | rfl | rfl
        all_goals
          go_wp2_with fail
          refine hC.mono ?_
          rintro e w2 ⟨rfl, hl2, c2, o2⟩
          have Hb2 : Hid (w2.heap[W.heap.size]? = some (.cells #[.int .i64 line, .int .i64 call, .slice (some ⟨g2, 0, none⟩) fns.length fns.length, .int .i64 nums] 57 (0, 0))) := by
            show _ = _
            rw [o2 _ (Array.getElem?_eq_some_iff.1 Hbox.out).1 (by omega) (fun cs fr h => by rw [Hbox.out] at h; cases h)]
            exact Hbox.out
          have Hc2 : Hid (Chg b W.heap.size W w2) := chg_step2 Hchg.out c2 hbl
          clear o2 c2 hC cB cF2 cG2
          cases ht : tk _ u x with
          | none =>
            have HN : Hid (R = none) := by show _ = _; rw [HT.out, ht]; rfl
            rw [Option.isSome_none]
            clear hl2
            go_wp2
            go_ret
            exact ⟨by rw [HN.out]; rfl, fun _ _ s' e => by (rw [HN.out] at e; cases e), Hc2.out⟩
          | some u2 =>
            have HN : Hid (R = takeAll fns (k + 1) (fields.drop (k + 1)) u2) := by show _ = _; rw [HT.out, ht]; rfl
            have HL2 : Hid (LineAt w2 b u2) := hl2 u2 ht
            have HZ : Hid (u2.nums.length ≤ k + 1 ∧ u2.data.size ≤ 1048576) := by
              have h := tk_sizes ht
              have h1 := Hun.out
              exact ⟨by omega, h.2 hud⟩
            rw [Option.isSome_some]
            clear hl2
            go_wp2
            go_roundw
            case rel => exact ⟨k + 1, by omega, by go_num, Hb2.out, Hc2.out, u2, HL2.out, by rw [← HR.out]; exact HN.out, HZ.out.1, HZ.out.2⟩
            case measure => simp [RowKit.intOf]; omega
      · have hki : ¬ ((k : Int) < (fns.length : Int)) := by omega
        have hff : f = 45 := by rw [← hfn]; unfold fnAt; rw [List.getD_eq_getElem?_getD, List.getElem?_eq_none (by omega)]; rfl
        subst hff
        go_wp2_with fail
        refine hC.mono ?_
        rintro e w2 ⟨rfl, hl2, c2, o2⟩
        have Hb2 : Hid (w2.heap[W.heap.size]? = some (.cells #[.int .i64 line, .int .i64 call, .slice ao fns.length fns.length, .int .i64 nums] 57 (0, 0))) := by
          show _ = _
          rw [o2 _ (Array.getElem?_eq_some_iff.1 Hbox.out).1 (by omega) (fun cs fr h => by rw [Hbox.out] at h; cases h)]
          exact Hbox.out
        have Hc2 : Hid (Chg b W.heap.size W w2) := chg_step2 Hchg.out c2 hbl
        clear o2 c2 hC cB cF2
        cases ht : tk _ u x with
        | none =>
          have HN : Hid (R = none) := by show _ = _; rw [HT.out, ht]; rfl
          rw [Option.isSome_none]
          clear hl2
          go_wp2
          go_ret
          exact ⟨by rw [HN.out]; rfl, fun _ _ s' e => by (rw [HN.out] at e; cases e), Hc2.out⟩
        | some u2 =>
          have HN : Hid (R = takeAll fns (k + 1) (fields.drop (k + 1)) u2) := by show _ = _; rw [HT.out, ht]; rfl
          have HL2 : Hid (LineAt w2 b u2) := hl2 u2 ht
          have HZ : Hid (u2.nums.length ≤ k + 1 ∧ u2.data.size ≤ 1048576) := by
            have h := tk_sizes ht
            have h1 := Hun.out
            exact ⟨by omega, h.2 hud⟩
          rw [Option.isSome_some]
          clear hl2
          go_wp2
          go_roundw
          case rel => exact ⟨k + 1, by omega, by go_num, Hb2.out, Hc2.out, u2, HL2.out, by rw [← HR.out]; exact HN.out, HZ.out.1, HZ.out.2⟩
          case measure => simp [RowKit.intOf]; omega
    · have hi : ¬ ((k : Int) < (fields.length : Int)) := by omega
      obtain rfl : k = fields.length := by omega
      go_wp2
      go_ret
      obtain ⟨hbox, hchg, u, hLu, hTk, hun, hud⟩ := hI
      have hE : R = some u := by rw [HR.out, hTk, List.drop_length, takeAll_nil]
      refine ⟨by rw [hE]; rfl, ?_, hchg⟩
      intros
      rename_i s' e
      rw [hE] at e; injection e with e; rw [← e]; exact hLu

end Go.Proofs.YteaeikmgkmpkiaaGreatDoor

namespace Go.Proofs.YteaeikmgkmpkiaaGreatDoor
open Go.Shelf

def Tryz.lays146_ren : Go.Shelf.Ren := ⟨fun | 146 => 27 | 221 => 43 | 268 => 51 | 138 => 52 | 143 => 53 | 195 => 64 | 197 => 65 | 218 => 66 | 219 => 67 | 260 => 79 | 217 => 80 | 225 => 81 | 224 => 82 | 267 => 83 | 266 => 95 | 314 => 96 | n => n, fun | 9 => 9 | 31 => 35 | 3 => 3 | 4 => 4 | 0 => 0 | 105 => 94 | 21 => 21 | 5 => 5 | 46 => 81 | 119 => 123 | 139 => 126 | 138 => 125 | 146 => 104 | 51 => 103 | n => n, fun | 1 => 0 | 3 => 1 | 4 => 2 | n => n⟩

theorem Tryz.lays146 : Go.Proofs.Lays.n146 Tryz.prog Tryz.lays146_ren := {
  mixed := by kernel_rfl
  f138 := Tryz.func52.trans (congrArg some (by kernel_rfl))
  f143 := Tryz.func53.trans (congrArg some (by kernel_rfl))
  f146 := Tryz.func27.trans (congrArg some (by kernel_rfl))
  f195 := Tryz.func64.trans (congrArg some (by kernel_rfl))
  f197 := Tryz.func65.trans (congrArg some (by kernel_rfl))
  f217 := Tryz.func80.trans (congrArg some (by kernel_rfl))
  f218 := Tryz.func66.trans (congrArg some (by kernel_rfl))
  f219 := Tryz.func67.trans (congrArg some (by kernel_rfl))
  f221 := Tryz.func43.trans (congrArg some (by kernel_rfl))
  f224 := Tryz.func82.trans (congrArg some (by kernel_rfl))
  f225 := Tryz.func81.trans (congrArg some (by kernel_rfl))
  f260 := Tryz.func79.trans (congrArg some (by kernel_rfl))
  f266 := Tryz.func95.trans (congrArg some (by kernel_rfl))
  f267 := Tryz.func83.trans (congrArg some (by kernel_rfl))
  f268 := Tryz.func51.trans (congrArg some (by kernel_rfl))
  f314 := Tryz.func96.trans (congrArg some (by kernel_rfl))
  t0 := Tryz.underlying0
  a0 := Tryz.isAgg0
  z0 := Tryz.sizeOf0
  v0 := Tryz.zeroValue0
  t3 := Tryz.underlying3
  a3 := Tryz.isAgg3
  z3 := Tryz.sizeOf3
  v3 := Tryz.zeroValue3
  t4 := Tryz.underlying4
  a4 := Tryz.isAgg4
  z4 := Tryz.sizeOf4
  v4 := Tryz.zeroValue4
  t5 := Tryz.underlying5
  a5 := Tryz.isAgg5
  z5 := Tryz.sizeOf5
  v5 := Tryz.zeroValue5
  t9 := Tryz.underlying9
  a9 := Tryz.isAgg9
  z9 := Tryz.sizeOf9
  v9 := Tryz.zeroValue9
  t21 := Tryz.underlying21
  a21 := Tryz.isAgg21
  z21 := Tryz.sizeOf21
  v21 := Tryz.zeroValue21
  t31 := Tryz.underlying35
  a31 := Tryz.isAgg35
  z31 := Tryz.sizeOf35
  v31 := Tryz.zeroValue35
  t46 := Tryz.underlying81
  a46 := Tryz.isAgg81
  z46 := Tryz.sizeOf81
  v46 := Tryz.zeroValue81
  t51 := Tryz.underlying103
  a51 := Tryz.isAgg103
  z51 := Tryz.sizeOf103
  v51 := Tryz.zeroValue103
  t105 := Tryz.underlying94
  a105 := Tryz.isAgg94
  z105 := Tryz.sizeOf94
  v105 := Tryz.zeroValue94
  t119 := Tryz.underlying123
  a119 := Tryz.isAgg123
  z119 := Tryz.sizeOf123
  t138 := Tryz.underlying125
  a138 := Tryz.isAgg125
  z138 := Tryz.sizeOf125
  v138 := Tryz.zeroValue125
  t139 := Tryz.underlying126
  a139 := Tryz.isAgg126
  z139 := Tryz.sizeOf126
  v139 := Tryz.zeroValue126
  t146 := Tryz.underlying104
  a146 := Tryz.isAgg104
  z146 := Tryz.sizeOf104
  v146 := Tryz.zeroValue104
  g1 := by kernel_rfl
  g3 := by kernel_rfl
  g4 := by kernel_rfl }

def Tryz.lays110_ren : Go.Shelf.Ren := ⟨fun | 110 => 28 | 109 => 44 | n => n, fun | 31 => 35 | 9 => 9 | 4 => 4 | 3 => 3 | 0 => 0 | n => n, fun | n => n⟩

theorem Tryz.lays110 : Go.Proofs.Lays.n110 Tryz.prog Tryz.lays110_ren := {
  mixed := by kernel_rfl
  f109 := Tryz.func44.trans (congrArg some (by kernel_rfl))
  f110 := Tryz.func28.trans (congrArg some (by kernel_rfl))
  t0 := Tryz.underlying0
  a0 := Tryz.isAgg0
  z0 := Tryz.sizeOf0
  v0 := Tryz.zeroValue0
  t3 := Tryz.underlying3
  a3 := Tryz.isAgg3
  z3 := Tryz.sizeOf3
  v3 := Tryz.zeroValue3
  t4 := Tryz.underlying4
  a4 := Tryz.isAgg4
  z4 := Tryz.sizeOf4
  v4 := Tryz.zeroValue4
  t9 := Tryz.underlying9
  a9 := Tryz.isAgg9
  z9 := Tryz.sizeOf9
  v9 := Tryz.zeroValue9
  t31 := Tryz.underlying35
  a31 := Tryz.isAgg35
  z31 := Tryz.sizeOf35
  v31 := Tryz.zeroValue35 }

end Go.Proofs.YteaeikmgkmpkiaaGreatDoor
