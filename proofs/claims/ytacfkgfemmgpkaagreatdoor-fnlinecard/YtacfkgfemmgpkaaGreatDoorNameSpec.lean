/- Several short texts in one: Byt, Draw, ViewStr, StrChr, StrSpec, NameSpec. -/
import Derived.Test.YtacfkgfemmgpkaaGreatDoorRows
import Derived.Test.YtacfkgfemmgpkaaGreatDoorMem
import Derived.Deep.RegionWith
import Derived.Laws.AppendOwnNone
import Derived.Laws.BytesArg
import Derived.Deep.DeepCutAuto
namespace Go.Proofs.YtacfkgfemmgpkaaGreatDoor
open Go.RowKit

def Byt (xs : List Int) : Prop := ∀ x ∈ xs, 0 ≤ x ∧ x < 256

theorem Byt.getD {xs : List Int} (h : Byt xs) (k : Nat) : 0 ≤ xs.getD k 0 ∧ xs.getD k 0 < 256 := by
  rw [List.getD_eq_getElem?_getD]
  by_cases hk : k < xs.length
  · rw [List.getElem?_eq_getElem hk]; exact h _ (List.getElem_mem hk)
  · rw [List.getElem?_eq_none (by omega)]; simp

theorem byt_of_wf {xs : List Int} (h : ∀ x ∈ xs, (Lit.int .u8 x).wf = true) : Byt xs := by
  intro x hx
  have h1 := h x hx
  have h2 : IntKind.u8.min ≤ x ∧ x ≤ IntKind.u8.max := by simpa [Lit.wf] using h1
  have e1 : IntKind.u8.min = 0 := by decide
  have e2 : IntKind.u8.max = 255 := by decide
  omega

theorem Byt.take {xs : List Int} (h : Byt xs) (n : Nat) : Byt (xs.take n) := fun x hx => h x (List.mem_of_mem_take hx)
theorem Byt.drop {xs : List Int} (h : Byt xs) (n : Nat) : Byt (xs.drop n) := fun x hx => h x (List.mem_of_mem_drop hx)

end Go.Proofs.YtacfkgfemmgpkaaGreatDoor

namespace Go.Proofs.YtacfkgfemmgpkaaGreatDoor
open Go.RowKit

/-- A source in memory: what it draws from, its place, its size. -/
def SrcAt (w : World) (p : Nat) (cv : Value) (at' sz : Nat) : Prop := w.heap[p]? = some (.cells #[cv, .int .i64 at', .int .i64 sz] 47 (0, 0))

theorem SrcAt.chg {w w' : World} {p l r : Nat} {cv : Value} {n sz : Nat} (h : SrcAt w p cv n sz) (c : Chg l r w w') (d : p < l ∨ r ≤ p) : SrcAt w' p cv n sz :=
  (c.block p (Array.getElem?_eq_some_iff.1 h).1 d).trans h

theorem three_cells {w : World} {s : Nat} {a b c : Value} {t : TypeId} (h : w.heap[s]? = some (.cells #[a, b, c] t (0, 0))) :
    w.cell? ⟨s, 0, none⟩ = some a ∧ w.cell? ⟨s, 1, none⟩ = some b ∧ w.cell? ⟨s, 2, none⟩ = some c ∧ w.frozen? ⟨s, 0, none⟩ = false ∧ w.frozen? ⟨s, 1, none⟩ = false ∧ w.frozen? ⟨s, 2, none⟩ = false := by
  simp [World.cell?, World.frozen?, h]

theorem SrcAt.next {w : World} {p : Nat} {cv : Value} {n sz : Nat} (h : SrcAt w p cv n sz) : SrcAt (w.setCell ⟨p, 1, none⟩ (.int .i64 ((n : Int) + 1))) p cv (n + 1) sz := by
  unfold SrcAt at *
  simp only [World.setCell, Array.getElem?_modify, h, if_true, Option.map_some]
  rfl

/-- What is drawn at a place. -/
def nxt (code : List Int) (at' : Nat) (n : Int) : Int :=
  if n < 1 then 0 else if code.length = 0 then ((at' : Int) * 7) % n else
    (if n > 200 then (code.getD (at' % code.length) 0 + ((at' / code.length : Nat) : Int) * 37) * 251 + code.getD ((at' + 1) % code.length) 0 * 13 + at' else code.getD (at' % code.length) 0 + ((at' / code.length : Nat) : Int) * 37) % n

theorem nxt_range (code : List Int) (at' : Nat) (n : Int) : 0 ≤ nxt code at' n ∧ (1 ≤ n → nxt code at' n < n) := by
  unfold nxt
  split
  · omega
  · rename_i h
    split
    · exact ⟨Int.emod_nonneg _ (by omega), fun _ => Int.emod_lt_of_pos _ (by omega)⟩
    · exact ⟨Int.emod_nonneg _ (by omega), fun _ => Int.emod_lt_of_pos _ (by omega)⟩

set_option maxHeartbeats 1000000 in
theorem l1Next_callsW (w : World) (p at' sz : Nat) {lo hi : Nat} {cv : Value} {code : List Int} (n : Int) (hn : n ≤ 9223372036854775807) (hB : Byt code) (hcl : code.length ≤ 1048600) (hat : at' ≤ 1099511627776)
    (hs : SrcAt w p cv at' sz) (hc : View w lo hi .u8 cv code) (hp : p < lo ∨ hi ≤ p) :
    Calls Tryz.prog 13 #[.pointer (some ⟨p, 0, none⟩), .int .i64 n] w fun e w' => e = .returned (.int .i64 (nxt code at' n)) ∧ SrcAt w' p cv (at' + 1) sz ∧ Chg p (p + 1) w w' := by
  obtain ⟨c0, c1, c2, f0, f1, f2⟩ := three_cells hs
  have HS : Hid (SrcAt (w.setCell ⟨p, 1, none⟩ (.int .i64 ((at' : Int) + 1))) p cv (at' + 1) sz) := hs.next
  have HC : Hid (Chg p (p + 1) w (w.setCell ⟨p, 1, none⟩ (.int .i64 ((at' : Int) + 1)))) := Chg.setCell (p := ⟨p, 1, none⟩) (Chg.refl p (p + 1) w) (Or.inl ⟨Nat.le_refl _, Nat.lt_succ_self _⟩) _
  obtain ⟨ao, cap, rfl, hl, ⟨hcap, hnil⟩, hcell⟩ := hc
  have hne : w.cell? ⟨p, 1, none⟩ ≠ none := by rw [c1]; simp
  clear hs
  by_cases hn1 : n < 1
  · have HV : Hid (nxt code at' n = 0) := by show _ = _; unfold nxt; rw [if_pos hn1]
    rw [HV.out]
    go_enter Tryz.func13, Tryz.ntmps13
    go_wp2
    go_ret
    exact ⟨rfl, HS.out, HC.out⟩
  · by_cases hk : code.length = 0
    · have HV : Hid (nxt code at' n = ((at' : Int) * 7) % n) := by show _ = _; unfold nxt; rw [if_neg hn1, if_pos hk]
      rw [HV.out]
      have hk' : ((code.length : Int) == 0) = true := by rw [hk]; rfl
      have hn0 : ¬ n = 0 := by omega
      clear hcell hk
      go_enter Tryz.func13, Tryz.ntmps13
      go_wp2
      go_ret
      exact ⟨rfl, HS.out, HC.out⟩
    · obtain ⟨b, off, rfl, hb1, hb2, hc2⟩ : ∃ b off, ao = some ⟨b, off, none⟩ ∧ lo ≤ b ∧ b < hi ∧ ∀ i, i < code.length → w.cell? ⟨b, off + i, none⟩ = some (.int .u8 (code.getD i 0)) := by
        rcases hcell with h | ⟨b, off, e, h1, h2, h3⟩
        · rw [h] at hk; exact absurd rfl hk
        · exact ⟨b, off, e, h1, h2, h3⟩
      have hk' : ((code.length : Int) == 0) = false := by simp only [beq_eq_false_iff_ne, ne_eq]; omega
      have hk0 : ¬ (code.length : Int) = 0 := by omega
      have hn0 : ¬ n = 0 := by omega
      have hpb : b ≠ p := by omega
      obtain ⟨i1, hi1⟩ : ∃ i1, i1 = at' % code.length := ⟨_, rfl⟩
      obtain ⟨i2, hi2⟩ : ∃ i2, i2 = (at' + 1) % code.length := ⟨_, rfl⟩
      obtain ⟨qt, hq⟩ : ∃ qt, qt = at' / code.length := ⟨_, rfl⟩
      have l1 : i1 < code.length := by rw [hi1]; exact Nat.mod_lt _ (by omega)
      have l2 : i2 < code.length := by rw [hi2]; exact Nat.mod_lt _ (by omega)
      have lq : qt ≤ at' := by rw [hq]; exact Nat.div_le_self _ _
      have e1 : (at' : Int) % (code.length : Int) = (i1 : Int) := by rw [hi1]; omega
      have e2 : ((at' : Int) + 1) % (code.length : Int) = (i2 : Int) := by rw [hi2]; exact (Int.natCast_emod (at' + 1) code.length).symm
      have eq : (at' : Int) / (code.length : Int) = (qt : Int) := by rw [hq]; omega
      have d1 := hc2 i1 l1
      have d2 := hc2 i2 l2
      have b1 := hB.getD i1
      have b2 := hB.getD i2
      have HV : Hid (nxt code at' n = (if n > 200 then (code.getD i1 0 + (qt : Int) * 37) * 251 + code.getD i2 0 * 13 + at' else code.getD i1 0 + (qt : Int) * 37) % n) := by
        show _ = _; unfold nxt; rw [if_neg hn1, if_neg hk, ← hi1, ← hi2, ← hq]
      rw [HV.out]
      generalize code.getD i1 0 = x1 at *
      generalize code.getD i2 0 = x2 at *
      clear hi1 hi2 hq hc2 hcell HV hB
      have hi1' : (i1 : Int) < (code.length : Int) := by omega
      have hi2' : (i2 : Int) < (code.length : Int) := by omega
      have d1 : (w.setCell ⟨p, 1, none⟩ (.int .i64 ((at' : Int) + 1))).cell? ⟨b, off + i1, none⟩ = some (.int .u8 x1) := (World.cell?_setCell_other _ _ _ _ (by simp)).trans d1
      have d2 : (w.setCell ⟨p, 1, none⟩ (.int .i64 ((at' : Int) + 1))).cell? ⟨b, off + i2, none⟩ = some (.int .u8 x2) := (World.cell?_setCell_other _ _ _ _ (by simp)).trans d2
      by_cases h200 : n > 200
      · rw [if_pos h200]
        go_enter Tryz.func13, Tryz.ntmps13
        go_wp2
        go_quiet (fail)
        go_wp2
        go_quiet (fail)
        go_wp2
        go_ret
        exact ⟨rfl, HS.out, HC.out.drewN _⟩
      · rw [if_neg h200]
        go_enter Tryz.func13, Tryz.ntmps13
        go_wp2
        go_quiet (fail)
        go_wp2
        go_ret
        exact ⟨rfl, HS.out, HC.out.drewN _⟩
theorem l1Next_calls (w : World) (p at' sz : Nat) {lo hi : Nat} {cv : Value} {code : List Int} (n : Int) (hn : n ≤ 9223372036854775807) (hB : Byt code) (hcl : code.length ≤ 1048576) (hat : at' ≤ 1099511627776)
    (hs : SrcAt w p cv at' sz) (hc : View w lo hi .u8 cv code) (hp : p < lo ∨ hi ≤ p) :
    Calls Tryz.prog 13 #[.pointer (some ⟨p, 0, none⟩), .int .i64 n] w fun e w' => e = .returned (.int .i64 (nxt code at' n)) ∧ SrcAt w' p cv (at' + 1) sz ∧ Chg p (p + 1) w w' :=
  l1Next_callsW w p at' sz n hn hB (by omega) hat hs hc hp

/-- How much a source has. -/
def szOf (code : List Int) : Nat := min (code.length / 16) 12

set_option maxHeartbeats 400000 in
theorem l1Source_calls (w : World) (ao : Option Addr) (n cap : Nat) (hl : n ≤ 9223372036854775807) :
    Calls Tryz.prog 10 #[.slice ao n cap] w fun e w' => e = .returned (.pointer (some ⟨w.heap.size, 0, none⟩)) ∧ SrcAt w' w.heap.size (.slice ao n cap) 0 (min (n / 16) 12) ∧ Chg 0 0 w w' := by
  have C : Chg 0 0 w (w.alloc (.cells #[.slice ao n cap, .int .i64 ((0 : Nat) : Int), .int .i64 ((min (n / 16) 12 : Nat) : Int)] 47)) := Chg.alloc (Chg.refl 0 0 w) _
  have N := heap_new w (.cells #[.slice ao n cap, .int .i64 ((0 : Nat) : Int), .int .i64 ((min (n / 16) 12 : Nat) : Int)] 47)
  by_cases h : 12 < n / 16
  · have h' : (n : Int) / 16 > 12 := by omega
    rw [Nat.min_eq_right (by omega)] at *
    go_enter Tryz.func10, Tryz.ntmps10
    go_wp2
    go_ret
    exact ⟨rfl, N, C⟩
  · have h' : ¬ (n : Int) / 16 > 12 := by omega
    have e : (n : Int) / 16 = ((n / 16 : Nat) : Int) := by omega
    rw [Nat.min_eq_left (by omega)] at *
    have HN : Hid ((w.alloc (.cells #[.slice ao n cap, .int .i64 ((0 : Nat) : Int), .int .i64 ((n / 16 : Nat) : Int)] 47)).heap[w.heap.size]? = some (.cells #[.slice ao n cap, .int .i64 ((0 : Nat) : Int), .int .i64 ((n / 16 : Nat) : Int)] 47 (0, 0))) := N
    have HC : Hid _ := C
    clear N C e
    go_enter Tryz.func10, Tryz.ntmps10
    go_wp2
    go_ret
    exact ⟨rfl, HN.out, HC.out⟩

set_option maxHeartbeats 400000 in
theorem l1Chance_callsW (w : World) (p at' sz : Nat) {lo hi : Nat} {cv : Value} {code : List Int} (n : Int) (hn : n ≤ 9223372036854775807) (hB : Byt code) (hcl : code.length ≤ 1048600) (hat : at' ≤ 1099511627776)
    (hs : SrcAt w p cv at' sz) (hc : View w lo hi .u8 cv code) (hp : p < lo ∨ hi ≤ p) :
    Calls Tryz.prog 12 #[.pointer (some ⟨p, 0, none⟩), .int .i64 n] w fun e w' => e = .returned (.bool (nxt code at' n == 0)) ∧ SrcAt w' p cv (at' + 1) sz ∧ Chg p (p + 1) w w' := by
  go_enter Tryz.func12, Tryz.ntmps12
  go_wp2_with fail
  refine (l1Next_callsW _ p at' sz n hn hB hcl hat hs hc hp).mono ?_
  rintro e w1 ⟨rfl, hs', hc'⟩
  have HS : Hid (SrcAt w1 p cv (at' + 1) sz) := hs'
  clear hs' hs
  by_cases h : nxt code at' n = 0
  · have HV : Hid ((nxt code at' n == 0) = true) := by show _ = _; rw [h]; rfl
    have h' : (nxt code at' n == 0) = true := HV.out
    generalize hx : nxt code at' n = x at *
    clear h
    have HX : Hid (nxt code at' n = x) := hx
    clear hx
    go_wp2
    go_ret
    exact ⟨by rw [HX.out, HV.out]; rfl, HS.out, hc'⟩
  · have HV : Hid ((nxt code at' n == 0) = false) := by show _ = _; simp only [beq_eq_false_iff_ne, ne_eq]; exact h
    have h' : (nxt code at' n == 0) = false := HV.out
    generalize hx : nxt code at' n = x at *
    clear h
    have HX : Hid (nxt code at' n = x) := hx
    clear hx
    go_wp2
    go_ret
    exact ⟨by rw [HX.out, HV.out]; rfl, HS.out, hc'⟩
theorem l1Chance_calls (w : World) (p at' sz : Nat) {lo hi : Nat} {cv : Value} {code : List Int} (n : Int) (hn : n ≤ 9223372036854775807) (hB : Byt code) (hcl : code.length ≤ 1048576) (hat : at' ≤ 1099511627776)
    (hs : SrcAt w p cv at' sz) (hc : View w lo hi .u8 cv code) (hp : p < lo ∨ hi ≤ p) :
    Calls Tryz.prog 12 #[.pointer (some ⟨p, 0, none⟩), .int .i64 n] w fun e w' => e = .returned (.bool (nxt code at' n == 0)) ∧ SrcAt w' p cv (at' + 1) sz ∧ Chg p (p + 1) w w' :=
  l1Chance_callsW w p at' sz n hn hB (by omega) hat hs hc hp

end Go.Proofs.YtacfkgfemmgpkaaGreatDoor

namespace Go.Proofs.YtacfkgfemmgpkaaGreatDoor
open Go.RowKit

/-- Bytes as a string. -/
theorem View.str {w : World} {lo hi : Nat} {v : Value} {xs : List Int} (h : View w lo hi .u8 v xs) : (convert 22 9 v).run Tryz.prog w = .ok (.string (strOfNums xs)) w := by
  obtain ⟨ao, cap, rfl, _, _, hcell⟩ := h
  cases ao with
  | none =>
    rcases hcell with rfl | ⟨b, off, e, _⟩
    · exact run_convert_bytes_nil w 22 5 Tryz.underlying22 Tryz.underlying5 0 cap 9 Tryz.underlying9
    · cases e
  | some a =>
    have hl : (loadCells a xs.length).run Tryz.prog w = .ok (xs.map (Value.int .u8)).toArray w := by
      have := run_loadCells_list (P := Tryz.prog) w a (xs.map (Value.int .u8)) (fun j v hj => by
        have hjl : j < xs.length := by have := (List.getElem?_eq_some_iff.1 hj).1; simpa using this
        rcases hcell with rfl | ⟨b, off, e, _, _, hc⟩
        · simp at hjl
        · cases e
          rw [Go.WideShapes.add_plain, hc j hjl, ← hj]
          simp [List.getD_eq_getElem?_getD, hjl])
      simpa using this
    rw [run_convert_bytes_string w 22 9 5 _ _ _ Tryz.underlying22 Tryz.underlying5 Tryz.underlying9, run_bytesToString w _ _ _ xs hl, foldl_push_bytes]
    simp [strOfNums, ByteArray.empty, ByteArray.emptyWithCapacity]
    rfl

theorem View.take {w : World} {lo hi : Nat} {k : IntKind} {ao : Option Addr} {n cap : Nat} {xs : List Int} (h : View w lo hi k (.slice ao n cap) xs) (m : Nat) (hm : m ≤ xs.length) : View w lo hi k (.slice ao m cap) (xs.take m) := by
  obtain ⟨ao', cap', e, hl, ⟨hc, hc'⟩, h⟩ := h
  cases e
  have hlen : (xs.take m).length = m := by rw [List.length_take]; omega
  refine ⟨ao, cap, by rw [hlen], by omega, ⟨by omega, hc'⟩, ?_⟩
  rcases h with h | ⟨b, off, ha, h1, h2, h3⟩
  · left; rw [h]; simp
  · refine Or.inr ⟨b, off, ha, h1, h2, fun i hi => ?_⟩
    rw [hlen] at hi
    have e : (xs.take m).getD i 0 = xs.getD i 0 := by
      simp only [List.getD_eq_getElem?_getD, List.getElem?_take]
      rw [if_pos hi]
    rw [e]
    exact h3 i (by omega)

end Go.Proofs.YtacfkgfemmgpkaaGreatDoor

namespace Go.Proofs.YtacfkgfemmgpkaaGreatDoor
open Go.RowKit

/-- Byte k of a text. -/
def chr (s : ByteArray) (k : Nat) : Nat := if h : k < s.size then s[k].toNat else 0
theorem chr_lt {s : ByteArray} {k : Nat} (h : k < s.size) : chr s k = s[k].toNat := by unfold chr; rw [dif_pos h]
theorem chr_256 (s : ByteArray) (k : Nat) : chr s k < 256 := by
  unfold chr
  split
  · exact UInt8.toNat_lt _
  · omega
end Go.Proofs.YtacfkgfemmgpkaaGreatDoor

namespace Go.Proofs.YtacfkgfemmgpkaaGreatDoor
open Go.RowKit

def inSet (c : Nat) : Bool := decide (33 ≤ c) && decide (c ≤ 126)
theorem inSet_iff {c : Nat} : inSet c = true ↔ 33 ≤ c ∧ c ≤ 126 := by unfold inSet; simp
def setTo (s : ByteArray) : Nat → Bool
  | 0 => true
  | n + 1 => setTo s n && inSet (chr s n)
theorem setTo_false {s : ByteArray} {k : Nat} (h : inSet (chr s k) = false) : ∀ n, k < n → setTo s n = false := by
  intro n
  induction n with
  | zero => intro h; omega
  | succ n ih =>
    intro hk
    unfold setTo
    by_cases e : k = n
    · subst e; rw [h]; simp
    · rw [ih (by omega)]; simp
def setB (s : ByteArray) : Bool := setTo s s.size

/-- A row of texts, owned. -/
def OwnS (w : World) (base : Nat) (e : TypeId) (v : Value) (ps : List ByteArray) : Prop := w.ownsRow base e 1 v ps.length (ps.map Value.string)
theorem OwnS.lt {w : World} {base : Nat} {e : TypeId} {v : Value} {ps : List ByteArray} (h : OwnS w base e v ps) : ∀ g, v.ownBlock = some g → base ≤ g ∧ g < w.heap.size := World.ownsRow.lt h
theorem OwnS.chg {w w' : World} {base l r : Nat} {e : TypeId} {v : Value} {ps : List ByteArray} (h : OwnS w base e v ps) (c : Chg l r w w') (d : ∀ g, v.ownBlock = some g → g < l ∨ r ≤ g) : OwnS w' base e v ps := by
  obtain ⟨h1, h2⟩ := h
  refine ⟨h1, ?_⟩
  rcases h2 with h2 | ⟨g, cap, cur, hv, hg, hh, r⟩
  · exact Or.inl h2
  · refine Or.inr ⟨g, cap, cur, hv, hg, ?_, r⟩
    rw [c.block g (Array.getElem?_eq_some_iff.1 hh).1 (d g (by rw [hv]; rfl))]; exact hh
theorem OwnS.nil (w : World) (e : TypeId) : OwnS (w.alloc (.cells #[] e)) w.heap.size e (.slice (some ⟨w.heap.size, 0, none⟩) 0 0) [] := by
  have := World.ownsRow_lit (base := w.heap.size) (e := e) (size := 1) w #[] 0 (Nat.le_refl _) (by unfold maxLen; omega) (by simp)
  simpa [OwnS] using this

theorem Tryz.infoStr : (Tryz.prog.info? 9).map (fun i => (i.zero, i.size, i.bytes)) = some (some (.string ⟨#[]⟩), 1, 16) := by kernel_rfl

/-- append of one text. -/
theorem wpList_app_text {ops : Array Oper} {rest : List Oper} {o : Oper} {a : Act} {w : World} {Q : Exit → Act → World → Prop} (hgd : o.guard = none) (s x : Operand)
    (ho : o.op = .call { callee := .builtin .append, args := #[s, x], argTypes := #[49, 49] }) (base : Nat) (v : Value) (ps : List ByteArray) (hs : a.eval s = v) (hown : OwnS w base 9 v ps)
    (b c : Nat) (p : ByteArray) (hx : a.eval x = .slice (some ⟨b, 0, none⟩) 1 c) (hc : w.cell? ⟨b, 0, none⟩ = some (.string p)) (hk : ps.length + 1 ≤ 2097152) (hbase : base ≤ w.heap.size)
    (h : ∀ v' w', (∃ g cap, v' = .slice (some ⟨g, 0, none⟩) (ps.length + 1) cap) → OwnS w' base 9 v' (ps ++ [p]) → Chg base w.heap.size w w' → wpList Tryz.prog ops Q rest (a.put o.dst v') w') : wpList Tryz.prog ops Q (o :: rest) a w := by
  obtain ⟨i, hi, hz0, hz1, hz2⟩ := info_parts Tryz.infoStr
  refine wpList_append_own w hgd s x 49 ho base 9 i _ 1 16 Tryz.underlying49 hi hz0 hz1 hz2 rfl (by omega) v ps.length _ hs hown ⟨b, 0, none⟩ 1 c [.string p] hx rfl ?_ ?_ (by unfold maxLen; omega) (by omega) hbase ?_
  · intro j u hj
    have hj0 : j = 0 := by have := (List.getElem?_eq_some_iff.1 hj).1; simp at this; exact this
    subst hj0
    simp at hj
    subst hj
    rw [Go.WideShapes.add_plain]; exact hc
  · intro u hu
    simp at hu; subst hu; rfl
  · intro v' w' h1 h2 _
    refine h v' w' ?_ (by unfold OwnS; rw [List.length_append, List.map_append]; exact h1) (Chg.ofGrown h2 (fun g hg hlt => ⟨(World.ownsRow.lt hown g hg).1, hlt⟩))
    rcases h1.2 with ⟨_, h0⟩ | ⟨g', cap', cur, e', _⟩
    · omega
    · exact ⟨g', cap', e'⟩

/-- The parts of a text. -/
def cutGo (s : ByteArray) (c : Nat) : Nat → Nat → Nat → List ByteArray → List ByteArray
  | 0, _, f, out => out ++ [s.extract f s.size]
  | n + 1, k, f, out => if chr s k = c then cutGo s c n (k + 1) (k + 1) (out ++ [s.extract f k]) else cutGo s c n (k + 1) f out
def cutD (s : ByteArray) (c : Nat) : List ByteArray := cutGo s c s.size 0 0 []

theorem cutGo_length (s : ByteArray) (c : Nat) : ∀ n k f out, (∀ j, k ≤ j → j < k + n → chr s j ≠ c) → (cutGo s c n k f out).length = out.length + 1 := by
  intro n
  induction n with
  | zero => intro k f out _; simp [cutGo]
  | succ n ih =>
    intro k f out h
    unfold cutGo
    rw [if_neg (h k (Nat.le_refl _) (by omega))]
    exact ih (k + 1) f out (fun j h1 h2 => h j (by omega) (by omega))
theorem cutGo_ge (s : ByteArray) (c : Nat) : ∀ n k f out, out.length + 1 ≤ (cutGo s c n k f out).length := by
  intro n
  induction n with
  | zero => intro k f out; simp [cutGo]
  | succ n ih =>
    intro k f out
    unfold cutGo
    split
    · have := ih (k + 1) (k + 1) (out ++ [s.extract f k]); simp at this; omega
    · exact ih (k + 1) f out
theorem cutGo_more (s : ByteArray) (c : Nat) : ∀ n k f out j, k ≤ j → j < k + n → chr s j = c → out.length + 2 ≤ (cutGo s c n k f out).length := by
  intro n
  induction n with
  | zero => intro k f out j h1 h2; omega
  | succ n ih =>
    intro k f out j h1 h2 h3
    unfold cutGo
    split
    · have := cutGo_ge s c n (k + 1) (k + 1) (out ++ [s.extract f k]); simp at this; omega
    · rename_i hk
      by_cases e : j = k
      · subst e; exact absurd h3 hk
      · exact ih (k + 1) f out j (by omega) (by omega) h3
/-- It has one part exactly if the byte is not in it. -/
theorem cutD_one {s : ByteArray} {c : Nat} : (cutD s c).length = 1 ↔ ∀ j, j < s.size → chr s j ≠ c := by
  constructor
  · intro h j hj he
    have := cutGo_more s c s.size 0 0 [] j (Nat.zero_le _) (by omega) he
    unfold cutD at h
    simp at this; omega
  · intro h
    unfold cutD
    rw [cutGo_length s c s.size 0 0 [] (fun j _ h2 => h j (by omega))]; rfl

end Go.Proofs.YtacfkgfemmgpkaaGreatDoor

namespace Go.Proofs.YtacfkgfemmgpkaaGreatDoor
open Go.RowKit

abbrev NameP (s : ByteArray) : Prop := setB s = true ∧ 1 ≤ s.size ∧ s.size ≤ 13 ∧ s.toList ≠ [46] ∧ s.toList ≠ [46, 46] ∧ (cutD s 47).length = 1
def nameB (s : ByteArray) : Bool := decide (NameP s)
theorem nameB_false {s : ByteArray} (h : ¬ NameP s) : nameB s = false := decide_eq_false h

end Go.Proofs.YtacfkgfemmgpkaaGreatDoor
