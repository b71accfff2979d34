/- l10DrawEntries of the model. -/
import Derived.Test.YtkcijpmikgohcaaDirDraw
import Derived.Test.YtkcijpmikgohcaaEntTo
import Derived.Test.YtkcijpmikgohcaaCells
import Derived.Great.BuildSlice
namespace Go.Proofs.Ytkcijpmikgohcaa
open Go.RowKit

def okN (t : Ent) : Prop := t.2.size ≤ 16 ∧ t.2 ≠ nsN
def AllN (ts : List Ent) : Prop := ∀ t ∈ ts, okN t
theorem AllN.snoc {ts : List Ent} {t : Ent} (h : AllN ts) (ht : okN t) : AllN (ts ++ [t]) := fun x hx => by
  rcases List.mem_append.1 hx with hx | hx
  · exact h x hx
  · rw [List.mem_singleton.1 hx]; exact ht
theorem AllN.set {ts : List Ent} {t : Ent} (k : Nat) (h : AllN ts) (ht : okN t) : AllN (ts.set k t) := fun x hx => by
  rcases List.mem_or_eq_of_mem_set hx with hx | rfl
  · exact h x hx
  · exact ht
theorem AllN.get {ts : List Ent} {k : Nat} (h : AllN ts) (hk : k < ts.length) : okN (ts.getD k Ent.none) := by
  rw [List.getD_eq_getElem?_getD, List.getElem?_eq_getElem hk]
  exact h _ (List.getElem_mem hk)
theorem bytes2_own (W : World) (base : Nat) (a b : Int) (hb : base ≤ W.heap.size) : OwnB (W.alloc (.cells #[.int .u8 a, .int .u8 b] 5)) base 5 (.slice (some ⟨W.heap.size, 0, none⟩) 2 2) [a, b] := by
  have := World.ownsRow_lit (base := base) (e := 5) (size := 1) W #[.int .u8 a, .int .u8 b] 2 hb (by unfold maxLen; omega) rfl
  unfold OwnB
  simpa using this

theorem list_set_same {α : Type} {l : List α} {i : Nat} {x : α} (h : l[i]? = some x) : l.set i x = l := by
  obtain ⟨hi, rfl⟩ := List.getElem?_eq_some_iff.1 h
  exact List.set_getElem_self hi
theorem fill_b1 (A : Array Value) (hr : A.size = 1) (a : Int) (k : IntKind) : Instr.fill (fun i => some (i * 1, 1)) A [(0, .int k a)] = some #[.int k a] := by
  obtain ⟨l⟩ := A
  match l, hr with
  | [x], _ => simp [Instr.fill, Value.cells]
theorem Try.infoB1 : (Try.prog.info? 5).map (fun i => (i.zero, i.size, i.bytes)) = some (some (.int .u8 0), 1, 1) := by kernel_rfl

/-- Entries that are being drawn. -/
structure DrE (w W : World) (p : Nat) (cv : Value) (sz m M : Nat) (v : Value) (ts : List Ent) : Prop where
  src : SrcAt W p cv m sz
  le : m ≤ M
  chg : Chg p (p + 1) w W
  own : OwnE W w.heap.size 30 v ts
  all : AllN ts

set_option maxRecDepth 20000 in
set_option maxHeartbeats 4000000 in
theorem l10DrawEntries_calls (w : World) (p at' sz : Nat) {lo hi : Nat} {cv : Value} {code : List Int} (hB : Byt code) (hcl : code.length ≤ 1048576) (hat : at' ≤ 1000000) (hsz : sz ≤ 12)
    (hs : SrcAt w p cv at' sz) (hc : View w lo hi .u8 cv code) (hp : p < lo ∨ hi ≤ p) :
    Calls Try.prog 11 #[.pointer (some ⟨p, 0, none⟩)] w fun e w' => ∃ v, e = .returned v ∧ ∃ ts, ts.length ≤ 161 ∧ ∃ m, DrE w w' p cv sz m (at' + 1000) v ts := by
  obtain ⟨ic, hic, hcz0, hcz1, hcz2⟩ := info_parts Try.infoB1
  have hpl : p < w.heap.size := (Array.getElem?_eq_some_iff.1 hs).1
  have C0 : Chg 0 0 w (w.alloc (.cells #[] 30)) := Chg.alloc (Chg.refl 0 0 w) _
  have HC0 : Chg p (p + 1) w (w.alloc (.cells #[] 30)) := Chg.alloc (Chg.refl _ _ w) _
  have o0 : OwnE (w.alloc (.cells #[] 30)) w.heap.size 30 (.slice (some ⟨w.heap.size, 0, none⟩) 0 0) [] := OwnE.nil w _
  have s0 := hs.chg C0 (by omega)
  have v0 := hc.chg C0 (by omega)
  have hpl0 : p < (w.alloc (.cells #[] 30)).heap.size := (Array.getElem?_eq_some_iff.1 s0).1
  obtain ⟨_, _, cz, _, _, _⟩ := three_cells s0
  have hN := l1Next_calls (w.alloc (.cells #[] 30)) p at' sz (6 + sz) (by omega) hB hcl (by omega) s0 v0 hp
  go_enter Try.func11, Try.ntmps11
  go_wp2_with fail
  refine hN.mono ?_
  rintro e w1 ⟨rfl, s1, c1⟩
  have HC1 := HC0.trans c1
  have v1 := v0.chg c1 (by omega)
  have o1 := o0.chg c1 (fun g hg => by have := (o0.lt g hg).1; omega)
  have hr := nxt_range code at' (6 + (sz : Int))
  generalize nxt code at' (6 + (sz : Int)) = n0 at *
  have hn0 := hr.1
  have hn1 := hr.2 (by omega)
  clear hN C0 HC0 o0 s0 v0 c1 hr cz
  have hN := l1Chance_calls w1 p (at' + 1) sz 30 (by omega) hB hcl (by omega) s1 v1 hp
  go_wp2_with fail
  refine hN.mono ?_
  rintro e w2 ⟨rfl, s2, c2⟩
  have HD2 : Hid (DrE w w2 p cv sz (at' + 2) (at' + 3) (.slice (some ⟨w.heap.size, 0, none⟩) 0 0) []) := ⟨s2, by omega, HC1.trans c2, o1.chg c2 (fun g hg => by have := (o1.lt g hg).1; omega), fun t ht => absurd ht List.not_mem_nil⟩
  have v2 := v1.chg c2 (by omega)
  generalize (nxt code (at' + 1) 30 == 0) = ch at *
  clear hN s1 v1 o1 HC1 c2 s2
  go_upto_if 16 with fail
  go_cut [4] (fun s4 wx => ∃ (n m : Nat), s4 = .int .i64 n ∧ n ≤ 161 ∧ DrE w wx p cv sz m (at' + 3) (.slice (some ⟨w.heap.size, 0, none⟩) 0 0) [])
  case first =>
    cases ch with
    | false =>
      obtain ⟨n, rfl⟩ : ∃ n : Nat, n0 = n := ⟨n0.toNat, by omega⟩
      go_wp2
      go_meet
      exact ⟨n, _, rfl, by omega, HD2.out⟩
    | true =>
      have hN := l1Next_calls w2 p (at' + 2) sz 2 (by omega) hB hcl (by omega) HD2.out.src v2 hp
      go_wp2_with fail
      refine hN.mono ?_
      rintro e w3 ⟨rfl, s3, c3⟩
      have hr := nxt_range code (at' + 2) 2
      generalize nxt code (at' + 2) 2 = x at *
      obtain ⟨x, rfl⟩ : ∃ k : Nat, x = k := ⟨x.toNat, by omega⟩
      have hx := hr.2 (by omega)
      have o2 := HD2.out.own
      have HD3 : Hid (DrE w w3 p cv sz (at' + 3) (at' + 3) (.slice (some ⟨w.heap.size, 0, none⟩) 0 0) []) := ⟨s3, by omega, HD2.out.chg.trans c3, o2.chg c3 (fun g hg => by have := (o2.lt g hg).1; omega), HD2.out.all⟩
      clear hN s3 c3 hr o2 HD2 v2
      go_wp2
      go_meet
      exact ⟨160 + x, _, by go_num, by omega, HD3.out⟩
  case rest =>
    obtain ⟨n, m, rfl, hn, hD⟩ := hcut
    clear hn0 hn1 HD2 v2
    generalize wc = w3 at *
    have HD : Hid (DrE w w3 p cv sz m (at' + 3) (.slice (some ⟨w.heap.size, 0, none⟩) 0 0) []) := hD
    clear hD
    go_wp2
    go_loopw [3, 5] (fun o x wr => ∃ (k m : Nat) (ts : List Ent), k ≤ n ∧ x = .int .i64 k ∧ ts.length = k ∧ DrE w wr p cv sz m (at' + 3 + 2 * k) o ts) (fun _ x _ => n - (intOf x).toNat)
    case atStart => exact ⟨0, m, [], Nat.zero_le _, rfl, rfl, HD.out⟩
    case round =>
      clear HD
      obtain ⟨k, m, ts, hk, rfl, htl, hD⟩ := hrel
      by_cases hlt : k < n
      · have hi : (k : Int) < (n : Int) := by omega
        obtain ⟨va, vc, rfl⟩ : ∃ va vc, u3 = .slice va k vc := by
          rcases hD.own.2 with ⟨h1, h0⟩ | ⟨g, cp, cur, hv, _⟩
          · rw [← htl, h0]; exact ⟨_, _, h1⟩
          · rw [← htl]; exact ⟨_, _, hv⟩
        have X := ((bytes2_own wr 0 (40 + (k : Int) / 20) (60 + (k : Int) % 20) (by omega)).view (hi := wr.heap.size + 1) (by show 2 ≤ _; omega) (by intro g hg; simp [Value.ownBlock] at hg; omega)).str
        have Hss : Hid ((strOfNums [40 + (k : Int) / 20, 60 + (k : Int) % 20]).size = 2) := by show _ = _; rw [strOfNums_size]; rfl
        have HDk : Hid (DrE w wr p cv sz m (at' + 3 + 2 * k) (.slice va k vc) ts) := hD
        clear hD
        go_wp2_with fail
        have CA : Chg 0 0 wr ((wr.alloc (.cells #[.int .u8 (40 + (k : Int) / 20), .int .u8 (60 + (k : Int) % 20)] 5)).alloc (.cells #[.int .i64 (1 + (k : Int) % 256), .string (⟨#[110]⟩ ++ strOfNums [40 + (k : Int) / 20, 60 + (k : Int) % 20])] 30)) := (Chg.alloc (Chg.refl 0 0 wr) _).alloc _
        have hbx := (alloc2 wr (.cells #[.int .u8 (40 + (k : Int) / 20), .int .u8 (60 + (k : Int) % 20)] 5) (.cells #[.int .i64 (1 + (k : Int) % 256), .string (⟨#[110]⟩ ++ strOfNums [40 + (k : Int) / 20, 60 + (k : Int) % 20])] 30)).2.2
        have hok : okN (1 + (k : Int) % 256, ⟨#[110]⟩ ++ strOfNums [40 + (k : Int) / 20, 60 + (k : Int) % 20]) := by
          have h3 : ((⟨#[110]⟩ : ByteArray) ++ strOfNums [40 + (k : Int) / 20, 60 + (k : Int) % 20]).size = 3 := by rw [ByteArray.size_append, Hss.out]; rfl
          exact ⟨by show ByteArray.size _ ≤ 16; rw [h3]; omega, ns_size (by show ByteArray.size _ ≠ 13; rw [h3]; omega)⟩
        generalize ((⟨#[110]⟩ : ByteArray) ++ strOfNums [40 + (k : Int) / 20, 60 + (k : Int) % 20]) = nm at *
        have hDA : DrE w ((wr.alloc (.cells #[.int .u8 (40 + (k : Int) / 20), .int .u8 (60 + (k : Int) % 20)] 5)).alloc (.cells #[.int .i64 (1 + (k : Int) % 256), .string nm] 30)) p cv sz m (at' + 3 + 2 * k) (.slice va k vc) ts :=
          ⟨HDk.out.src.chg CA (by omega), HDk.out.le, HDk.out.chg.step CA (by omega), HDk.out.own.chg CA (by intro g _; omega), HDk.out.all⟩
        have hwr := HDk.out.chg.size
        have hgl : ∀ g, (Value.slice va k vc).ownBlock = some g → g < wr.heap.size := fun g hg => (HDk.out.own.lt g hg).2
        clear CA X HDk
        generalize ((wr.alloc (.cells #[.int .u8 (40 + (k : Int) / 20), .int .u8 (60 + (k : Int) % 20)] 5)).alloc (.cells #[.int .i64 (1 + (k : Int) % 256), .string nm] 30)) = w4 at *
        have v4 := hc.chg hDA.chg (by omega)
        have hN := l1Chance_calls w4 p m sz 3 (by omega) hB hcl (by have := hDA.le; omega) hDA.src v4 hp
        refine hN.mono ?_
        rintro e w5 ⟨rfl, s5, c5⟩
        have hlb := (Array.getElem?_eq_some_iff.1 hbx).1
        have hbx5 := (c5.block _ hlb (by omega)).trans hbx
        have HD5 : Hid (DrE w w5 p cv sz (m + 1) (at' + 4 + 2 * k) (.slice va k vc) ts) := ⟨s5, by have := hDA.le; omega, hDA.chg.trans c5, hDA.own.chg c5 (fun g hg => by have := (hDA.own.lt g hg).1; omega), hDA.all⟩
        have v5 := v4.chg c5 (by omega)
        generalize (nxt code m 3 == 0) = c3 at *
        clear hN s5 c5 v4 hDA hbx
        cases c3 with
        | false =>
          obtain ⟨e0, e1, _, _⟩ := ent_four hbx5
          have CZ : Chg 0 0 w5 (w5.alloc (.cells #[.int .i64 (1 + (k : Int) % 256), .string nm] 30)) := Chg.alloc (Chg.refl 0 0 w5) _
          have HNW : Hid (EAt (w5.alloc (.cells #[.int .i64 (1 + (k : Int) % 256), .string nm] 30)) w5.heap.size 0 (1 + (k : Int) % 256, nm)) := by
            obtain ⟨n0, n1, _, _⟩ := ent_four (heap_new w5 (.cells #[.int .i64 (1 + (k : Int) % 256), .string nm] 30))
            exact ⟨n0, n1⟩
          have HOA : Hid (OwnE (w5.alloc (.cells #[.int .i64 (1 + (k : Int) % 256), .string nm] 30)) w.heap.size 30 (.slice va k vc) ts) := HD5.out.own.chg CZ (by intro g _; omega)
          have hszW := HD5.out.chg.size
          have HZs : Hid (SrcAt (w5.alloc (.cells #[.int .i64 (1 + (k : Int) % 256), .string nm] 30)) p cv (m + 1) sz ∧ Chg p (p + 1) w (w5.alloc (.cells #[.int .i64 (1 + (k : Int) % 256), .string nm] 30))) := ⟨HD5.out.src.chg CZ (by omega), HD5.out.chg.step CZ (by omega)⟩
          clear CZ hbx5
          go_wp2_with (at_builtin; refine wpList_app_ent rfl (.tmp 55) (.tmp 57) rfl w.heap.size _ ts rfl HOA.out w5.heap.size 1 (1 + (k : Int) % 256, nm) rfl HNW.out (by omega) (by rw [World.size_alloc]; omega) ?_)
          intro v' w7 g' cap' hv' o7 c7
          subst hv'
          have HD7 : Hid (DrE w w7 p cv sz (m + 1) (at' + 3 + 2 * (k + 1)) (.slice (some ⟨g', 0, none⟩) (k + 1) cap') (ts ++ [(1 + (k : Int) % 256, nm)])) := ⟨HZs.out.1.chg c7 (by omega), by have := HD5.out.le; omega, HZs.out.2.step c7 (by omega), o7, HD5.out.all.snoc hok⟩
          clear o7 c7 HZs HOA HNW
          go_wp2
          go_roundw
          case rel => exact ⟨k + 1, m + 1, ts ++ [(1 + (k : Int) % 256, nm)], by omega, by go_num, by rw [List.length_append, htl]; rfl, HD7.out⟩
          case measure => simp [intOf]; omega
        | true =>
          by_cases h20 : n < 20
          · have h20' : (n : Int) < 20 := by omega
            go_upto_region 10 with fail
            go_cut [] (fun wx => ∃ (q : Int) (s : ByteArray) (m' : Nat), wx.heap[wr.heap.size + 1]? = some (.cells #[.int .i64 q, .string s] 30 (0, 0)) ∧ okN (q, s) ∧ DrE w wx p cv sz m' (at' + 5 + 2 * k) (.slice va k vc) ts)
            case first =>
              have hk97i : IntKind.i64.wrap (97 + (k : Int)) = 97 + (k : Int) := by rw [IntKind.wrap_i64]; omega
              have hk97 : IntKind.u8.wrap (97 + (k : Int)) = 97 + (k : Int) := by rw [IntKind.wrap_u8]; omega
              have S5 := HD5.out.src
              have O5 := HD5.out.own
              have G5 := HD5.out.chg
              have hbd : w5.drew.heap[wr.heap.size + 1]? = some (.cells #[.int .i64 (1 + (k : Int) % 256), .string nm] 30 (0, 0)) := hbx5
              have sd : SrcAt w5.drew p cv (m + 1) sz := S5.chg (Chg.drew (Chg.refl 0 0 w5)) (by omega)
              have od : OwnE w5.drew w.heap.size 30 (.slice va k vc) ts := O5.chg (Chg.drew (Chg.refl 0 0 w5)) (by intro g _; omega)
              have gd : Chg p (p + 1) w w5.drew := G5.drew
              have vd := v5.chg (Chg.drew (Chg.refl 0 0 w5)) (by omega)
              have hle5 := HD5.out.le
              clear S5 O5 G5
              refine held_region (fun _ => True) (by kernel_rfl) ?_
              generalize w5.drew = wd at *
              refine held_take 0 (.pointer (some ⟨p, 0, none⟩)) rfl (by kernel_rfl) (by kernel_rfl) (by kernel_rfl) (fun _ _ _ h => h) (.inl ⟨by kernel_rfl, fun w' hw' => by go_simp⟩) trivial ?_
              go_simp
              refine held_take 3 (.int .i64 k) rfl (by kernel_rfl) (by kernel_rfl) (by kernel_rfl) (fun _ _ _ h => h) (.inl ⟨by kernel_rfl, fun w' hw' => by go_simp⟩) trivial ?_
              go_simp
              refine held_take 4 (.int .i64 (97 + (k : Int))) rfl (by kernel_rfl) (by kernel_rfl) (by kernel_rfl) (fun _ _ _ h => h) (.inl ⟨by kernel_rfl, fun w' hw' => by go_simp⟩) trivial ?_
              go_simp
              refine held_take 5 (.int .u8 (97 + (k : Int))) rfl (by kernel_rfl) (by kernel_rfl) (by kernel_rfl) (fun _ _ _ h => h) (.inl ⟨by kernel_rfl, fun w' hw' => by go_simp⟩) trivial ?_
              go_simp
              refine held_two 1 6 rfl rfl rfl rfl (by kernel_rfl) ?_ ?_
              · refine wp_enter 12 #[.pointer (some ⟨p, 0, none⟩), .int .i64 9] (by first | kernel_rfl | go_simp) (l1Next_calls wd p (m + 1) sz 9 (by omega) hB hcl (by omega) sd vd hp) ?_
                rintro e wa ⟨rfl, sN, cN⟩
                have hrx := nxt_range code (m + 1) 9
                generalize nxt code (m + 1) 9 = x at *
                have hx0 := hrx.1
                have hx9 := hrx.2 (by omega)
                have hwx : IntKind.i64.wrap (1 + x) = 1 + x := by rw [IntKind.wrap_i64]; omega
                have bN := (cN.block _ (Array.getElem?_eq_some_iff.1 hbd).1 (by omega)).trans hbd
                have oN := od.chg cN (fun g hg => by have := (od.lt g hg).1; omega)
                have gN := gd.trans cN
                refine ⟨_, rfl, trivial, ?_⟩
                go_simp
                refine held_take 2 (.int .i64 (1 + x)) rfl (by kernel_rfl) (by kernel_rfl) (by kernel_rfl) (fun _ _ _ h => h) (.inl ⟨by kernel_rfl, fun w' hw' => by go_simp⟩) trivial ?_
                go_simp
                refine held_one 6 rfl rfl (by kernel_rfl) ?_
                refine wp_buildSlice 22 5 1 #[(0, .tmp 51)] rfl #[.int .u8 (97 + (k : Int))] ic _ Try.underlying22 hic hcz0 (by rw [hcz1]; decide) (by rw [hcz1]; decide) (by rw [hcz1, Array.toList_map]; refine fill_b1 _ ?_ _ _; simp) ?_
                refine ⟨trivial, ?_⟩
                have cB : Chg 0 0 wa (wa.alloc (.cells #[.int .u8 (97 + (k : Int))] 5)) := Chg.alloc (Chg.refl 0 0 wa) _
                have VB := (byte_own wa wa.heap.size (97 + (k : Int)) (by omega)).view (hi := wa.heap.size + 1) (by show 1 ≤ _; omega) (by intro g hg; simp [Value.ownBlock] at hg; omega)
                have bB := (cB.block _ (Array.getElem?_eq_some_iff.1 bN).1 (by omega)).trans bN
                have oB := oN.chg cB (by intro g _; omega)
                have gB := gN.step cB (by omega)
                have sB := sN.chg cB (by omega)
                have hpW : p < wa.heap.size := (Array.getElem?_eq_some_iff.1 sN).1
                go_simp
                have X := VB.str
                generalize wa.alloc (.cells #[.int .u8 (97 + (k : Int))] 5) = wb at *
                refine held_one 7 rfl rfl (by kernel_rfl) ?_
                go_simp
                refine held_take 8 (.agg #[.int .i64 (1 + x), .string (strOfNums [97 + (k : Int)])]) rfl (by kernel_rfl) (by kernel_rfl) (by kernel_rfl) (fun _ _ _ h => h) (.inl ⟨by kernel_rfl, fun w' hw' => by go_simp⟩) trivial ?_
                go_simp
                refine held_one 9 rfl rfl (by kernel_rfl) ?_
                refine wp_store_row 30 (.tmp 6) (.tmp 54) rfl rfl (wr.heap.size + 1) rfl [.int .i64 (1 + x), .string (strOfNums [97 + (k : Int)])] [.int .i64 (1 + (k : Int) % 256), .string nm] 30 rfl bB rfl (by kernel_rfl) (by simp [Value.oneCell']) ?_
                intro wy hy cy
                have HDy : Hid (DrE w wy p cv sz (m + 2) (at' + 5 + 2 * k) (.slice va k vc) ts) := by
                  have hg : ∀ g, (Value.slice va k vc).ownBlock = some g → g ≠ wr.heap.size + 1 := fun g hg e => by
                    have := hgl g hg
                    omega
                  exact ⟨sB.chg cy (by omega), by have := HD5.out.le; omega, gB.step cy (by omega), oB.chg cy (fun g hg' => by have := hg g hg'; omega), HD5.out.all⟩
                have hyo : okN (1 + x, strOfNums [97 + (k : Int)]) := ⟨by show ByteArray.size _ ≤ 16; rw [strOfNums_size]; show 1 ≤ 16; omega, ns_size (by show ByteArray.size _ ≠ 13; rw [strOfNums_size]; show 1 ≠ 13; omega)⟩
                have HY : Hid (wy.heap[wr.heap.size + 1]? = some (.cells #[.int .i64 (1 + x), .string (strOfNums [97 + (k : Int)])] 30 (0, 0))) := hy
                clear hy cy
                refine ⟨trivial, held_done (by kernel_rfl) (NoPanic.normal ?_)⟩
                go_wp2
                go_meet
                exact ⟨1 + x, _, m + 2, HY.out, hyo, HDy.out⟩
              · refine wp_buildSlice 22 5 1 #[(0, .tmp 51)] rfl #[.int .u8 (97 + (k : Int))] ic _ Try.underlying22 hic hcz0 (by rw [hcz1]; decide) (by rw [hcz1]; decide) (by rw [hcz1, Array.toList_map]; refine fill_b1 _ ?_ _ _; simp) ?_
                refine ⟨trivial, ?_⟩
                have cB : Chg 0 0 wd (wd.alloc (.cells #[.int .u8 (97 + (k : Int))] 5)) := Chg.alloc (Chg.refl 0 0 wd) _
                have VB := (byte_own wd wd.heap.size (97 + (k : Int)) (by omega)).view (hi := wd.heap.size + 1) (by show 1 ≤ _; omega) (by intro g hg; simp [Value.ownBlock] at hg; omega)
                have bB := (cB.block _ (Array.getElem?_eq_some_iff.1 hbd).1 (by omega)).trans hbd
                have oB := od.chg cB (by intro g _; omega)
                have gB := gd.step cB (by omega)
                have sB := sd.chg cB (by omega)
                have hpW : p < wd.heap.size := (Array.getElem?_eq_some_iff.1 sd).1
                go_simp
                have vB := vd.chg cB (by omega)
                have hvb : wd.heap.size + 1 ≤ (wd.alloc (.cells #[.int .u8 (97 + (k : Int))] 5)).heap.size := by simp
                generalize hWb : wd.alloc (.cells #[.int .u8 (97 + (k : Int))] 5) = wb at *
                refine held_two 1 7 rfl rfl rfl rfl (by kernel_rfl) ?_ ?_
                · refine wp_enter 12 #[.pointer (some ⟨p, 0, none⟩), .int .i64 9] (by first | kernel_rfl | go_simp) (l1Next_calls wb p (m + 1) sz 9 (by omega) hB hcl (by omega) sB vB hp) ?_
                  rintro e wa ⟨rfl, sN, cN⟩
                  have hrx := nxt_range code (m + 1) 9
                  generalize nxt code (m + 1) 9 = x at *
                  have hx0 := hrx.1
                  have hx9 := hrx.2 (by omega)
                  have hwx : IntKind.i64.wrap (1 + x) = 1 + x := by rw [IntKind.wrap_i64]; omega
                  have bN := (cN.block _ (Array.getElem?_eq_some_iff.1 bB).1 (by omega)).trans bB
                  have oN := oB.chg cN (fun g hg => by have := (oB.lt g hg).1; omega)
                  have gN := gB.trans cN
                  refine ⟨_, rfl, trivial, ?_⟩
                  go_simp
                  refine held_take 2 (.int .i64 (1 + x)) rfl (by kernel_rfl) (by kernel_rfl) (by kernel_rfl) (fun _ _ _ h => h) (.inl ⟨by kernel_rfl, fun w' hw' => by go_simp⟩) trivial ?_
                  go_simp
                  have X := (VB.chg cN (by omega)).str
                  refine held_one 7 rfl rfl (by kernel_rfl) ?_
                  go_simp
                  refine held_take 8 (.agg #[.int .i64 (1 + x), .string (strOfNums [97 + (k : Int)])]) rfl (by kernel_rfl) (by kernel_rfl) (by kernel_rfl) (fun _ _ _ h => h) (.inl ⟨by kernel_rfl, fun w' hw' => by go_simp⟩) trivial ?_
                  go_simp
                  refine held_one 9 rfl rfl (by kernel_rfl) ?_
                  refine wp_store_row 30 (.tmp 6) (.tmp 54) rfl rfl (wr.heap.size + 1) rfl [.int .i64 (1 + x), .string (strOfNums [97 + (k : Int)])] [.int .i64 (1 + (k : Int) % 256), .string nm] 30 rfl bN rfl (by kernel_rfl) (by simp [Value.oneCell']) ?_
                  intro wy hy cy
                  have HDy : Hid (DrE w wy p cv sz (m + 2) (at' + 5 + 2 * k) (.slice va k vc) ts) := by
                    have hg : ∀ g, (Value.slice va k vc).ownBlock = some g → g ≠ wr.heap.size + 1 := fun g hg e => by
                      have := hgl g hg
                      omega
                    exact ⟨sN.chg cy (by omega), by have := HD5.out.le; omega, gN.step cy (by omega), oN.chg cy (fun g hg' => by have := hg g hg'; omega), HD5.out.all⟩
                  have hyo : okN (1 + x, strOfNums [97 + (k : Int)]) := ⟨by show ByteArray.size _ ≤ 16; rw [strOfNums_size]; show 1 ≤ 16; omega, ns_size (by show ByteArray.size _ ≠ 13; rw [strOfNums_size]; show 1 ≠ 13; omega)⟩
                  have HY : Hid (wy.heap[wr.heap.size + 1]? = some (.cells #[.int .i64 (1 + x), .string (strOfNums [97 + (k : Int)])] 30 (0, 0))) := hy
                  clear hy cy
                  refine ⟨trivial, held_done (by kernel_rfl) (NoPanic.normal ?_)⟩
                  go_wp2
                  go_meet
                  exact ⟨1 + x, _, m + 2, HY.out, hyo, HDy.out⟩
                · have X := VB.str
                  go_simp
                  refine held_one 1 rfl rfl (by kernel_rfl) ?_
                  refine wp_enter 12 #[.pointer (some ⟨p, 0, none⟩), .int .i64 9] (by first | kernel_rfl | go_simp) (l1Next_calls wb p (m + 1) sz 9 (by omega) hB hcl (by omega) sB vB hp) ?_
                  rintro e wa ⟨rfl, sN, cN⟩
                  have hrx := nxt_range code (m + 1) 9
                  generalize nxt code (m + 1) 9 = x at *
                  have hx0 := hrx.1
                  have hx9 := hrx.2 (by omega)
                  have hwx : IntKind.i64.wrap (1 + x) = 1 + x := by rw [IntKind.wrap_i64]; omega
                  have bN := (cN.block _ (Array.getElem?_eq_some_iff.1 bB).1 (by omega)).trans bB
                  have oN := oB.chg cN (fun g hg => by have := (oB.lt g hg).1; omega)
                  have gN := gB.trans cN
                  refine ⟨_, rfl, trivial, ?_⟩
                  go_simp
                  refine held_take 2 (.int .i64 (1 + x)) rfl (by kernel_rfl) (by kernel_rfl) (by kernel_rfl) (fun _ _ _ h => h) (.inl ⟨by kernel_rfl, fun w' hw' => by go_simp⟩) trivial ?_
                  go_simp
                  refine held_take 8 (.agg #[.int .i64 (1 + x), .string (strOfNums [97 + (k : Int)])]) rfl (by kernel_rfl) (by kernel_rfl) (by kernel_rfl) (fun _ _ _ h => h) (.inl ⟨by kernel_rfl, fun w' hw' => by go_simp⟩) trivial ?_
                  go_simp
                  refine held_one 9 rfl rfl (by kernel_rfl) ?_
                  refine wp_store_row 30 (.tmp 6) (.tmp 54) rfl rfl (wr.heap.size + 1) rfl [.int .i64 (1 + x), .string (strOfNums [97 + (k : Int)])] [.int .i64 (1 + (k : Int) % 256), .string nm] 30 rfl bN rfl (by kernel_rfl) (by simp [Value.oneCell']) ?_
                  intro wy hy cy
                  have HDy : Hid (DrE w wy p cv sz (m + 2) (at' + 5 + 2 * k) (.slice va k vc) ts) := by
                    have hg : ∀ g, (Value.slice va k vc).ownBlock = some g → g ≠ wr.heap.size + 1 := fun g hg e => by
                      have := hgl g hg
                      omega
                    exact ⟨sN.chg cy (by omega), by have := HD5.out.le; omega, gN.step cy (by omega), oN.chg cy (fun g hg' => by have := hg g hg'; omega), HD5.out.all⟩
                  have hyo : okN (1 + x, strOfNums [97 + (k : Int)]) := ⟨by show ByteArray.size _ ≤ 16; rw [strOfNums_size]; show 1 ≤ 16; omega, ns_size (by show ByteArray.size _ ≠ 13; rw [strOfNums_size]; show 1 ≠ 13; omega)⟩
                  have HY : Hid (wy.heap[wr.heap.size + 1]? = some (.cells #[.int .i64 (1 + x), .string (strOfNums [97 + (k : Int)])] 30 (0, 0))) := hy
                  clear hy cy
                  refine ⟨trivial, held_done (by kernel_rfl) (NoPanic.normal ?_)⟩
                  go_wp2
                  go_meet
                  exact ⟨1 + x, _, m + 2, HY.out, hyo, HDy.out⟩
            case rest =>
              obtain ⟨q, s, m', hbx6, hok6, hD6⟩ := hcut
              have HD6 : Hid (DrE w wc p cv sz m' (at' + 5 + 2 * k) (.slice va k vc) ts) := hD6
              clear hD6 HD5 hbx5
              obtain ⟨e0, e1, _, _⟩ := ent_four hbx6
              have CZ : Chg 0 0 wc (wc.alloc (.cells #[.int .i64 (q), .string s] 30)) := Chg.alloc (Chg.refl 0 0 wc) _
              have HNW : Hid (EAt (wc.alloc (.cells #[.int .i64 (q), .string s] 30)) wc.heap.size 0 (q, s)) := by
                obtain ⟨n0, n1, _, _⟩ := ent_four (heap_new wc (.cells #[.int .i64 (q), .string s] 30))
                exact ⟨n0, n1⟩
              have HOA : Hid (OwnE (wc.alloc (.cells #[.int .i64 (q), .string s] 30)) w.heap.size 30 (.slice va k vc) ts) := HD6.out.own.chg CZ (by intro g _; omega)
              have hszW := HD6.out.chg.size
              have HZs : Hid (SrcAt (wc.alloc (.cells #[.int .i64 (q), .string s] 30)) p cv (m') sz ∧ Chg p (p + 1) w (wc.alloc (.cells #[.int .i64 (q), .string s] 30))) := ⟨HD6.out.src.chg CZ (by omega), HD6.out.chg.step CZ (by omega)⟩
              clear CZ hbx6
              go_wp2_with (at_builtin; refine wpList_app_ent rfl (.tmp 55) (.tmp 57) rfl w.heap.size _ ts rfl HOA.out wc.heap.size 1 (q, s) rfl HNW.out (by omega) (by rw [World.size_alloc]; omega) ?_)
              intro v' w7 g' cap' hv' o7 c7
              subst hv'
              have HD7 : Hid (DrE w w7 p cv sz (m') (at' + 3 + 2 * (k + 1)) (.slice (some ⟨g', 0, none⟩) (k + 1) cap') (ts ++ [(q, s)])) := ⟨HZs.out.1.chg c7 (by omega), by have := HD6.out.le; omega, HZs.out.2.step c7 (by omega), o7, HD6.out.all.snoc hok6⟩
              clear o7 c7 HZs HOA HNW
              go_wp2
              go_roundw
              case rel => exact ⟨k + 1, m', ts ++ [(q, s)], by omega, by go_num, by rw [List.length_append, htl]; rfl, HD7.out⟩
              case measure => simp [intOf]; omega
          · have h20' : ¬ (n : Int) < 20 := by omega
            obtain ⟨e0, e1, _, _⟩ := ent_four hbx5
            have CZ : Chg 0 0 w5 (w5.alloc (.cells #[.int .i64 (1 + (k : Int) % 256), .string nm] 30)) := Chg.alloc (Chg.refl 0 0 w5) _
            have HNW : Hid (EAt (w5.alloc (.cells #[.int .i64 (1 + (k : Int) % 256), .string nm] 30)) w5.heap.size 0 (1 + (k : Int) % 256, nm)) := by
              obtain ⟨n0, n1, _, _⟩ := ent_four (heap_new w5 (.cells #[.int .i64 (1 + (k : Int) % 256), .string nm] 30))
              exact ⟨n0, n1⟩
            have HOA : Hid (OwnE (w5.alloc (.cells #[.int .i64 (1 + (k : Int) % 256), .string nm] 30)) w.heap.size 30 (.slice va k vc) ts) := HD5.out.own.chg CZ (by intro g _; omega)
            have hszW := HD5.out.chg.size
            have HZs : Hid (SrcAt (w5.alloc (.cells #[.int .i64 (1 + (k : Int) % 256), .string nm] 30)) p cv (m + 1) sz ∧ Chg p (p + 1) w (w5.alloc (.cells #[.int .i64 (1 + (k : Int) % 256), .string nm] 30))) := ⟨HD5.out.src.chg CZ (by omega), HD5.out.chg.step CZ (by omega)⟩
            clear CZ hbx5
            go_wp2_with (at_builtin; refine wpList_app_ent rfl (.tmp 55) (.tmp 57) rfl w.heap.size _ ts rfl HOA.out w5.heap.size 1 (1 + (k : Int) % 256, nm) rfl HNW.out (by omega) (by rw [World.size_alloc]; omega) ?_)
            intro v' w7 g' cap' hv' o7 c7
            subst hv'
            have HD7 : Hid (DrE w w7 p cv sz (m + 1) (at' + 3 + 2 * (k + 1)) (.slice (some ⟨g', 0, none⟩) (k + 1) cap') (ts ++ [(1 + (k : Int) % 256, nm)])) := ⟨HZs.out.1.chg c7 (by omega), by have := HD5.out.le; omega, HZs.out.2.step c7 (by omega), o7, HD5.out.all.snoc hok⟩
            clear o7 c7 HZs HOA HNW
            go_wp2
            go_roundw
            case rel => exact ⟨k + 1, m + 1, ts ++ [(1 + (k : Int) % 256, nm)], by omega, by go_num, by rw [List.length_append, htl]; rfl, HD7.out⟩
            case measure => simp [intOf]; omega
      · obtain rfl : k = n := by omega
        have hni : ¬ (k : Int) < (k : Int) := by omega
        obtain ⟨va, vc, rfl⟩ : ∃ va vc, u3 = .slice va k vc := by
          rcases hD.own.2 with ⟨h1, h0⟩ | ⟨g, cp, cur, hv, _⟩
          · rw [← htl, h0]; exact ⟨_, _, h1⟩
          · rw [← htl]; exact ⟨_, _, hv⟩
        have HDk : Hid (DrE w wr p cv sz m (at' + 3 + 2 * k) (.slice va k vc) ts) := hD
        clear hD hlt
        by_cases hk0 : k = 0
        · subst hk0
          go_wp2
          go_ret
          exact ⟨_, rfl, ts, by omega, m, ⟨HDk.out.src, by have := HDk.out.le; omega, HDk.out.chg, HDk.out.own, HDk.out.all⟩⟩
        have hk0' : (0 : Int) < (k : Int) := by omega
        obtain ⟨g, rfl⟩ : ∃ g, va = some ⟨g, 0, none⟩ := by
          rcases HDk.out.own.2 with ⟨_, h0⟩ | ⟨g, cp, cur, hv, _⟩
          · omega
          · injection hv with hv1 _ _; exact ⟨g, hv1⟩
        have hN := l1Chance_calls wr p m sz 6 (by omega) hB hcl (by have := HDk.out.le; omega) HDk.out.src (hc.chg HDk.out.chg (by omega)) hp
        go_wp2_with fail
        refine hN.mono ?_
        rintro e w5 ⟨rfl, s5, c5⟩
        have HD5 : Hid (DrE w w5 p cv sz (m + 1) (at' + 400) (.slice (some ⟨g, 0, none⟩) k vc) ts) := ⟨s5, by have := HDk.out.le; omega, HDk.out.chg.trans c5, HDk.out.own.chg c5 (fun g hg => by have := (HDk.out.own.lt g hg).1; omega), HDk.out.all⟩
        generalize (nxt code m 6 == 0) = c6 at *
        clear hN s5 c5 HDk
        cases c6 with
        | false =>
          by_cases hn1 : 1 < k
          rotate_left
          · have hn1' : ¬ (1 : Int) < (k : Int) := by omega
            go_wp2
            go_ret
            exact ⟨_, rfl, ts, by rw [htl]; exact hn, m + 1, ⟨HD5.out.src, by have := HD5.out.le; omega, HD5.out.chg, HD5.out.own, HD5.out.all⟩⟩
          have hn1' : (1 : Int) < (k : Int) := by omega
          have hN := l1Chance_calls w5 p (m + 1) sz 10 (by omega) hB hcl (by have := HD5.out.le; omega) HD5.out.src (hc.chg HD5.out.chg (by omega)) hp
          go_wp2_with fail
          refine hN.mono ?_
          rintro e wz ⟨rfl, sz1, cz1⟩
          have hDz : DrE w wz p cv sz (m + 1 + 1) (at' + 500) (.slice (some ⟨g, 0, none⟩) k vc) (ts) := ⟨sz1, by have := HD5.out.le; omega, HD5.out.chg.trans cz1, HD5.out.own.chg cz1 (fun g hg => by have := (HD5.out.own.lt g hg).1; omega), HD5.out.all⟩
          generalize (nxt code (m + 1) 10 == 0) = c10 at *
          have HDz : Hid (DrE w wz p cv sz (m + 1 + 1) (at' + 500) (.slice (some ⟨g, 0, none⟩) k vc) (ts)) := hDz
          clear hN sz1 cz1 hDz
          cases c10 with
          | false =>
            go_wp2
            go_ret
            exact ⟨_, rfl, ts, by rw [htl]; exact hn, m + 1 + 1, ⟨HDz.out.src, by have := HDz.out.le; omega, HDz.out.chg, HDz.out.own, HDz.out.all⟩⟩
          | true =>
            have ow := HDz.out.own
            have hrow : wz.ownsRow w.heap.size 30 2 (.slice (some ⟨g, 0, none⟩) k vc) k (cellsE (ts)) := by have h := ow; unfold OwnE at h; rw [htl] at h; exact h
            have hcl2 : (cellsE (ts)).length = k * 2 := by rw [cellsE_len, htl]
            obtain ⟨_, r1⟩ := cellsE_get (ts) (k - 1) (by rw [htl]; omega)
            have d1 := (World.ownsRow.cellAt hrow ((k - 1) * 2 + 1) (by omega)).trans r1
            obtain ⟨_, r2⟩ := cellsE_get (ts) 0 (by rw [htl]; omega)
            have d2 := (World.ownsRow.cellAt hrow (0 * 2 + 1) (by omega)).trans r2
            have f2 := World.ownsRow.frozenAt hrow (0 * 2 + 1)
            have hokl := HDz.out.all.get (k := k - 1) (by rw [htl]; omega)
            obtain ⟨tl', htl'⟩ : ∃ zz : Ent, zz = (ts).getD (k - 1) Ent.none := ⟨_, rfl⟩
            rw [← htl'] at d1 hokl
            have hst := World.ownsRow.stored hrow (0 * 2 + 1) (.string tl'.2)
            have hset : (cellsE (ts)).set (0 * 2 + 1) (.string tl'.2) = cellsE ((ts).set 0 (((ts).getD 0 Ent.none).1, tl'.2)) := by
              have h0 := cellsE_set (ts) 0 (((ts).getD 0 Ent.none).1, tl'.2) (by rw [htl]; omega)
              rw [← h0]
              obtain ⟨q1, _⟩ := cellsE_get (ts) 0 (by rw [htl]; omega)
              rw [list_set_same q1]
            rw [hset] at hst
            have hgz := ow.lt g rfl
            have C9 : Chg w.heap.size wz.heap.size wz (wz.setCell ⟨g, 0 * 2 + 1, none⟩ (.string tl'.2)) := Chg.setCell (Chg.refl _ _ _) (p := ⟨g, 0 * 2 + 1, none⟩) (Or.inl hgz) _
            have HD9 : Hid (DrE w (wz.setCell ⟨g, 0 * 2 + 1, none⟩ (.string tl'.2)) p cv sz (m + 1 + 1) (at' + 500) (.slice (some ⟨g, 0, none⟩) k vc) ((ts).set 0 (((ts).getD 0 Ent.none).1, tl'.2))) := ⟨HDz.out.src.chg C9 (by omega), HDz.out.le, HDz.out.chg.step C9 (by omega), by unfold OwnE; rw [List.length_set, htl]; exact hst.1, HDz.out.all.set 0 hokl⟩
            have hl9 : ((ts).set 0 (((ts).getD 0 Ent.none).1, tl'.2)).length = k := by rw [List.length_set]; exact htl
            have hq1 : ((k : Int) - 1).toNat = k - 1 := by omega
            have hq2 : (0 : Int) ≤ (k : Int) - 1 := by omega
            have hq3 : (k : Int) - 1 < (k : Int) := by omega
            clear hst hrow ow r1 r2 hset C9 htl'
            go_wp2
            go_ret
            exact ⟨_, rfl, _, by rw [hl9]; exact hn, m + 1 + 1, ⟨HD9.out.src, by have := HD9.out.le; omega, HD9.out.chg, HD9.out.own, HD9.out.all⟩⟩
        | true =>
          have hN := l1Next_calls w5 p (m + 1) sz k (by omega) hB hcl (by have := HD5.out.le; omega) HD5.out.src (hc.chg HD5.out.chg (by omega)) hp
          go_wp2_with fail
          refine hN.mono ?_
          rintro e w6 ⟨rfl, s6, c6⟩
          have hrx := nxt_range code (m + 1) (k : Int)
          generalize nxt code (m + 1) (k : Int) = x at *
          obtain ⟨j, rfl⟩ : ∃ j : Nat, x = j := ⟨x.toNat, by have := hrx.1; omega⟩
          have hj : j < k := by have := hrx.2 (by omega); omega
          have HD6 : Hid (DrE w w6 p cv sz (m + 2) (at' + 401) (.slice (some ⟨g, 0, none⟩) k vc) ts) := ⟨s6, by have := HD5.out.le; omega, HD5.out.chg.trans c6, HD5.out.own.chg c6 (fun g hg => by have := (HD5.out.own.lt g hg).1; omega), HD5.out.all⟩
          clear hN s6 c6 hrx HD5
          have hN := l10DrawEntry_calls w6 p (m + 2) sz hB hcl (by have := HD6.out.le; omega) HD6.out.src (hc.chg HD6.out.chg (by omega)) hp
          go_wp2_with fail
          refine hN.mono ?_
          rintro e w7 ⟨q, t, m7, rfl, ht7, hm7, s7, c7⟩
          have o7 := HD6.out.own.chg c7 (fun g hg => by have := (HD6.out.own.lt g hg).1; omega)
          have hrow7 : w7.ownsRow w.heap.size 30 2 (.slice (some ⟨g, 0, none⟩) k vc) k (cellsE ts) := by have h := o7; unfold OwnE at h; rw [htl] at h; exact h
          have hcl7 : (cellsE ts).length = k * 2 := by rw [cellsE_len, htl]
          obtain ⟨y0, e0⟩ : ∃ u, w7.cell? ⟨g, j * 2, none⟩ = some u := ⟨_, (World.ownsRow.cellAt hrow7 (j * 2) (by omega)).trans (List.getElem?_eq_getElem (by omega))⟩
          obtain ⟨y1, e1⟩ : ∃ u, w7.cell? ⟨g, j * 2 + 1, none⟩ = some u := ⟨_, (World.ownsRow.cellAt hrow7 (j * 2 + 1) (by omega)).trans (List.getElem?_eq_getElem (by omega))⟩
          have f0 := World.ownsRow.frozenAt hrow7 (j * 2)
          have f1 := World.ownsRow.frozenAt hrow7 (j * 2 + 1)
          have hp7 := o7.put htl hj (q, t)
          have hgb := (o7.lt g rfl).1
          have C8 : Chg w.heap.size (w7.heap.size) w7 ((w7.setCell ⟨g, j * 2, none⟩ (.int .i64 q)).setCell ⟨g, j * 2 + 1, none⟩ (.string t)) := Chg.setCell (Chg.setCell (Chg.refl _ _ _) (p := ⟨g, j * 2, none⟩) (Or.inl (o7.lt g rfl)) _) (p := ⟨g, j * 2 + 1, none⟩) (Or.inl (o7.lt g rfl)) _
          have HD8 : Hid (DrE w ((w7.setCell ⟨g, j * 2, none⟩ (.int .i64 q)).setCell ⟨g, j * 2 + 1, none⟩ (.string t)) p cv sz m7 (at' + 407) (.slice (some ⟨g, 0, none⟩) k vc) (ts.set j (q, t))) := ⟨s7.chg C8 (by omega), by have := HD6.out.le; omega, (HD6.out.chg.trans c7).step C8 (by omega), hp7, HD6.out.all.set j ht7⟩
          have hls : (ts.set j (q, t)).length = k := by rw [List.length_set]; exact htl
          have hji : (j : Int) < (k : Int) := by omega
          clear hN s7 c7 o7 hrow7 hcl7 hp7 C8 HD6
          by_cases hn1 : 1 < k
          rotate_left
          · have hn1' : ¬ (1 : Int) < (k : Int) := by omega
            go_wp2
            go_ret
            exact ⟨_, rfl, ts.set j (q, t), by rw [hls]; exact hn, m7, ⟨HD8.out.src, by have := HD8.out.le; omega, HD8.out.chg, HD8.out.own, HD8.out.all⟩⟩
          have hn1' : (1 : Int) < (k : Int) := by omega
          have hN := l1Chance_calls ((w7.setCell ⟨g, j * 2, none⟩ (.int .i64 q)).setCell ⟨g, j * 2 + 1, none⟩ (.string t)) p (m7) sz 10 (by omega) hB hcl (by have := HD8.out.le; omega) HD8.out.src (hc.chg HD8.out.chg (by omega)) hp
          go_wp2_with fail
          refine hN.mono ?_
          rintro e wz ⟨rfl, sz1, cz1⟩
          have hDz : DrE w wz p cv sz (m7 + 1) (at' + 500) (.slice (some ⟨g, 0, none⟩) k vc) (ts.set j (q, t)) := ⟨sz1, by have := HD8.out.le; omega, HD8.out.chg.trans cz1, HD8.out.own.chg cz1 (fun g hg => by have := (HD8.out.own.lt g hg).1; omega), HD8.out.all⟩
          generalize (nxt code (m7) 10 == 0) = c10 at *
          have HDz : Hid (DrE w wz p cv sz (m7 + 1) (at' + 500) (.slice (some ⟨g, 0, none⟩) k vc) (ts.set j (q, t))) := hDz
          clear hN sz1 cz1 hDz
          cases c10 with
          | false =>
            go_wp2
            go_ret
            exact ⟨_, rfl, ts.set j (q, t), by rw [hls]; exact hn, m7 + 1, ⟨HDz.out.src, by have := HDz.out.le; omega, HDz.out.chg, HDz.out.own, HDz.out.all⟩⟩
          | true =>
            have ow := HDz.out.own
            have hrow : wz.ownsRow w.heap.size 30 2 (.slice (some ⟨g, 0, none⟩) k vc) k (cellsE (ts.set j (q, t))) := by have h := ow; unfold OwnE at h; rw [hls] at h; exact h
            have hcl2 : (cellsE (ts.set j (q, t))).length = k * 2 := by rw [cellsE_len, hls]
            obtain ⟨_, r1⟩ := cellsE_get (ts.set j (q, t)) (k - 1) (by rw [hls]; omega)
            have d1 := (World.ownsRow.cellAt hrow ((k - 1) * 2 + 1) (by omega)).trans r1
            obtain ⟨_, r2⟩ := cellsE_get (ts.set j (q, t)) 0 (by rw [hls]; omega)
            have d2 := (World.ownsRow.cellAt hrow (0 * 2 + 1) (by omega)).trans r2
            have f2 := World.ownsRow.frozenAt hrow (0 * 2 + 1)
            have hokl := HDz.out.all.get (k := k - 1) (by rw [hls]; omega)
            obtain ⟨tl', htl'⟩ : ∃ zz : Ent, zz = (ts.set j (q, t)).getD (k - 1) Ent.none := ⟨_, rfl⟩
            rw [← htl'] at d1 hokl
            have hst := World.ownsRow.stored hrow (0 * 2 + 1) (.string tl'.2)
            have hset : (cellsE (ts.set j (q, t))).set (0 * 2 + 1) (.string tl'.2) = cellsE ((ts.set j (q, t)).set 0 (((ts.set j (q, t)).getD 0 Ent.none).1, tl'.2)) := by
              have h0 := cellsE_set (ts.set j (q, t)) 0 (((ts.set j (q, t)).getD 0 Ent.none).1, tl'.2) (by rw [hls]; omega)
              rw [← h0]
              obtain ⟨q1, _⟩ := cellsE_get (ts.set j (q, t)) 0 (by rw [hls]; omega)
              rw [list_set_same q1]
            rw [hset] at hst
            have hgz := ow.lt g rfl
            have C9 : Chg w.heap.size wz.heap.size wz (wz.setCell ⟨g, 0 * 2 + 1, none⟩ (.string tl'.2)) := Chg.setCell (Chg.refl _ _ _) (p := ⟨g, 0 * 2 + 1, none⟩) (Or.inl hgz) _
            have HD9 : Hid (DrE w (wz.setCell ⟨g, 0 * 2 + 1, none⟩ (.string tl'.2)) p cv sz (m7 + 1) (at' + 500) (.slice (some ⟨g, 0, none⟩) k vc) ((ts.set j (q, t)).set 0 (((ts.set j (q, t)).getD 0 Ent.none).1, tl'.2))) := ⟨HDz.out.src.chg C9 (by omega), HDz.out.le, HDz.out.chg.step C9 (by omega), by unfold OwnE; rw [List.length_set, hls]; exact hst.1, HDz.out.all.set 0 hokl⟩
            have hl9 : ((ts.set j (q, t)).set 0 (((ts.set j (q, t)).getD 0 Ent.none).1, tl'.2)).length = k := by rw [List.length_set]; exact hls
            have hq1 : ((k : Int) - 1).toNat = k - 1 := by omega
            have hq2 : (0 : Int) ≤ (k : Int) - 1 := by omega
            have hq3 : (k : Int) - 1 < (k : Int) := by omega
            clear hst hrow ow r1 r2 hset C9 htl'
            go_wp2
            go_ret
            exact ⟨_, rfl, _, by rw [hl9]; exact hn, m7 + 1, ⟨HD9.out.src, by have := HD9.out.le; omega, HD9.out.chg, HD9.out.own, HD9.out.all⟩⟩

end Go.Proofs.Ytkcijpmikgohcaa
