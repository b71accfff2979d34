/- The model's draws: l1Magic, l1Fill. -/
import Derived.Test.YtplfehjaakkldaaDraw
import Derived.Deep.DeepCutAuto
namespace Go.Proofs.Ytplfehjaakkldaa
open Go.RowKit

theorem Try.infoU5 : (Try.prog.info? 5).map (fun i => (i.zero, i.size, i.bytes)) = some (some (.int .u8 0), 1, 1) := by kernel_rfl

/-- Four bytes that are written down. -/
theorem own4 (w : World) (a b c d : Int) : OwnB (w.alloc (.cells #[.int .u8 a, .int .u8 b, .int .u8 c, .int .u8 d] 5)) w.heap.size 5 (.slice (some ⟨w.heap.size, 0, none⟩) 4 4) [a, b, c, d] := by
  have := World.ownsRow_lit (base := w.heap.size) (e := 5) (size := 1) w #[.int .u8 a, .int .u8 b, .int .u8 c, .int .u8 d] 4 (Nat.le_refl _) (by unfold maxLen; omega) rfl
  simpa [OwnB] using this

set_option maxHeartbeats 1000000 in
theorem l1Magic_callsW (w : World) (p at' sz : Nat) {lo hi : Nat} {cv : Value} {code : List Int} (hB : Byt code) (hcl : code.length ≤ 1048600) (hat : at' ≤ 1099511627776)
    (hs : SrcAt w p cv at' sz) (hc : View w lo hi .u8 cv code) (hp : p < lo ∨ hi ≤ p) :
    Calls Try.prog 82 #[.pointer (some ⟨p, 0, none⟩)] w fun e w' => ∃ g ys, e = .returned (.slice (some ⟨g, 0, none⟩) 4 4) ∧ Byt ys ∧ ys.length = 4 ∧ OwnB w' w.heap.size 5 (.slice (some ⟨g, 0, none⟩) 4 4) ys ∧ SrcAt w' p cv (at' + 1) sz ∧ Chg p (p + 1) w w' := by
  have hps : p < w.heap.size := (Array.getElem?_eq_some_iff.1 hs).1
  go_enter Try.func82, Try.ntmps82
  go_wp2_with fail
  refine (l1Chance_callsW _ p at' sz 6 (by omega) hB hcl hat hs hc hp).mono ?_
  rintro e w1 ⟨rfl, hs1, hc1⟩
  have HS : Hid (∀ x, SrcAt (w1.alloc x) p cv (at' + 1) sz) := fun x => hs1.chg (Chg.alloc (Chg.refl 0 0 w1) x) (by omega)
  have HC : Hid (∀ x, Chg p (p + 1) w (w1.alloc x)) := fun x => hc1.alloc x
  have HO : Hid (∀ a b c d, OwnB (w1.alloc (.cells #[.int .u8 a, .int .u8 b, .int .u8 c, .int .u8 d] 5)) w.heap.size 5 (.slice (some ⟨w1.heap.size, 0, none⟩) 4 4) [a, b, c, d]) :=
    fun a b c d => (own4 w1 a b c d).base (fun g hg => by cases hg; exact hc1.size)
  clear hs1 hc1 hs hc
  generalize (nxt code at' 6 == 0) = q
  cases q
  · go_wp2
    go_ret
    exact ⟨w1.heap.size, [106, 108, 111, 103], rfl, by intro x hx; simp at hx; omega, rfl, HO.out 106 108 111 103, HS.out _, HC.out _⟩
  · go_wp2
    go_ret
    exact ⟨w1.heap.size, [106, 108, 111, 104], rfl, by intro x hx; simp at hx; omega, rfl, HO.out 106 108 111 104, HS.out _, HC.out _⟩
theorem l1Magic_calls (w : World) (p at' sz : Nat) {lo hi : Nat} {cv : Value} {code : List Int} (hB : Byt code) (hcl : code.length ≤ 1048576) (hat : at' ≤ 1099511627776)
    (hs : SrcAt w p cv at' sz) (hc : View w lo hi .u8 cv code) (hp : p < lo ∨ hi ≤ p) :
    Calls Try.prog 82 #[.pointer (some ⟨p, 0, none⟩)] w fun e w' => ∃ g ys, e = .returned (.slice (some ⟨g, 0, none⟩) 4 4) ∧ Byt ys ∧ ys.length = 4 ∧ OwnB w' w.heap.size 5 (.slice (some ⟨g, 0, none⟩) 4 4) ys ∧ SrcAt w' p cv (at' + 1) sz ∧ Chg p (p + 1) w w' :=
  l1Magic_callsW w p at' sz hB (by omega) hat hs hc hp

/-- A byte is put in its place. -/
theorem OwnB.store {w : World} {base g n cap : Nat} {e : TypeId} {xs : List Int} (h : OwnB w base e (.slice (some ⟨g, 0, none⟩) n cap) xs) (hn : xs.length = n) (i : Nat) (hi : i < n) (x : Int) :
    (∃ u, w.cell? ⟨g, i, none⟩ = some u) ∧ w.frozen? ⟨g, i, none⟩ = false ∧ OwnB (w.setCell ⟨g, i, none⟩ (.int .u8 x)) base e (.slice (some ⟨g, 0, none⟩) n cap) (xs.set i x) := by
  subst hn
  unfold OwnB at h
  refine ⟨?_, World.ownsRow.frozenAt h i, ?_⟩
  · rw [World.ownsRow.cellAt h i (by omega)]
    exact ⟨_, List.getElem?_eq_getElem (by simpa using hi)⟩
  · have := (World.ownsRow.stored h i (.int .u8 x)).1
    unfold OwnB
    rw [List.length_set, List.map_set]
    exact this

theorem Byt.set {xs : List Int} (h : Byt xs) (i : Nat) {x : Int} (hx : 0 ≤ x ∧ x < 256) : Byt (xs.set i x) := by
  intro y hy
  rcases List.mem_or_eq_of_mem_set hy with h' | rfl
  · exact h y h'
  · exact hx

theorem Byt.replicate (k : Nat) {x : Int} (hx : 0 ≤ x ∧ x < 256) : Byt (List.replicate k x) := by
  intro y hy
  obtain ⟨_, rfl⟩ := List.mem_replicate.1 hy
  exact hx

set_option maxRecDepth 20000 in
set_option maxHeartbeats 2000000 in
theorem l1Fill_callsW (w : World) (p at' sz : Nat) {lo hi : Nat} {cv : Value} {code : List Int} (hB : Byt code) (hcl : code.length ≤ 1048600) (hat : at' + 5 ≤ 1099511627776)
    (hs : SrcAt w p cv at' sz) (hc : View w lo hi .u8 cv code) (hp : p < lo ∨ hi ≤ p) :
    Calls Try.prog 63 #[.pointer (some ⟨p, 0, none⟩)] w fun e w' => ∃ g cap ys k, e = .returned (.slice (some ⟨g, 0, none⟩) 64 cap) ∧ Byt ys ∧ ys.length = 64 ∧ OwnB w' w.heap.size 5 (.slice (some ⟨g, 0, none⟩) 64 cap) ys ∧ k ≤ 5 ∧ SrcAt w' p cv (at' + k) sz ∧ Chg p (p + 1) w w' := by
  obtain ⟨ti, hti, hz0, hz1, hz2⟩ := info_parts Try.infoU5
  have hps : p < w.heap.size := (Array.getElem?_eq_some_iff.1 hs).1
  have C0 : Chg p (p + 1) w (w.alloc (.cells #[] 5)) := Chg.alloc (Chg.refl p (p + 1) w) _
  have hs0 : SrcAt (w.alloc (.cells #[] 5)) p cv at' sz := hs.chg (Chg.alloc (Chg.refl 0 0 w) _) (by omega)
  have HO0 : Hid (OwnB (w.alloc (.cells #[] 5)) w.heap.size 5 (.slice (some ⟨w.heap.size, 0, none⟩) 0 0) []) := by
    show OwnB _ _ _ _ _
    have := World.ownsRow_lit (base := w.heap.size) (e := 5) (size := 1) w #[] 0 (Nat.le_refl _) (by unfold maxLen; omega) rfl
    simpa [OwnB] using this
  have hN := l1Next_callsW _ p at' sz 256 (by omega) hB hcl (by omega) hs0 (hc.chg C0 (by omega)) hp
  have hr := nxt_range code at' 256
  generalize nxt code at' 256 = x at *
  clear hs hs0
  go_enter Try.func63, Try.ntmps63
  go_wp2_with fail
  refine hN.mono ?_
  rintro e w1 ⟨rfl, hs1, hc1⟩
  clear hN
  have hx : 0 ≤ x ∧ x < 256 := ⟨hr.1, hr.2 (by omega)⟩
  have sz1 := hc1.size
  have sz0 : (w.alloc (.cells #[] 5)).heap.size = w.heap.size + 1 := by simp
  have HO1 : Hid (OwnB w1 w.heap.size 5 (.slice (some ⟨w.heap.size, 0, none⟩) 0 0) []) := HO0.out.chg hc1 (fun g hg => by cases hg; right; show p + 1 ≤ w.heap.size; omega)
  have HC1 : Hid (Chg p (p + 1) w w1) := C0.trans hc1
  have HS1 : Hid (SrcAt w1 p cv (at' + 1) sz) := hs1
  have sw1 : w.heap.size ≤ w1.heap.size := by omega
  clear C0 HO0 hs1 hc1 hr sz0 sz1
  go_wp2
  go_loopw [3, 5] (fun out i wr => ∃ k : Nat, k ≤ 64 ∧ i = .int .i64 k ∧ (∃ g cap, out = .slice (some ⟨g, 0, none⟩) k cap) ∧ OwnB wr w.heap.size 5 out (List.replicate k x) ∧ SrcAt wr p cv (at' + 1) sz ∧ Chg p (p + 1) w wr) (fun _ i _ => 64 - (intOf i).toNat)
  case atStart => exact ⟨0, Nat.zero_le _, rfl, ⟨_, _, rfl⟩, HO1.out, HS1.out, HC1.out⟩
  case round =>
    obtain ⟨k, hk, rfl, ⟨og, oc, rfl⟩, ho, hs, hch⟩ := hrel
    clear HO1 HS1 HC1
    have swr := hch.size
    by_cases hlt : k < 64
    · have hi' : (k : Int) < 64 := by omega
      have ho2 := ho.chg (Chg.alloc (Chg.refl 0 0 wr) (.cells #[.int .u8 x] 5)) (by intro g _; omega)
      have HO2 : Hid ((wr.alloc (.cells #[.int .u8 x] 5)).ownsRow w.heap.size 5 1 (.slice (some ⟨og, 0, none⟩) k oc) k ((List.replicate k x).map (Value.int .u8))) := by
        have := ho2; unfold OwnB at this; rw [List.length_replicate] at this; exact this
      have Hgb : Hid (∀ g, (Value.slice (some ⟨og, 0, none⟩) k oc).ownBlock = some g → w.heap.size ≤ g) := fun g hg => (ho.lt g hg).1
      have HNW : Hid (∀ j u, [Value.int .u8 x][j]? = some u → (wr.alloc (.cells #[.int .u8 x] 5)).cell? ((⟨wr.heap.size, 0, none⟩ : Addr).add j) = some u) := by
        intro j u hj
        have hj0 : j = 0 := by have := (List.getElem?_eq_some_iff.1 hj).1; simp at this; exact this
        subst hj0
        simp at hj
        subst hj
        simp [Addr.add]
      have bs : Hid (w.heap.size ≤ (wr.alloc (.cells #[.int .u8 x] 5)).heap.size) := by show _ ≤ _; simp; omega
      have HS : Hid (SrcAt wr p cv (at' + 1) sz) := hs
      have HC1 : Hid (Chg p (p + 1) w wr) := hch
      clear ho ho2 hs hch
      go_wp2_with (at_builtin; refine wpList_append_own _ rfl (.tmp 16) (.tmp 18) 22 rfl w.heap.size 5 ti (.int .u8 0) 1 1 Try.underlying22 hti hz0 hz1 hz2 rfl (by decide) _ k ((List.replicate k x).map (Value.int .u8)) rfl HO2.out ⟨wr.heap.size, 0, none⟩ 1 1 [.int .u8 x] rfl rfl HNW.out (by simp [Value.oneCell']) (by unfold maxLen; omega) (by omega) bs.out ?_)
      intro v' w3 hown hgrow hnn
      have HV : Hid (∃ g cap, v' = .slice (some ⟨g, 0, none⟩) (k + 1) cap) := by
        show ∃ g cap, _
        rcases hown.2 with ⟨e, h0⟩ | ⟨g', cap', cur, e, _⟩
        · omega
        · exact ⟨g', cap', e⟩
      have HO3 : Hid (OwnB w3 w.heap.size 5 v' (List.replicate (k + 1) x)) := by
        show OwnB _ _ _ _ _
        unfold OwnB
        rw [List.length_replicate, List.replicate_succ', List.map_append, List.map_replicate]
        exact hown
      have G : Chg w.heap.size (wr.heap.size + 1) (wr.alloc (.cells #[.int .u8 x] 5)) w3 := Chg.ofGrown hgrow (fun g hg hlt => ⟨Hgb.out g hg, by simpa using hlt⟩)
      have HC3 : Hid (Chg p (p + 1) w w3) := (HC1.out.alloc _).step G (Or.inr (Or.inl (Nat.le_refl _)))
      have HS3 : Hid (SrcAt w3 p cv (at' + 1) sz) := (HS.out.chg (Chg.alloc (Chg.refl 0 0 wr) _) (by omega)).chg G (Or.inl hps)
      clear hown hgrow G HNW HO2 bs HC1 hnn
      go_wp2
      go_roundw
      case rel => exact ⟨k + 1, by omega, by go_num, HV.out, HO3.out, HS3.out, HC3.out⟩
      case measure => simp [intOf]; omega
    · obtain rfl : k = 64 := by omega
      have HO : Hid (OwnB wr w.heap.size 5 (.slice (some ⟨og, 0, none⟩) 64 oc) (List.replicate 64 x)) := ho
      have hgb := ho.lt og rfl
      have hN := l1Next_callsW _ p (at' + 1) sz 64 (by omega) hB hcl (by omega) hs (hc.chg hch (by omega)) hp
      have hr := nxt_range code (at' + 1) 64
      obtain ⟨q, hq⟩ : ∃ q : Nat, nxt code (at' + 1) 64 = (q : Int) := ⟨(nxt code (at' + 1) 64).toNat, by omega⟩
      rw [hq] at hN hr
      have hq64 : q < 64 := by have := hr.2 (by omega); omega
      clear hq hr ho hs
      have HCH : Hid (Chg p (p + 1) w wr) := hch
      clear hch
      go_wp2_with fail
      refine hN.mono ?_
      rintro e w2 ⟨rfl, hs2, hc2⟩
      clear hN
      have sz2 := hc2.size
      have HO2 : Hid (OwnB w2 w.heap.size 5 (.slice (some ⟨og, 0, none⟩) 64 oc) (List.replicate 64 x)) := HO.out.chg hc2 (fun g hg => by cases hg; right; show p + 1 ≤ og; omega)
      have HC2 : Hid (Chg p (p + 1) w w2) := HCH.out.trans hc2
      have hN := l1Next_callsW _ p (at' + 1 + 1) sz 256 (by omega) hB hcl (by omega) hs2 (hc.chg HC2.out (by omega)) hp
      have hr := nxt_range code (at' + 1 + 1) 256
      generalize nxt code (at' + 1 + 1) 256 = y at *
      have hy : 0 ≤ y ∧ y < 256 := ⟨hr.1, hr.2 (by omega)⟩
      clear HO HCH hc2 hs2 hr
      go_wp2_with fail
      refine hN.mono ?_
      rintro e w3 ⟨rfl, hs3, hc3⟩
      clear hN
      have sz3 := hc3.size
      have ho3 := HO2.out.chg hc3 (fun g hg => by cases hg; right; show p + 1 ≤ og; omega)
      have HC3 : Hid (Chg p (p + 1) w (w3.setCell ⟨og, q, none⟩ (.int .u8 y))) := (HC2.out.trans hc3).setCell (Or.inr hgb.1) _
      obtain ⟨⟨u, cu⟩, fu, ho4⟩ := ho3.store (by simp) q hq64 y
      have hs4 : SrcAt (w3.setCell ⟨og, q, none⟩ (.int .u8 y)) p cv (at' + 1 + 1 + 1) sz := hs3.chg (Chg.setCell (p := ⟨og, q, none⟩) (Chg.refl og (og + 1) w3) (Or.inl ⟨Nat.le_refl _, Nat.lt_succ_self _⟩) _) (Or.inl (by omega))
      have hY : Byt ((List.replicate 64 x).set q y) := (Byt.replicate 64 hx).set q hy
      have hYl : ((List.replicate 64 x).set q y).length = 64 := by simp
      generalize (List.replicate 64 x).set q y = zs at *
      have HZ : Hid (Byt zs ∧ zs.length = 64) := ⟨hY, hYl⟩
      have HO4 : Hid (OwnB (w3.setCell ⟨og, q, none⟩ (.int .u8 y)) w.heap.size 5 (.slice (some ⟨og, 0, none⟩) 64 oc) zs) := ho4
      have hN := l1Chance_callsW _ p (at' + 1 + 1 + 1) sz 5 (by omega) hB hcl (by omega) hs4 (hc.chg HC3.out (by omega)) hp
      generalize (nxt code (at' + 1 + 1 + 1) 5 == 0) = ch at *
      have hq' : (q : Int) < 64 := by omega
      have s4 : (w3.setCell ⟨og, q, none⟩ (.int .u8 y)).heap.size = w3.heap.size := by simp
      clear HO2 HC2 hc3 hs3 ho3 ho4 hY hYl hs4
      go_wp2_with fail
      generalize w3.setCell ⟨og, q, none⟩ (.int .u8 y) = w4 at *
      refine hN.mono ?_
      rintro e w5 ⟨rfl, hs5, hc5⟩
      clear hN cu fu
      have sz5 := hc5.size
      have ho5 := HO4.out.chg hc5 (fun g hg => by cases hg; right; show p + 1 ≤ og; omega)
      have HC5 : Hid (Chg p (p + 1) w w5) := HC3.out.trans hc5
      clear HO4 HC3 hc5
      cases ch
      · have HO5 : Hid (OwnB w5 w.heap.size 5 (.slice (some ⟨og, 0, none⟩) 64 oc) zs) := ho5
        have HS5 : Hid (SrcAt w5 p cv (at' + 1 + 1 + 1 + 1) sz) := hs5
        clear hs5 ho5
        go_wp2
        go_ret
        exact ⟨og, oc, zs, 4, rfl, HZ.out.1, HZ.out.2, HO5.out, by omega, HS5.out, HC5.out⟩
      · have HO5 : Hid (OwnB w5 w.heap.size 5 (.slice (some ⟨og, 0, none⟩) 64 oc) zs) := ho5
        have hN := l1Magic_callsW _ p (at' + 1 + 1 + 1 + 1) sz hB hcl (by omega) hs5 (hc.chg HC5.out (by omega)) hp
        clear hs5 ho5
        go_wp2_with fail
        refine hN.mono ?_
        rintro e w6 ⟨mg, ms, rfl, hM, hMl, om, hs6, hc6⟩
        clear hN
        have sz6 := hc6.size
        have mgb := om.lt mg rfl
        have HO6 : Hid (OwnB w6 w.heap.size 5 (.slice (some ⟨og, 0, none⟩) 64 oc) zs) := HO5.out.chg hc6 (fun g hg => by cases hg; right; show p + 1 ≤ og; omega)
        have HC6 : Hid (Chg p (p + 1) w w6) := HC5.out.trans hc6
        have HM : Hid (∀ k, k < 4 → w6.cell? ⟨mg, k, none⟩ = some (.int .u8 (ms.getD k 0))) := by
          intro k hk
          unfold OwnB at om
          rw [hMl] at om
          rw [World.ownsRow.cellAt om k (by omega)]
          simp [List.getD_eq_getElem?_getD, hMl, hk]
        have HMB : Hid (∀ k, 0 ≤ ms.getD k 0 ∧ ms.getD k 0 < 256) := fun k => hM.getD k
        have HS6 : Hid (SrcAt w6 p cv (at' + 1 + 1 + 1 + 1 + 1) sz) := hs6
        clear HO5 HC5 hc6 om hs6 hM hMl
        go_wp2
        go_loopw [7] (fun i wr => ∃ k : Nat, k ≤ 4 ∧ i = .int .i64 k ∧ (∃ zs, Byt zs ∧ zs.length = 64 ∧ OwnB wr w.heap.size 5 (.slice (some ⟨og, 0, none⟩) 64 oc) zs) ∧ Chg og (og + 1) w6 wr) (fun i _ => 4 - (intOf i).toNat)
        case atStart => exact ⟨0, Nat.zero_le _, rfl, ⟨zs, HZ.out.1, HZ.out.2, HO6.out⟩, Chg.refl _ _ _⟩
        case round =>
          obtain ⟨k, hk, rfl, ⟨us, hU, hUl, ho⟩, hch⟩ := hrel
          by_cases hlt : k < 4
          · have hi' : (k : Int) < 4 := by omega
            have hi2 : (k : Int) < 64 := by omega
            have c1 := hch.cell (HM.out k hlt) (by omega)
            have b1 := HMB.out k
            obtain ⟨⟨u, cu⟩, fu, ho2⟩ := ho.store hUl k (by omega) (ms.getD k 0)
            have HO7 : Hid (∃ zs, Byt zs ∧ zs.length = 64 ∧ OwnB (wr.setCell ⟨og, k, none⟩ (.int .u8 (ms.getD k 0))) w.heap.size 5 (.slice (some ⟨og, 0, none⟩) 64 oc) zs) := ⟨_, hU.set k b1, by simpa using hUl, ho2⟩
            have HC7 : Hid (Chg og (og + 1) w6 (wr.setCell ⟨og, k, none⟩ (.int .u8 (ms.getD k 0)))) := hch.setCell (Or.inl ⟨Nat.le_refl _, Nat.lt_succ_self _⟩) _
            generalize ms.getD k 0 = z at *
            clear ho ho2 hU hUl hch HO6 HZ
            go_wp2
            go_roundw
            case rel => exact ⟨k + 1, by omega, by go_num, HO7.out, HC7.out⟩
            case measure => simp [intOf]; omega
          · obtain rfl : k = 4 := by omega
            have HO7 : Hid (Byt us ∧ us.length = 64 ∧ OwnB wr w.heap.size 5 (.slice (some ⟨og, 0, none⟩) 64 oc) us) := ⟨hU, hUl, ho⟩
            have HC7 : Hid (Chg p (p + 1) w wr) := HC6.out.step hch (Or.inr (Or.inl hgb.1))
            have HS7 : Hid (SrcAt wr p cv (at' + 5) sz) := HS6.out.chg hch (Or.inl (by omega))
            clear ho hU hUl hch HO6 HZ HM HMB HS6 HC6
            go_wp2
            go_ret
            exact ⟨og, oc, us, 5, rfl, HO7.out.1, HO7.out.2.1, HO7.out.2.2, by omega, HS7.out, HC7.out⟩
theorem l1Fill_calls (w : World) (p at' sz : Nat) {lo hi : Nat} {cv : Value} {code : List Int} (hB : Byt code) (hcl : code.length ≤ 1048576) (hat : at' + 5 ≤ 1099511627776)
    (hs : SrcAt w p cv at' sz) (hc : View w lo hi .u8 cv code) (hp : p < lo ∨ hi ≤ p) :
    Calls Try.prog 63 #[.pointer (some ⟨p, 0, none⟩)] w fun e w' => ∃ g cap ys k, e = .returned (.slice (some ⟨g, 0, none⟩) 64 cap) ∧ Byt ys ∧ ys.length = 64 ∧ OwnB w' w.heap.size 5 (.slice (some ⟨g, 0, none⟩) 64 cap) ys ∧ k ≤ 5 ∧ SrcAt w' p cv (at' + k) sz ∧ Chg p (p + 1) w w' :=
  l1Fill_callsW w p at' sz hB (by omega) hat hs hc hp

end Go.Proofs.Ytplfehjaakkldaa
