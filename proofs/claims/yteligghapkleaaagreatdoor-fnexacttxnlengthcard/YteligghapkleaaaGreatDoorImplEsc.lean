/- Several short texts in one: SpecBody, Is, ImplUnesc, SpecUnesc, ImplEsc. -/
import Derived.Test.YteligghapkleaaaGreatDoorJBody
import Derived.Test.YteligghapkleaaaGreatDoorSpecDesc
import Derived.Test.YteligghapkleaaaGreatDoorPutByt
import Derived.Test.YteligghapkleaaaGreatDoorMg
import Derived.Test.YteligghapkleaaaGreatDoorOpenBlk2
import Derived.Test.YteligghapkleaaaGreatDoorSmall
import Derived.Test.YteligghapkleaaaGreatDoorToB
import Derived.Deep.RegionWith
import Derived.Deep.DeepCutAuto
namespace Go.Proofs.YteligghapkleaaaGreatDoor
open Go.RowKit

/-- What l4Body tells. -/
def Told (w w' : World) (e : Ending) (bs : List (List Int)) : Prop := ∃ g c, e = .returned (.slice (some ⟨g, 0, none⟩) (64 * bs.length) c) ∧ OwnB w' w.heap.size 5 (.slice (some ⟨g, 0, none⟩) (64 * bs.length) c) bs.flatten ∧ Chg 0 0 w w'

set_option maxRecDepth 20000 in
set_option maxHeartbeats 4000000 in
theorem body_nil (w : World) (q : Int) (po ao : Option Addr) (pc ac : Nat) :
    Calls Tryz.prog 19 #[.agg #[.int .i64 q, .slice po 0 pc, .slice ao 0 ac]] w fun e w' => Told w w' e (BL q [] []) := by
  rw [BL_nil]
  have C0 : Chg 0 0 w (w.alloc (.cells #[.int .i64 q, .slice po 0 pc, .slice ao 0 ac] 30)) := Chg.alloc (Chg.refl 0 0 w) _
  obtain ⟨⟨k0, k1, k2⟩, _⟩ := tri (heap_new w (.cells #[.int .i64 q, .slice po 0 pc, .slice ao 0 ac] 30))
  go_enter Tryz.func19, Tryz.ntmps19
  go_upto_region 7 with fail
  generalize w.alloc (.cells #[.int .i64 q, .slice po 0 pc, .slice ao 0 ac] 30) = w1 at *
  have HC : Hid (Chg 0 0 w (w1.alloc (.cells #[] 5))) := C0.alloc _
  have HO : Hid _ := OwnB.bnil w1 w.heap.size C0.size
  clear C0 k0 k1 k2
  go_wp2
  go_ret
  exact ⟨_, _, rfl, HO.out, HC.out⟩

set_option maxRecDepth 20000 in
set_option maxHeartbeats 4000000 in
theorem body_rev (w : World) {lo hi : Nat} {hv : Value} {q : Int} {hs : List Wr} {rs : List Int} (b off cap : Nat) (hok : OkT q hs rs) (h0 : 0 < rs.length) (hn : hs.length + rs.length ≤ 128) (hb : b < w.heap.size) (hcap : rs.length ≤ cap)
    (h1 : PView w lo hi hv hs) (h2 : ∀ i, i < rs.length → w.cell? ⟨b, off + i, none⟩ = some (.int .i64 (rs.getD i 0)))
    (rec : ∀ w' rv, Chg 0 0 w w' → View w' 0 w.heap.size .i64 rv (rs.drop 26) → Calls Tryz.prog 19 #[.agg #[.int .i64 q, hv, rv]] w' fun e w'' => Told w' w'' e (BL q hs (rs.drop 26))) :
    Calls Tryz.prog 19 #[.agg #[.int .i64 q, hv, .slice (some ⟨b, off, none⟩) rs.length cap]] w fun e w' => Told w w' e (BL q hs rs) := by
  obtain ⟨po, pcap, rfl⟩ := h1.slice
  have C0 : Chg 0 0 w (w.alloc (.cells #[.int .i64 q, .slice po hs.length pcap, .slice (some ⟨b, off, none⟩) rs.length cap] 30)) := Chg.alloc (Chg.refl 0 0 w) _
  have B0 := heap_new w (.cells #[.int .i64 q, .slice po hs.length pcap, .slice (some ⟨b, off, none⟩) rs.length cap] 30)
  obtain ⟨⟨k0, k1, k2⟩, _⟩ := tri B0
  have hr0 : (0 : Int) < (rs.length : Int) := by omega
  obtain ⟨k, hk⟩ : ∃ k, k = min rs.length 26 := ⟨_, rfl⟩
  have e26 : (if (26 : Int) < (rs.length : Int) then (26 : Int) else (rs.length : Int)) = (k : Int) := by rw [hk]; split <;> omega
  have HTk : Hid (rs.take 26 = rs.take k ∧ rs.drop 26 = rs.drop k ∧ (rs.take k).length = k) := by
    rcases Nat.le_total rs.length 26 with h | h
    · have : k = rs.length := by omega
      refine ⟨?_, ?_, ?_⟩
      · rw [this, List.take_of_length_le h, List.take_length]
      · rw [this, List.drop_eq_nil_of_le h, List.drop_length]
      · rw [List.length_take]; omega
    · have : k = 26 := by omega
      rw [this]; exact ⟨rfl, rfl, by rw [List.length_take]; omega⟩
  have hk26 : k ≤ 26 := by omega
  have hk0 : 1 ≤ k := by omega
  have hkc : k ≤ rs.length := by omega
  have HBL : Hid (BL q hs rs = revB q (rs.take k) :: BL q hs (rs.drop k)) := by have := BL_rev q hs h0; rw [HTk.out.1, HTk.out.2.1] at this; exact this
  have HREV : Hid (∀ W, Chg 0 0 w W → Calls Tryz.prog 31 #[.agg #[.int .i64 q, .slice (some ⟨b, off, none⟩) k cap]] W fun e w' => ∃ v, e = .returned v ∧ OwnB w' W.heap.size 5 v (revB q (rs.take k)) ∧ Chg 0 0 W w') := fun W hW => by
    have := specRevoke_calls W q (rs.take k) b off cap hok.q0 hok.q1 (by rw [HTk.out.2.2]; omega) (by rw [HTk.out.2.2]; omega) (hok.rev.take k) (fun i hi => by
      rw [HTk.out.2.2] at hi
      have e : (rs.take k).getD i 0 = rs.getD i 0 := by simp [List.getD_eq_getElem?_getD, hi]
      rw [e]
      exact hW.cell (h2 i (by omega)) (by omega))
    rw [HTk.out.2.2] at this
    unfold revB
    rw [HTk.out.2.2]
    exact this
  have HRl : Hid ((revB q (rs.take k)).length = 64) := rev_64 hok.q0 hok.q1 (by rw [HTk.out.2.2]; omega) (fun x hx => hok.rev.bound (Nat.le_refl _) x (List.mem_of_mem_take hx))
  obtain ⟨ad, had⟩ : ∃ ad : Option Addr, (if cap = k then some (⟨b, off, none⟩ : Addr) else some ⟨b, off + k, none⟩) = ad := ⟨_, rfl⟩
  have HVd : Hid (∀ W, Chg 0 0 w W → View W 0 w.heap.size .i64 (.slice ad (rs.length - k) (cap - k)) (rs.drop k)) := fun W hW => by
    rw [← had]
    split
    · have e : rs.drop k = [] := List.drop_eq_nil_of_le (by omega)
      rw [e]
      exact ⟨_, cap - k, by rw [show rs.length - k = 0 by omega]; rfl, by simp, ⟨by simp, fun h => by cases h⟩, Or.inl rfl⟩
    · refine ⟨_, cap - k, by rw [List.length_drop], by rw [List.length_drop]; omega, ⟨by rw [List.length_drop]; omega, fun h => by cases h⟩, Or.inr ⟨b, off + k, rfl, Nat.zero_le _, hb, fun i hi => ?_⟩⟩
      rw [List.length_drop] at hi
      rw [Nat.add_assoc, hW.cell (h2 (k + i) (by omega)) (by omega)]
      simp [List.getD_eq_getElem?_getD, List.getElem?_drop]
  have n1 : ¬ cap < k := by omega
  have n2 : ¬ rs.length < k := by omega
  obtain ⟨i1, i2⟩ := BL_64 128 (q := q) (hs := hs) (rs := rs.drop k) (by rw [List.length_drop]; omega) (hok.dropR k)
  have HFl : Hid _ := flat_len i1
  have hlen : (BL q hs (rs.drop k)).length ≤ 256 := by rw [List.length_drop] at i2; omega
  have HREC : Hid (∀ w' rv, Chg 0 0 w w' → View w' 0 w.heap.size .i64 rv (rs.drop k) → Calls Tryz.prog 19 #[.agg #[.int .i64 q, .slice po hs.length pcap, rv]] w' fun e w'' => Told w' w'' e (BL q hs (rs.drop k))) := by rw [← HTk.out.2.1]; exact rec
  have HB0 : Hid _ := B0
  have HC0 : Hid _ := C0
  have s0 : (w.alloc (.cells #[.int .i64 q, .slice po hs.length pcap, .slice (some ⟨b, off, none⟩) rs.length cap] 30)).heap.size = w.heap.size + 1 := by simp
  clear rec h1 h2 i1 i2 B0 C0 hok hk
  go_enter Tryz.func19, Tryz.ntmps19
  go_upto_region 4 with fail
  try simp only [e26]
  generalize w.alloc (.cells #[.int .i64 q, .slice po hs.length pcap, .slice (some ⟨b, off, none⟩) rs.length cap] 30) = w1 at *
  clear k0 k1 k2 e26
  go_cut [5] (fun s wx => ∃ g c, s = .slice (some ⟨g, 0, none⟩) 64 c ∧ OwnB wx w.heap.size 5 s (revB q (rs.take k)) ∧ Chg 0 0 w1 wx)
  case first =>
    have HS : Hid ((fun w' : World => w'.heap[w.heap.size]? = some (.cells #[.int .i64 q, .slice po hs.length pcap, .slice (some ⟨b, off, none⟩) rs.length cap] 30 (0, 0))) w1.drew) := HB0.out
    refine held_region (fun w' : World => w'.heap[w.heap.size]? = some (.cells #[.int .i64 q, .slice po hs.length pcap, .slice (some ⟨b, off, none⟩) rs.length cap] 30 (0, 0))) (by kernel_rfl) ?_
    refine held_take 0 (.pointer (some ⟨w.heap.size, 0, none⟩)) rfl (by kernel_rfl) (by kernel_rfl) (by kernel_rfl) (fun _ _ _ h => h) (.inl ⟨by kernel_rfl, fun w' hw' => by go_simp⟩) HS.out ?_
    go_simp
    refine held_take 1 (.int .i64 q) rfl (by kernel_rfl) (by kernel_rfl) (by kernel_rfl) (fun _ _ _ h => h) (.inl ⟨by kernel_rfl, fun w' hw' => by obtain ⟨⟨q0, q1, q2⟩, _⟩ := tri hw'; go_simp⟩) HS.out ?_
    go_simp
    refine held_take 2 (.pointer (some ⟨w.heap.size, 2, none⟩)) rfl (by kernel_rfl) (by kernel_rfl) (by kernel_rfl) (fun _ _ _ h => h) (.inl ⟨by kernel_rfl, fun w' hw' => by go_simp⟩) HS.out ?_
    go_simp
    refine held_take 3 (.slice (some ⟨b, off, none⟩) rs.length cap) rfl (by kernel_rfl) (by kernel_rfl) (by kernel_rfl) (fun _ _ _ h => h) (.inl ⟨by kernel_rfl, fun w' hw' => by obtain ⟨⟨q0, q1, q2⟩, _⟩ := tri hw'; go_simp⟩) HS.out ?_
    go_simp
    refine held_take 4 (.int .i64 (k : Int)) rfl (by kernel_rfl) (by kernel_rfl) (by kernel_rfl) (fun _ _ _ h => h) (.inl ⟨by kernel_rfl, fun w' hw' => by go_simp⟩) HS.out ?_
    go_simp
    refine held_take 5 (.slice (some ⟨b, off, none⟩) k cap) rfl (by kernel_rfl) (by kernel_rfl) (by kernel_rfl) (fun _ _ _ h => h) (.inl ⟨by kernel_rfl, fun w' hw' => by go_simp⟩) HS.out ?_
    go_simp
    refine held_take 6 (.agg #[.int .i64 q, .slice (some ⟨b, off, none⟩) k cap]) rfl (by kernel_rfl) (by kernel_rfl) (by kernel_rfl) (fun _ _ _ h => h) (.inl ⟨by kernel_rfl, fun w' hw' => by go_simp⟩) HS.out ?_
    go_simp
    have HC1 : Hid _ := HC0.out.drew
    have HC11 : Hid _ := Chg.drew (Chg.refl 0 0 w1)
    generalize w1.drew = w2 at *
    refine held_one 7 rfl rfl (by kernel_rfl) ?_
    refine wp_enter 31 #[.agg #[.int .i64 q, .slice (some ⟨b, off, none⟩) k cap]] (by first | kernel_rfl | go_simp) (HREV.out w2 HC1.out) ?_
    rintro e w3 ⟨v3, rfl, o3, h3⟩
    have s2 := HC11.out.size
    have HS3 : Hid ((fun w' : World => w'.heap[w.heap.size]? = some (.cells #[.int .i64 q, .slice po hs.length pcap, .slice (some ⟨b, off, none⟩) rs.length cap] 30 (0, 0))) w3) := (h3.block _ (by omega) (by omega)).trans HS.out
    have HO3 : Hid (OwnB w3 w.heap.size 5 v3 (revB q (rs.take k))) := o3.base (fun g hg => by have := (o3.lt g hg).1; omega)
    obtain ⟨g3, c3, rfl⟩ := o3.some_of (by rw [HRl.out]; omega)
    rw [HRl.out] at HO3 ⊢
    have HC3 : Hid _ := HC11.out.trans h3
    refine ⟨_, rfl, HS3.out, ?_⟩
    clear o3 h3
    go_simp
    refine held_one 8 rfl rfl (by kernel_rfl) ?_
    go_simp
    refine ⟨HS3.out, ?_⟩
    refine held_done (by kernel_rfl) (NoPanic.normal ?_)
    go_wp2
    go_meet
    exact ⟨_, _, rfl, HO3.out, HC3.out⟩
  case rest =>
    obtain ⟨g, gc, rfl, ho, hc⟩ := hcut
    generalize wc = w4 at *
    have HC4 : Hid _ := HC0.out.trans hc
    have HB4 : Hid _ := (hc.block _ (by omega) (by omega)).trans HB0.out
    have HO4 : Hid (OwnB w4 w.heap.size 5 (.slice (some ⟨g, 0, none⟩) 64 gc) (revB q (rs.take k))) := ho
    have s4 := hc.size
    clear ho hc HB0 HC0
    go_wp2
    have HS : Hid ((fun w' : World => w'.heap[w.heap.size]? = some (.cells #[.int .i64 q, .slice po hs.length pcap, .slice (some ⟨b, off, none⟩) rs.length cap] 30 (0, 0))) w4.drew) := HB4.out
    refine held_region (fun w' : World => w'.heap[w.heap.size]? = some (.cells #[.int .i64 q, .slice po hs.length pcap, .slice (some ⟨b, off, none⟩) rs.length cap] 30 (0, 0))) (by kernel_rfl) ?_
    refine held_take 0 (.slice (some ⟨g, 0, none⟩) 64 gc) rfl (by kernel_rfl) (by kernel_rfl) (by kernel_rfl) (fun _ _ _ h => h) (.inl ⟨by kernel_rfl, fun w' hw' => by go_simp⟩) HS.out ?_
    go_simp
    refine held_take 1 (.pointer (some ⟨w.heap.size, 0, none⟩)) rfl (by kernel_rfl) (by kernel_rfl) (by kernel_rfl) (fun _ _ _ h => h) (.inl ⟨by kernel_rfl, fun w' hw' => by go_simp⟩) HS.out ?_
    go_simp
    refine held_take 2 (.int .i64 q) rfl (by kernel_rfl) (by kernel_rfl) (by kernel_rfl) (fun _ _ _ h => h) (.inl ⟨by kernel_rfl, fun w' hw' => by obtain ⟨⟨q0, q1, q2⟩, _⟩ := tri hw'; go_simp⟩) HS.out ?_
    go_simp
    refine held_take 3 (.pointer (some ⟨w.heap.size, 1, none⟩)) rfl (by kernel_rfl) (by kernel_rfl) (by kernel_rfl) (fun _ _ _ h => h) (.inl ⟨by kernel_rfl, fun w' hw' => by go_simp⟩) HS.out ?_
    go_simp
    refine held_take 4 (.slice po hs.length pcap) rfl (by kernel_rfl) (by kernel_rfl) (by kernel_rfl) (fun _ _ _ h => h) (.inl ⟨by kernel_rfl, fun w' hw' => by obtain ⟨⟨q0, q1, q2⟩, _⟩ := tri hw'; go_simp⟩) HS.out ?_
    go_simp
    refine held_take 5 (.pointer (some ⟨w.heap.size, 2, none⟩)) rfl (by kernel_rfl) (by kernel_rfl) (by kernel_rfl) (fun _ _ _ h => h) (.inl ⟨by kernel_rfl, fun w' hw' => by go_simp⟩) HS.out ?_
    go_simp
    refine held_take 6 (.slice (some ⟨b, off, none⟩) rs.length cap) rfl (by kernel_rfl) (by kernel_rfl) (by kernel_rfl) (fun _ _ _ h => h) (.inl ⟨by kernel_rfl, fun w' hw' => by obtain ⟨⟨q0, q1, q2⟩, _⟩ := tri hw'; go_simp⟩) HS.out ?_
    go_simp
    refine held_take 7 (.int .i64 (k : Int)) rfl (by kernel_rfl) (by kernel_rfl) (by kernel_rfl) (fun _ _ _ h => h) (.inl ⟨by kernel_rfl, fun w' hw' => by go_simp⟩) HS.out ?_
    go_simp
    refine held_take 8 (.slice ad (rs.length - k) (cap - k)) rfl (by kernel_rfl) (by kernel_rfl) (by kernel_rfl) (fun _ _ _ h => h) (.inl ⟨by kernel_rfl, fun w' hw' => by go_simp⟩) HS.out ?_
    go_simp
    refine held_take 9 (.agg #[.int .i64 q, .slice po hs.length pcap, .slice ad (rs.length - k) (cap - k)]) rfl (by kernel_rfl) (by kernel_rfl) (by kernel_rfl) (fun _ _ _ h => h) (.inl ⟨by kernel_rfl, fun w' hw' => by go_simp⟩) HS.out ?_
    go_simp
    have HC5 : Hid _ := HC4.out.drew
    have HO5 : Hid (OwnB w4.drew w.heap.size 5 (.slice (some ⟨g, 0, none⟩) 64 gc) (revB q (rs.take k))) := HO4.out.chg (Chg.drew (Chg.refl 0 0 w4)) (by intro g _; omega)
    have s5 : w.heap.size < w4.drew.heap.size := by show _ < w4.heap.size; omega
    generalize w4.drew = w5 at *
    clear HC4 HO4 HB4
    refine held_one 10 rfl rfl (by kernel_rfl) ?_
    refine wp_enter 19 #[.agg #[.int .i64 q, .slice po hs.length pcap, .slice ad (rs.length - k) (cap - k)]] (by first | kernel_rfl | go_simp) (HREC.out w5 _ HC5.out (HVd.out w5 HC5.out)) ?_
    rintro e w6 ⟨g6, c6, rfl, o6, h6⟩
    have HS6 : Hid ((fun w' : World => w'.heap[w.heap.size]? = some (.cells #[.int .i64 q, .slice po hs.length pcap, .slice (some ⟨b, off, none⟩) rs.length cap] 30 (0, 0))) w6) := (h6.block _ (by omega) (by omega)).trans HS.out
    have HC6 : Hid _ := HC5.out.trans h6
    have s6 := h6.size
    have HV6 : Hid (View w6 w5.heap.size w6.heap.size .u8 (.slice (some ⟨g6, 0, none⟩) (64 * (BL q hs (rs.drop k)).length) c6) (BL q hs (rs.drop k)).flatten) := o6.view (by rw [HFl.out]; omega) (fun g hg => (o6.lt g hg).2)
    have HO6 : Hid (OwnB w6 w.heap.size 5 (.slice (some ⟨g, 0, none⟩) 64 gc) (revB q (rs.take k))) := HO5.out.chg h6 (by intro g _; omega)
    have HVa : Hid (View w6 w.heap.size w6.heap.size .u8 (.slice (some ⟨g, 0, none⟩) 64 gc) (revB q (rs.take k))) := HO6.out.view (by rw [HRl.out]; omega) (fun g hg => (HO6.out.lt g hg).2)
    refine ⟨_, rfl, HS6.out, ?_⟩
    clear o6 h6 HO5 HS HC5
    go_simp
    have hN := l2Join_any (xs := revB q (rs.take k)) (ys := (BL q hs (rs.drop k)).flatten) w6 (by rw [HRl.out]; omega) (by rw [HFl.out]; omega) HVa.out HV6.out
    refine held_one 11 rfl rfl (by kernel_rfl) ?_
    refine wp_enter 21 #[.slice (some ⟨g, 0, none⟩) 64 gc, .slice (some ⟨g6, 0, none⟩) (64 * (BL q hs (rs.drop k)).length) c6] (by first | kernel_rfl | go_simp) hN ?_
    rintro e w7 ⟨v7, rfl, o7, h7⟩
    have HS7 : Hid _ := (h7.block _ (by omega) (by omega)).trans HS6.out
    have HC7 : Hid _ := HC6.out.trans h7
    have hlen7 : (revB q (rs.take k) ++ (BL q hs (rs.drop k)).flatten).length = 64 * (BL q hs rs).length := by rw [HBL.out, List.length_append, HRl.out, HFl.out, List.length_cons]; omega
    obtain ⟨g7, c7, rfl⟩ := o7.some_of (by rw [hlen7, HBL.out, List.length_cons]; omega)
    rw [hlen7] at o7 ⊢
    have HO7 : Hid (OwnB w7 w.heap.size 5 (.slice (some ⟨g7, 0, none⟩) (64 * (BL q hs rs).length) c7) (BL q hs rs).flatten) := by
      have e : (BL q hs rs).flatten = revB q (rs.take k) ++ (BL q hs (rs.drop k)).flatten := by rw [HBL.out, List.flatten_cons]
      show OwnB _ _ _ _ _
      rw [e]
      exact o7.base (fun g hg => by have := (o7.lt g hg).1; omega)
    refine ⟨_, rfl, HS7.out, ?_⟩
    clear o7 h7 hN HS6 HC6 hlen7
    go_simp
    refine held_one 12 rfl rfl (by kernel_rfl) ?_
    go_simp
    refine ⟨HS7.out, ?_⟩
    refine held_done (by kernel_rfl) (NoPanic.normal ?_)
    go_wp2
    go_ret
    exact ⟨_, _, rfl, HO7.out, HC7.out⟩

end Go.Proofs.YteligghapkleaaaGreatDoor

namespace Go.Proofs.YteligghapkleaaaGreatDoor
open Go.RowKit Go.Extern.Stop Go.Stop Go.Extern

/-- What the model has for (rtype).Comparable. -/
def cmpOf (f : Func) : Array Value → Sem Value := (Extern.find f).getD (fun _ => pure .nilIface)
end Go.Proofs.YteligghapkleaaaGreatDoor

namespace Go.Proofs.YteligghapkleaaaGreatDoor
open Go.RowKit

/-- What Unescape answers. -/
def unescD (xs : List Int) (esc : Bool) : List Int := if xs.length = 64 ∧ unescB xs esc = true then unescL xs esc else []

theorem unescL_length {xs : List Int} (h : xs.length = 64) (esc : Bool) : (unescL xs esc).length = 64 := by
  unfold unescL
  split
  · simp [mg, h]
  · exact h



end Go.Proofs.YteligghapkleaaaGreatDoor

namespace Go.Proofs.YteligghapkleaaaGreatDoor
open Go.RowKit

theorem View.drop4 {w : World} {lo hi b off cap : Nat} {xs : List Int} (h : View w lo hi .u8 (.slice (some ⟨b, off, none⟩) 64 cap) xs) (hx : xs.length = 64) : View w lo hi .u8 (.slice (some ⟨b, off + 4, none⟩) 60 (cap - 4)) (xs.drop 4) := by
  obtain ⟨_, _, e, _, ⟨hc, _⟩, h⟩ := h
  rw [hx] at e
  cases e
  have hlen : (xs.drop 4).length = 60 := by rw [List.length_drop, hx]
  refine ⟨_, _, by rw [hlen], by rw [hlen]; omega, ⟨by rw [hlen]; omega, by simp⟩, ?_⟩
  rcases h with h | ⟨b', off', ha, h1, h2, h3⟩
  · rw [h] at hx; simp at hx
  · cases ha
    refine Or.inr ⟨b, off + 4, rfl, h1, h2, fun i hi => ?_⟩
    rw [hlen] at hi
    have := h3 (4 + i) (by omega)
    rw [Nat.add_assoc, this]
    simp [List.getD_eq_getElem?_getD, List.getElem?_drop]

end Go.Proofs.YteligghapkleaaaGreatDoor

namespace Go.Proofs.YteligghapkleaaaGreatDoor
open Go.RowKit

/-- What Escape answers. -/
def escD (xs : List Int) : List Int := if xs.length = 64 then escL xs else []
def escG (xs : List Int) : Bool := decide (xs.length = 64)
def escE (xs : List Int) : Bool := decide (xs.length = 64) && decide (xs.take 4 = mg)

theorem escD_length (xs : List Int) : (escD xs).length ≤ 64 := by
  unfold escD
  split
  · rename_i h; rw [escL_length h]; exact Nat.le_refl _
  · simp

theorem three_all' {w : World} {s : Nat} {a b c : Value} {t : TypeId} (h : w.heap[s]? = some (.cells #[a, b, c] t (0, 0))) :
    (w.cell? ⟨s, 0, none⟩ = some a ∧ w.cell? ⟨s, 1, none⟩ = some b ∧ w.cell? ⟨s, 2, none⟩ = some c) ∧ w.frozen? ⟨s, 0, none⟩ = false ∧ w.frozen? ⟨s, 1, none⟩ = false ∧ w.frozen? ⟨s, 2, none⟩ = false := by
  simp [World.cell?, World.frozen?, h]

end Go.Proofs.YteligghapkleaaaGreatDoor
