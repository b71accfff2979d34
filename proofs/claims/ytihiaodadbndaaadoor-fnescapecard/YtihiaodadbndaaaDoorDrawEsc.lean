/- The model's DrawEscape. -/
import Derived.Test.YtihiaodadbndaaaDoorDrawFillD
import Derived.Test.YtihiaodadbndaaaDoorViewStr
namespace Go.Proofs.YtihiaodadbndaaaDoor
open Go.RowKit

/-- What DrawEscape draws. -/
def drawEsc (code : List Int) : List Int := if (nxt code (fillK code 0) 9 == 0) then (fillL code 0).take 63 else fillL code 0

set_option maxRecDepth 20000 in
set_option maxHeartbeats 1000000 in
theorem drawEscape_calls (w : World) {lo hi : Nat} {cv : Value} {code : List Int} (hB : Byt code) (hcl : code.length ≤ 1048576) (hc : View w lo hi .u8 cv code) (hhi : hi ≤ w.heap.size) :
    Calls Tryd.prog 4 #[cv] w fun e w' => ∃ v, e = .returned v ∧ (∃ g cap, 64 ≤ cap ∧ v = .slice (some ⟨g, 0, none⟩) (drawEsc code).length cap) ∧ Byt (drawEsc code) ∧ ((drawEsc code).length = 63 ∨ (drawEsc code).length = 64) ∧ View w' w.heap.size w'.heap.size .u8 v (drawEsc code) ∧ Chg 0 0 w w' := by
  have v0 := hc
  obtain ⟨ao, cap, rfl, hl, _, _⟩ := hc
  have hfk : fillK code 0 ≤ 5 := by unfold fillK; split <;> omega
  go_enter Tryd.func4, Tryd.ntmps4
  go_wp2_with fail
  refine (l1Source_calls _ ao code.length cap hl).mono ?_
  rintro e w1 ⟨rfl, s1, c1⟩
  have v1 := v0.chg c1 (by omega)
  go_wp2_with fail
  refine (l1Fill_det _ w.heap.size 0 _ hB hcl (by omega) s1 v1 (Or.inr hhi)).mono ?_
  rintro e w2 ⟨g, gc, rfl, hY, hYl, ho, s2, c2⟩
  have v2 := v1.chg c2 (by omega)
  have C2 : Chg 0 0 w w2 := c1.step c2 (Or.inr (Or.inl (Nat.le_refl _)))
  have zp : w.heap.size < w2.heap.size := (Array.getElem?_eq_some_iff.1 s2).1
  have z1 : w.heap.size < w1.heap.size := (Array.getElem?_eq_some_iff.1 s1).1
  rw [Nat.zero_add] at s2
  have hN := l1Chance_calls _ w.heap.size (fillK code 0) _ 9 (by omega) hB hcl (by omega) s2 v2 (Or.inr hhi)
  have HF : Hid (drawEsc code = if (nxt code (fillK code 0) 9 == 0) then (fillL code 0).take 63 else fillL code 0) := rfl
  generalize fillL code 0 = ys at *
  generalize (nxt code (fillK code 0) 9 == 0) = q at *
  generalize fillK code 0 = fk at *
  have hgb := ho.lt g rfl
  clear s1 v1 c1 c2 v2 s2
  go_wp2_with fail
  refine hN.mono ?_
  rintro e w3 ⟨rfl, s3, c3⟩
  clear hN
  have ho3 := ho.chg c3 (fun g' hg' => by cases hg'; right; show w.heap.size + 1 ≤ g; omega)
  have C3 : Chg 0 0 w w3 := C2.step c3 (Or.inr (Or.inl (Nat.le_refl _)))
  have hv := ho3.view (hi := w3.heap.size) (by omega) (fun g hg => (ho3.lt g hg).2)
  have hv := hv.mono (lo' := w.heap.size) (by omega) (Nat.le_refl _)
  have hcap : 64 ≤ gc := by
    obtain ⟨_, _, e, _, ⟨h, _⟩, _⟩ := hv
    simp only [Value.slice.injEq] at e
    omega
  have HV : Hid (View w3 w.heap.size w3.heap.size .u8 (.slice (some ⟨g, 0, none⟩) 64 gc) ys) := hv
  have HC : Hid (Chg 0 0 w w3) := C3
  have HYB : Hid (Byt ys) := hY
  have HYl : Hid (ys.length = 64) := hYl
  have hc63 : 63 ≤ gc := by omega
  clear hv ho ho3 C2 C3 c3 s3 hY hYl
  cases q
  · have HE : drawEsc code = ys := HF.out
    go_wp2
    go_ret
    rw [HE]
    exact ⟨_, rfl, ⟨g, gc, hcap, by rw [HYl.out]; rfl⟩, HYB.out, Or.inr HYl.out, HV.out, HC.out⟩
  · have HE : drawEsc code = ys.take 63 := HF.out
    have hl63 : (ys.take 63).length = 63 := by rw [List.length_take, HYl.out]; rfl
    have HV63 : Hid (View w3 w.heap.size w3.heap.size .u8 (.slice (some ⟨g, 0, none⟩) 63 gc) (ys.take 63)) := HV.out.take 63 (by rw [HYl.out]; omega)
    have Hl63 : Hid ((ys.take 63).length = 63) := hl63
    clear hl63
    go_wp2
    go_ret
    rw [HE]
    exact ⟨_, rfl, ⟨g, gc, hcap, by rw [Hl63.out]; rfl⟩, HYB.out.take 63, Or.inl Hl63.out, HV63.out, HC.out⟩

end Go.Proofs.YtihiaodadbndaaaDoor
