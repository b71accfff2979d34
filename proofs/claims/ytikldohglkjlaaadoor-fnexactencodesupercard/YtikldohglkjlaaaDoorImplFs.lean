/- EncodeSuper of the program. -/
import Derived.Test.YtikldohglkjlaaaDoorImplSys
import Derived.Test.YtikldohglkjlaaaDoorImplGeo
import Derived.Test.YtikldohglkjlaaaDoorBytesOf
namespace Go.Proofs.YtikldohglkjlaaaDoor
open Go.RowKit

set_option maxRecDepth 20000 in
set_option maxHeartbeats 1000000 in
theorem implEncodeSuper_calls (w : World) (b l n : Int) (hm : SysM w) :
    Calls Tryd.prog 6 #[geoV b l n] w fun e w' => ∃ v, e = .returned v ∧ OwnB w' w.heap.size 5 v (encSup b l n) ∧ Chg 0 0 w w' := by
  have C0 : Chg 0 0 w (w.alloc (.cells #[.int .i64 b, .int .i64 l, .int .i64 n] 26)) := Chg.alloc (Chg.refl 0 0 w) _
  have HB : Hid ((w.alloc (.cells #[.int .i64 b, .int .i64 l, .int .i64 n] 26)).heap[w.heap.size]? = some (.cells #[.int .i64 b, .int .i64 l, .int .i64 n] 26 (0, 0))) := heap_new w _
  have HC : Hid (Chg 0 0 w (w.alloc (.cells #[.int .i64 b, .int .i64 l, .int .i64 n] 26))) := C0
  have s0 : (w.alloc (.cells #[.int .i64 b, .int .i64 l, .int .i64 n] 26)).heap.size = w.heap.size + 1 := by simp
  have hN := implValidGeometry_calls (w.alloc (.cells #[.int .i64 b, .int .i64 l, .int .i64 n] 26)) b l n
  have HM : Hid (SysM w) := hm
  clear C0 hm
  go_enter Tryd.func6, Tryd.ntmps6
  go_wp2_with fail
  generalize w.alloc (.cells #[.int .i64 b, .int .i64 l, .int .i64 n] 26) = w0 at *
  refine hN.mono ?_
  rintro e w1 ⟨rfl, h1⟩
  have HC1 : Hid (Chg 0 0 w w1) := HC.out.trans h1
  have HB1 : Hid (w1.heap[w.heap.size]? = some (.cells #[.int .i64 b, .int .i64 l, .int .i64 n] 26 (0, 0))) := (h1.block _ (by omega) (by omega)).trans HB.out
  clear h1 hN HB HC
  obtain ⟨q0, q1, q2⟩ := trio HB1.out
  by_cases hv : geoB b l n = true
  · have Hx : Hid (encSup b l n = fsL b l n) := if_pos hv
    have hN := fun W (h : Chg 0 0 w W) => systemBlock_calls W b l n (geo_in hv) (HM.out.chg h)
    have hNb := fun W => bytesOf_calls W (fsL b l n) (fsL_len (geo_in hv))
    rw [hv]
    clear hv
    obtain ⟨cs, Hcs⟩ : ∃ cs, Hid ((fsL b l n).map (Value.int .u8) = cs) := ⟨_, rfl⟩
    rw [Hcs.out] at hN hNb
    go_wp2_with fail
    refine (hN _ HC1.out).mono ?_
    rintro e w2 ⟨rfl, h2⟩
    have HC2 : Hid (Chg 0 0 w w2) := HC1.out.trans h2
    clear h2 hN q0 q1 q2
    go_wp2_with fail
    refine (hNb _).mono ?_
    rintro e w3 ⟨g, rfl, o3, h3⟩
    have HC3 : Hid (Chg 0 0 w w3) := HC2.out.trans h3
    have HO : Hid (OwnB w3 w.heap.size 5 (.slice (some ⟨g, 0, none⟩) 64 64) (fsL b l n)) := o3.base (fun g hg => Nat.le_trans HC2.out.size (o3.lt g hg).1)
    clear h3 o3 hNb
    go_wp2
    go_ret
    exact ⟨_, rfl, by rw [Hx.out]; exact HO.out, HC3.out⟩
  · have Hx : Hid (encSup b l n = []) := if_neg hv
    rw [Bool.not_eq_true] at hv
    rw [hv]
    clear hv
    go_wp2
    go_ret
    exact ⟨_, rfl, by rw [Hx.out]; exact ⟨rfl, Or.inl ⟨rfl, rfl⟩⟩, HC1.out⟩

end Go.Proofs.YtikldohglkjlaaaDoor
