/- newHeader of the program. -/
import Derived.Test.YthaenahmdnhglaaGreatDoorOpenBlk
import Derived.Test.YthaenahmdnhglaaGreatDoorRows
namespace Go.Proofs.YthaenahmdnhglaaGreatDoor
open Go.RowKit

set_option maxRecDepth 20000 in
set_option maxHeartbeats 1000000 in
theorem newHeader_calls (w : World) (kd it sq : Int) (m0 : w.cell? ⟨0, 0, none⟩ = some (.int .u8 106)) (m1 : w.cell? ⟨0, 1, none⟩ = some (.int .u8 108)) (m2 : w.cell? ⟨0, 2, none⟩ = some (.int .u8 111)) (m3 : w.cell? ⟨0, 3, none⟩ = some (.int .u8 103)) :
    Calls Tryz.prog 36 #[.int .i64 kd, .int .i64 it, .int .i64 sq] w fun e w' => e = .returned (.agg #[.int .u8 106, .int .u8 108, .int .u8 111, .int .u8 103, .int .i64 kd, .int .i64 it, .int .i64 sq]) ∧ Chg 0 0 w w' := by
  have C0 : Chg 0 0 w (w.alloc (.cells #[.int .u8 0, .int .u8 0, .int .u8 0, .int .u8 0, .int .i64 0, .int .i64 0, .int .i64 0] 53)) := Chg.alloc (Chg.refl 0 0 w) _
  have n0 := C0.cell m0 (by omega)
  have n1 := C0.cell m1 (by omega)
  have n2 := C0.cell m2 (by omega)
  have n3 := C0.cell m3 (by omega)
  have HC : Hid (Chg 0 0 w (w.alloc (.cells #[.int .u8 106, .int .u8 108, .int .u8 111, .int .u8 103, .int .i64 kd, .int .i64 it, .int .i64 sq] 53))) := Chg.alloc (Chg.refl 0 0 w) _
  clear C0
  go_enter Tryz.func36, Tryz.ntmps36
  go_wp2
  exact bodyPost_ret (v := .agg #[.int .u8 106, .int .u8 108, .int .u8 111, .int .u8 103, .int .i64 kd, .int .i64 it, .int .i64 sq]) (by simp [results, Tryz.results36, go_sem]) rfl ⟨rfl, HC.out⟩

end Go.Proofs.YthaenahmdnhglaaGreatDoor
