/- A log as a value; eqLog. (split off LogTail) -/
import Derived.Test.YtlpgghooikedoaaLogValid
import Derived.Test.YtlpgghooikedoaaFive
namespace Go.Proofs.Ytlpgghooikedoaa
open Go.RowKit

/-- A log as a value. -/
abbrev logV (sz st sq hd us : Int) : Value := .agg #[.int .i64 sz, .int .i64 st, .int .i64 sq, .int .i64 hd, .int .i64 us]
abbrev logO (t : TypeId) (sz st sq hd us : Int) : Obj := .cells #[.int .i64 sz, .int .i64 st, .int .i64 sq, .int .i64 hd, .int .i64 us] t

set_option maxRecDepth 20000 in
set_option maxHeartbeats 2000000 in
theorem eqLog_calls (w : World) (sz st sq hd us : Int) :
    Calls Try.prog 7 #[logV sz st sq hd us, logV sz st sq hd us] w fun e w' => e = .returned (.bool true) ∧ Chg 0 0 w w' := by
  have hA : Chg 0 0 w ((w.alloc (logO 24 sz st sq hd us)).alloc (logO 24 sz st sq hd us)) := (Chg.alloc (Chg.refl 0 0 w) _).alloc _
  go_enter Try.func7, Try.ntmps7
  go_wp2
  go_ret
  exact ⟨rfl, hA⟩

end Go.Proofs.Ytlpgghooikedoaa
