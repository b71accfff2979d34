import Derived.Test.YtacjklochmelfaaGreatDoorImplPcs
import Derived.Deep.MidRow
import Derived.Test.YtacjklochmelfaaGreatDoorImplAhead
import Derived.Test.YtacjklochmelfaaGreatDoorCells2
namespace Go.Proofs.YtacjklochmelfaaGreatDoor
open Go.RowKit Go.Shelf
attribute [local go_sem] Oper.semAt_some
def JA (ys:List Int) (x:Nat):List Int:=(ys.drop (64*x)).take 64
section
variable{P:Program} {n l:Nat} {ops:Array Oper} {Q:Exit→Act→World→Prop}
end
attribute [local go_sem] Oper.semAt_some
theorem Xa {ys:List Int}{K x:Nat}(hl:ys.length=64*K)(hx:x<K):(JA ys x).length=64:=by unfold JA;rw[List.length_take,List.length_drop];omega
end Go.Proofs.YtacjklochmelfaaGreatDoor
