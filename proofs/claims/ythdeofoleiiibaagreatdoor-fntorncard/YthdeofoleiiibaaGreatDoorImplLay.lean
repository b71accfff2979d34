import Derived.Test.YthdeofoleiiibaaGreatDoorHeldW
namespace Go.Proofs.YthdeofoleiiibaaGreatDoor
open Go.RowKit Go.Shelf
attribute [local go_sem] Oper.semAt_some
def XJ (ys:List Int) (x:Nat):List Int:=(ys.drop (64*x)).take 64
section
variable{P:Program} {n l:Nat} {ops:Array Oper} {Q:Exit→Act→World→Prop}
end
attribute [local go_sem] oq
theorem Yn {ys:List Int}{K x:Nat}(a:ys.length=64*K)(b:x<K):(XJ ys x).length=64:=by unfold XJ;rw[mW,m8];omega
end Go.Proofs.YthdeofoleiiibaaGreatDoor
