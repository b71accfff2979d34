import Derived.Test.YtacjklochmelfaaGreatDoorLawLogged2
import Derived.Test.YtacjklochmelfaaGreatDoorTie
import Derived.Test.YtacjklochmelfaaGreatDoorCards
import Derived.SevenTiedAt
namespace Go.Proofs.YtacjklochmelfaaGreatDoor
open Go
theorem fnLogged_holds:Rows.FnLoggedCardSaid:=
 Claim7.holds_tied_plain_at .later [] [.handle,.sentinel,.sentinel,.sentinel,.sentinel,.sentinel,.data] true (true,"efccb4919e87e42921902040698595781c5cc57c46f31c54f94b929a7f68a8b0") true
  Xe (fun _ h=>by cases h) (by kernel_rfl) (fun _ h=>by cases h) fnLogged_row_tie rfl ⟨rfl,rfl⟩ (by kernel_rfl) rfl
  (fun f fn hf hfn=>by
   obtain rfl:f=3:=Option.some.inj ((show Tryz.prog.funcNamed "loop.example/s01525/laws.FnLogged" =some 3 by kernel_rfl).symm.trans hf)|>.symm
   obtain rfl:fn=Tryz.f3:=(Option.some.inj (Tryz.func3.symm.trans hfn)).symm
   exact⟨by kernel_rfl,fun j t ht=>by
    rw[Tryz.params3] at ht
    have h3:t=22:=by
     rcases j with _|_|j
     ·simpa using ht.symm
     ·simpa using ht.symm
     ·simp at ht
    subst h3
    exact(show Tryz.prog.wantsStandIn 22=false by kernel_rfl)⟩)
  (by kernel_rfl)
#print axioms fnLogged_holds
end Go.Proofs.YtacjklochmelfaaGreatDoor
