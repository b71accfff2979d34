import Derived.Test.YthdeofoleiiibaaGreatDoorLawTorn2
import Derived.Test.YthdeofoleiiibaaGreatDoorTie
import Derived.Test.YthdeofoleiiibaaGreatDoorCards
namespace Go.Proofs.YthdeofoleiiibaaGreatDoor
open Go
theorem fnTorn_holds:Rows.FnTornCardSaid:=
 Claim7.holds_tied_plain_at .later [] [.handle,.sentinel,.sentinel,.sentinel,.sentinel,.sentinel,.data] true (true,"7053dbbd2234dd679fda27bf47875d2901a968baecb136098c7e4c9fe7aea802") true
  VG (fun _ h=>by cases h) zl (fun _ h=>by cases h) fnTorn_row_tie rfl ⟨rfl,rfl⟩ zl rfl
  (fun f fn c b=>by
   obtain rfl:f=3:=pC ((show Tryz.prog.funcNamed "loop.example/s01525/laws.FnTorn" =some 3 by kernel_rfl).symm.trans c)|>.symm
   obtain rfl:fn=Tryz.f3:=(pC (Tryz.func3.symm.trans b)).symm
   exact⟨zl,fun j t a=>by
    rw[Tryz.params3] at a
    have h3:t=22:=by
     rcases j with _|_|j
     ·simpa using a.symm
     ·simpa using a.symm
     ·simp at a
    subst h3
    exact(show Tryz.prog.wantsStandIn 22=false by kernel_rfl)⟩)
  zl
#print axioms fnTorn_holds
end Go.Proofs.YthdeofoleiiibaaGreatDoor
