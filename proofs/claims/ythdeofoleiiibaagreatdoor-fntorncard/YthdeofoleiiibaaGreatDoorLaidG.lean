import Derived.Test.YthdeofoleiiibaaGreatDoorPutByt
import Derived.ChangeSame
import Derived.ChangeVars
import Derived.OpenShut
import Derived.OpenVars
import Derived.JoinedOf
import Derived.LaidLaws
import Derived.LaidHandle
import Derived.Stop.LaidErr
import Derived.Stop.Joined
namespace Go.Proofs.YthdeofoleiiibaaGreatDoor
open Go.ChangeShapes Go.WideShapes Go.RowKit
variable {W:World}
theorem mu:Tryz.prog.globalNamed "errors.errorType" =some 3:=zl
theorem mw:(Tryz.prog.cutTypes.find? (·.1== "internal/reflectlite.rtype")).map (·.2)=some 289:=zl
theorem fp:((List.range 344).filter fun t=>Tryz.prog.rowNamed t [101,114,114,111,114])= [211]:=zl
theorem kU:Tryz.prog.types.size=344:=zl
theorem dG: "*" ++ "errors.errorString" = "*errors.errorString" :=zp
theorem mf (u:TypeId)(h:Tryz.prog.typeName? 3 u=some "*errors.errorString"):u=310:=
 typeName_ptr_named (nm:= "errors.errorString") (by rw[dG];kernel_rfl) zl zp u (by rw[dG];exact h)
theorem K5 {hs:List (String×DataW Unit)}(h:handlesMet Tryz.prog hs W)(l:("errors.errorType",Rows.laid_errors_errorType)∈hs):ZY W:=by
 have d:=h _ l;simp only at d;obtain⟨b,u,m,e,f,g,i,c⟩:=d;have j:b= [101,114,114,111,114]:=(pC e).symm;subst j;obtain rfl:=pC (mw.symm.trans f);have a:m∈(List.range 344).filter fun t=>Tryz.prog.rowNamed t [101,114,114,111,114]:=List.mem_filter.2 ⟨pq.2 (by rw[←kU];exact g),i⟩;rw[fp] at a;obtain rfl:=nx.1 a;have k:typeHandle Tryz.prog 211= .pointer (some ⟨8,211,none⟩):=zl;rw[k] at c;simpa [ZY] using World.var?_cell mu c 0
theorem JO {n:String}{text:List UInt8}{r:List (String×DataW Unit)}{g:Nat}(h:laidMet Tryz.prog ((n,.iface "*errors.errorString" (.ptr (.agg [.lit (.string text)])))::r) W)
  (b:Tryz.prog.globalNamed n=some g) (c:(Tryz.prog.globals[g]?).map (·.type)=some 211): ∃a,W.cell? ⟨g,0,none⟩=some (.iface 310 (.pointer (some a))):=by
 obtain⟨a,s,d,_⟩:=laid_sentinel h b c Tryz.underlying211 mf Tryz.underlying310 Tryz.underlying332 rfl rfl Tryz.underlying9 zl zl;exact⟨a,by simpa using World.var?_cell b d 0⟩
theorem UP {r:List (String×DataW Unit)}(h:laidMet Tryz.prog (("loop.example/s01525/impl.journalMagic",.agg [.lit (.int .u8 106),.lit (.int .u8 108),.lit (.int .u8 111),.lit (.int .u8 103)])::r) W):
  W.cell? ⟨0,0,none⟩=some (.int .u8 106)∧W.cell? ⟨0,1,none⟩=some (.int .u8 108)∧W.cell? ⟨0,2,none⟩=some (.int .u8 111)∧W.cell? ⟨0,3,none⟩=some (.int .u8 103):=by
 obtain⟨ps,⟨y,D,c,w,B,C,d,g,j,f,_,_⟩,_,_⟩:=h;have p:Tryz.prog.globalNamed "loop.example/s01525/impl.journalMagic" =some 0:=zl;obtain rfl:=pC (p.symm.trans d);have s:(Tryz.prog.globals[(0:Nat)]?).map (·.type)=some 144:=zl;obtain rfl:=pC (s.symm.trans g);obtain⟨xs,m,_,t,z,A,hi⟩:=DataW.trod_array Tryz.underlying144 f;have l:Tryz.prog.cellsOf 5=1:=zl;rw[l] at hi;simp only[Nat.mul_one] at hi;have e:(xs.map (·.1))= [.lit (.int .u8 106),.lit (.int .u8 108),.lit (.int .u8 111),.lit (.int .u8 103)]:=by
  have:=congrArg Prod.fst t;simpa using this.symm
 have b: ∀i n,i<4→(xs.map (·.1))[i]?=some (.lit (.int .u8 n))→c[i]?=some (.int .u8 n):=by
  intro i n u a;rw[nU] at a
  cases hxe:xs[i]? with
  |none=>rw[hxe] at a;cases a
  |some x=>
   rw[hxe] at a;have h1:=hi i u;rw[hxe] at h1;obtain⟨k,q,o,_⟩:=DataW.trod_int Tryz.underlying5 h1;simp only[Option.map_some,nS] at a;rw[o] at a;simp only[DataW.lit.injEq,Lit.int.injEq,true_and] at a;have h0:((c.toList.drop i).take 1)[0]?=some (.int .u8 k):=by rw[q];rfl
   rw[oA,mM zk,oQ,oF,Array.getElem?_toList] at h0;rw[h0,a]
 have v:=fun i=>World.var?_cell d j i;refine⟨?_,?_,?_,?_⟩
 ·rw[v 0];exact b 0 106 zk (by rw[e];rfl)
 ·rw[v 1];exact b 1 108 zk (by rw[e];rfl)
 ·rw[v 2];exact b 2 111 zk (by rw[e];rfl)
 ·rw[v 3];exact b 3 103 zk (by rw[e];rfl)
end Go.Proofs.YthdeofoleiiibaaGreatDoor
