import Derived.ProofKit
import Derived.Carry
import Derived.ChangeOld
import Derived.Below
import Derived.Test.YthdeofoleiiibaaGreatDoorLawTorn
import Derived.Test.YthdeofoleiiibaaGreatDoorLaidG
import Derived.HandedShaped
namespace Go.Proofs.YthdeofoleiiibaaGreatDoor
open Go.ChangeShapes Go.WideShapes Go.ChangeAt Go.RowKit
set_option maxRecDepth 100000
set_option maxHeartbeats 16000000
variable {W:World}
theorem own:ownKnob Tryz.prog.godebug=none:=zl
theorem laidOut:laidOutB Tryz.prog=true:=zl
theorem JT {H:Type}{enc:TypeId×Value→H}{fuel t e:Nat}{k:IntKind}{v:Value}{x:DataW H×List MemPlace}(p:Tryz.prog.underlying t=some (.slice e))(n:Tryz.prog.underlying e=some (.int k))(m:Tryz.prog.cellsOf e=1)
  (h:DataW.trod enc Tryz.prog W 0 (fun _=>true) true fuel t [v]=some x): ∃xs,zC W 0 W.heap.size k v xs∧ ∀x∈xs,(Lit.int k x).wf=true:=by
 rcases open_ints p n m h with⟨c,_⟩|⟨a,g,cap,s,c,_,u,o,r,_,d,j⟩
 ·simp at c;subst c;exact⟨[],zC.nil _ _ _ _,zn⟩
 ·simp at c r;subst c;unfold maxLen at o;refine⟨s.take g,⟨some a,cap,by rw[mW,ol zk],by rw[mW];omega,⟨by rw[mW];omega,zn⟩,?_⟩,fun x q=>j x (ot q)⟩;by_cases h0:g=0
  ·left;subst h0;rfl
  ·right;obtain⟨b,l,rfl,f⟩:=ints_at d zk;refine⟨b,l,rfl,mX _,zV (f 0 zk),fun i hi=>?_⟩;rw[mW] at hi;rw[f i zk];simp only[mV,oA];rw[mM zk]
theorem J7 {H:Type}{enc:TypeId×Value→H}{a:Assume}{C:Checked}{os:Os}{f:FuncId}{fn:Func}{s:ChangeSpec}{conds:List PathCond}{apart fresh handsOn again:Bool}{X:World→Array Value→Prop}
  (z: ∀(w w':World) (args:Array Value),w.heap=w'.heap→X w args→X w' args)
  (own:ownKnob C.prog.godebug=none) (g:os.Started) (k:C.prog.inits.idxOf? f=none) (r:C.prog.funcs[f]?=some fn)
  (h: ∃(w:World) (b:Tape) (i:Input),w.os=os∧(w.forCall b i).Shaped C.prog∧i.vars= []∧Input.okWide C.prog (w.forCall b i) .any w.heap.size f i∧
   ((s.pre enc C.prog fn conds apart (w.forCall b i).memory i.args∧X (w.forCall b i).memory i.args)∧sizedMet enc C.prog fn (OpenSpec.ofChange s) apart (w.forCall b i).memory i.args)∧a.holds C.prog (lone (Frame.enter C.prog f i.args .normal) [] (w.forCall b i)))
  (d: ∀(W:World) (base:Nat) (args:Array Value) (o q:List (DataW H)) (c:List MemPlace),
   (∀(j:Nat) t v,fn.params[j]?=some t→args[j]?=some v→Value.okWide C.prog W .any base t v)→DataW.Whole enc C.prog fn.params.toList s.vars apart W args.toList o q c→X W args→W.ShapedOpen C.prog→
   Calls C.prog f args W fun e y=> ∃v,e= .returned v∧s.post enc C.prog fn apart fresh handsOn again W args v y):
  ReturnsInHanded a C os f .any (fun w args=>(s.pre enc C.prog fn conds apart w args∧X w args)∧sizedMet enc C.prog fn (OpenSpec.ofChange s) apart w args) (s.post enc C.prog fn apart fresh handsOn again):=by
 refine returnsInHanded_of_calls own g k h fun w b i _ x _ u m _=>?_;obtain⟨_,_,_,p,l,_,_,_,_,n⟩:=u;obtain rfl:p=fn:=pC (l.symm.trans r);obtain⟨⟨⟨o,q,c,D,_⟩,E⟩,_⟩:=m;refine(d (w.forCall b i) w.heap.size i.args o q c n (DataW.Whole.of_heap (w':=w.forCall b i) (by rfl) D) (z _ _ _ (by rfl) E) x).mono fun e y ⟨v,A,B⟩=>?_;subst A;exact ChangeSpec.post_blind B
abbrev lk:List (String×DataW Unit):=Rows.fnTornRow.laid
theorem iZ (h:laidMetH Tryz.prog lk W):(∃n o m,Za W 310 310 310 n o m)∧ZY W∧Mag W:=by
 have k:laidMet Tryz.prog [("loop.example/s01525/impl.errLength",Rows.laid_loop_example_s01525_impl_errLength),("loop.example/s01525/impl.errMagic",Rows.laid_loop_example_s01525_impl_errMagic),("loop.example/s01525/impl.errKind",Rows.laid_loop_example_s01525_impl_errKind),("loop.example/s01525/impl.errField",Rows.laid_loop_example_s01525_impl_errField),("loop.example/s01525/impl.errBytes",Rows.laid_loop_example_s01525_impl_errBytes),("loop.example/s01525/impl.journalMagic",Rows.laid_loop_example_s01525_impl_journalMagic)] W∧handlesMet Tryz.prog [("errors.errorType",Rows.laid_errors_errorType)] W:=h
 obtain⟨a,l⟩:=k;obtain⟨p,f⟩:=JO (g:=4) a zl zl;obtain⟨q,i⟩:=JO (g:=5) a.tail zl zl;obtain⟨r,j⟩:=JO (g:=1) a.tail.tail zl zl;obtain⟨b,c,d,e⟩:=UP a.tail.tail.tail.tail.tail;exact⟨⟨_,_,_,⟨f,i,j,b,c,d,e⟩⟩,K5 l (nx.2 rfl),⟨b,c,d,e⟩⟩
theorem YY (h:W.ShapedOpen Tryz.prog):8≤W.heap.size:=by
 obtain⟨o,_,a,_⟩:=h.2 8 (pt zl) (pt zl);have:=(zE a);omega
def low (p:Program):Nat:=(World.holding p default ⟨#[],#[],[]⟩).heap.size
def Et (p:Program) (os:Os):World:=
 let w0:=World.holding p os ⟨#[.cells #[.string {data:= #[110,111,116,32,97,115,32,108,111,110,103,32,97,115,32,97,32,98,108,111,99,107]}] 332,.cells #[.string {data:= #[100,111,101,115,32,110,111,116,32,98,101,103,105,110,32,119,105,116,104,32,116,104,101,32,109,97,103,105,99]}] 332,.cells #[.string {data:= #[111,102,32,110,111,32,107,105,110,100,44,32,111,114,32,111,102,32,97,110,111,116,104,101,114,32,111,110,101]}] 332,.cells #[.string {data:= #[97,32,102,105,101,108,100,32,105,115,32,111,117,116,32,111,102,32,105,116,115,32,98,111,117,110,100,115]}] 332,.cells #[.string {data:= #[110,111,116,32,116,104,101,32,98,121,116,101,115,32,116,104,97,116,32,116,101,108,108,32,119,104,97,116,32,105,116,32,116,101,108,108,115]}] 332],#[],[]⟩
 {w0 with heap:=((((((w0.heap.modify 4 fun
   | .cells _ t frozen=> .cells #[.iface 310 (.pointer (some ⟨low p+0,0,none⟩))] t frozen
   |o=>o).modify 5 fun
   | .cells _ t frozen=> .cells #[.iface 310 (.pointer (some ⟨low p+1,0,none⟩))] t frozen
   |o=>o).modify 1 fun
   | .cells _ t frozen=> .cells #[.iface 310 (.pointer (some ⟨low p+2,0,none⟩))] t frozen
   |o=>o).modify 6 fun
   | .cells _ t frozen=> .cells #[.iface 310 (.pointer (some ⟨low p+3,0,none⟩))] t frozen
   |o=>o).modify 2 fun
   | .cells _ t frozen=> .cells #[.iface 310 (.pointer (some ⟨low p+4,0,none⟩))] t frozen
   |o=>o).modify 0 fun
   | .cells _ t frozen=> .cells #[.int .u8 106,.int .u8 108,.int .u8 111,.int .u8 103] t frozen
   |o=>o).modify 3 fun
   | .cells _ t frozen=> .cells #[.iface 289 (.agg #[.pointer (some ⟨8,211,none⟩)])] t frozen
   |o=>o}
theorem UN (os:Os)(args:Array Value):laidMetH Tryz.prog lk ((Et Tryz.prog os).forCall (fun _ _=>0) ⟨#[],args,[]⟩).memory:=
 laidMetH_of_parts (laidMet_of_run (ps:= [.cell 4 0,.cell (low Tryz.prog+0) 0,.cell 5 0,.cell (low Tryz.prog+1) 0,.cell 1 0,.cell (low Tryz.prog+2) 0,.cell 6 0,.cell (low Tryz.prog+3) 0,.cell 2 0,.cell (low Tryz.prog+4) 0,.cell 0 0,.cell 0 1,.cell 0 2,.cell 0 3]) 8 zl zl zl) zl
theorem XB (os:Os)(c:os.Started)(H:Type)(enc:TypeId×Value→H):
  ReturnsInHanded {} Tryz.checked os 3 .any (fun w args=>(Rows.fnTornSpec.pre enc Tryz.prog Tryz.f3 [] false w args∧laidMetH Tryz.prog lk w)∧sizedMet enc Tryz.prog Tryz.f3 (OpenSpec.ofChange Rows.fnTornSpec) false w args)
   (Rows.fnTornSpec.post enc Tryz.prog Tryz.f3 false true false false):=by
 refine J7 (C:=Tryz.checked) (X:=fun w _=>laidMetH Tryz.prog lk w) (fun _ _ _ hh h=>h.of_heap hh) own c zl Tryz.func3
  (ChangeSpec.witness_at (enc:=enc) (C:=Tryz.checked) (os:=os) (X:=fun w _=>laidMetH Tryz.prog lk w) false (Et Tryz.prog os) #[.slice none 0 0,.slice none 0 0] 8 rfl zl zl zl zl zl (UN os _)) ?_
 intro W base args U L l b N hL E;have a: ∀(j:Nat) t v,Tryz.f3.params[j]?=some t→args[j]?=some v→Value.okWide Tryz.prog W .any base t v:=b;have A:=N;obtain⟨p,q,g,i,rfl,aa,ab⟩:=N;have M:DataW.TrodAll enc Tryz.prog W 0 (fun _=>true) true Tryz.f3.params.toList args.toList U p:=g;rw[Tryz.params3] at M a;obtain⟨Q,ac,d0,V,p0,q0,B,rfl,rfl,h0,r0⟩:=trodAll_cons M;obtain⟨R,ad,d1,Y,p1,q1,rfl,rfl,rfl,h1,r1⟩:=trodAll_cons r0
 obtain⟨rfl,rfl,rfl⟩:=trodAll_nil r1;obtain rfl:args= #[Q,R]:=by cases args;simp_all
 have O:=h0;have P:=h1;have J: ∀x∈p0,x.block<W.heap.size:=by obtain⟨m,f⟩:=O;exact DataW.trod_lt m _ _ _ f
 have K: ∀x∈p1,x.block<W.heap.size:=by obtain⟨m,f⟩:=P;exact DataW.trod_lt m _ _ _ f
 obtain⟨ka,kl,G,rfl⟩:=okWide_slice Tryz.underlying22 (a 0 22 Q rfl rfl);obtain⟨F,I,k,rfl⟩:=okWide_slice Tryz.underlying22 (a 1 22 R rfl rfl);obtain⟨xs,hx,T⟩: ∃xs,zC W 0 W.heap.size .u8 (.slice ka kl G) xs∧ ∀x∈xs,(Lit.int .u8 x).wf=true:=by obtain⟨m,f⟩:=h0;exact JT Tryz.underlying22 Tryz.underlying5 zl f
 obtain⟨ms,f,S⟩: ∃xs,zC W 0 W.heap.size .u8 (.slice F I k) xs∧ ∀x∈xs,(Lit.int .u8 x).wf=true:=by obtain⟨m,f⟩:=h1;exact JT Tryz.underlying22 Tryz.underlying5 zl f
 obtain⟨⟨vL,vM,vK,hG⟩,Z,hM⟩:=iZ hL;have z:=YY E;obtain⟨n,o,r,s,u,y,rfl⟩: ∃n o r s u y,L= [n,o,r,s,u,y]:=by
  match L,i with
  | [n,o,r,s,u,y],_=>exact⟨n,o,r,s,u,y,rfl⟩
 clear g b;refine(E7 (Ee T) (Ee S) hx f nlR hG Z hM z).mono fun e W' ⟨he,D⟩=>?_;have d:=D.below (Or.inl (mP 0));subst he;exact⟨_,rfl,_,_,_,[],_,_,A,trodAll_mk1 (shut_bool Tryz.underlying4 _),(trodAll_cons_mk (Below.trod laidOut zl (pt zl) O d J) (trodAll_cons_mk (Below.trod laidOut zl (pt zl) P d K) trodAll_mk0)),Below.trodVars laidOut d zl i,d.frame _,fun h=>by cases h⟩
theorem VG:Rows.FnTornSaid:=
 OpenClaim.holds_of_wide 3 Tryz.f3 rfl rfl rfl rfl rfl rfl rfl ⟨rfl,rfl,rfl,rfl,rfl⟩ rfl rfl rfl rfl rfl zl Tryz.func3 zl
  (pt zl) (by unfold Func.isWrapper;first|(rw[mM (by decide+kernel)];kernel_rfl)|(rw[mN (by decide+kernel)];exact⟨rfl,rfl⟩))
  (fun os a H enc _=>XB os a H enc)
#print axioms VG
end Go.Proofs.YthdeofoleiiibaaGreatDoor
