import Derived.Test.YthdeofoleiiibaaGreatDoorRowZ
import Derived.RangeFuncNested
import Derived.RangeFuncBound
import Derived.RangeFuncCalls
import Derived.RangeFuncLeaves
import Derived.RangeFuncFrom
import Derived.RangeFuncWrites
import Derived.RangeFuncBox
import Derived.Shelf.Abstract
import Derived.Shelf.RegionOpen
import Derived.OwnWalkIn
import Derived.TacticsInMore
import Derived.LoopNIn
import Derived.LoopIn
namespace Go.Proofs.YthdeofoleiiibaaGreatDoor
open Go.RowKit Go.Shelf
set_option maxRecDepth 100000
set_option maxHeartbeats 16000000
variable {l M lo m D:Nat}{W A B w:World}{tmps:Array Value}{ps:Array Tmp}
abbrev p7:= @run_endRound
theorem Z7 {row:Option Nat}{k:Nat}{cs:Array Value}{t:TypeId}{fr:Nat×Nat}(h:A.heap[k]?=some (.cells cs t fr))(c:A.grownBy B row)(d: ∀r,row=some r→ ∃o:Obj,A.heap[r]?=some o∧o.isCells=false):B.heap[k]?=some (.cells cs t fr):=by
 refine(c.block k (zE h) (fun e=>?_)).trans h;obtain⟨o,a,b⟩:=d _ e.symm;rw[h] at a
 cases a
 cases b
structure qJ (lo M:Nat)(V W:World):Prop where
 size:V.heap.size≤W.heap.size
 same: ∀k,lo≤k→k<M→W.heap[k]?=V.heap[k]?
theorem qJ.refl (lo M:Nat)(V:World):qJ lo M V V:=⟨mP _,fun _ _ _=>rfl⟩
theorem qJ.trans {C:World}(h:qJ lo M A B)(k:qJ lo M B C):qJ lo M A C:=⟨nz h.size k.size,fun i h1 h2=>(k.same i h1 h2).trans (h.same i h1 h2)⟩
theorem qJ.sub {lo' M':Nat}(h:qJ lo M A B)(b:lo≤lo')(a:M'≤M):qJ lo' M' A B:=⟨h.size,fun i h1 h2=>h.same i (nz b h1) (nE h2 a)⟩
theorem qJ.put (A:World)(o:Obj)(a:l<lo∨M≤l:=by omega):qJ lo M A (A.putObj l o):=⟨zn,fun i h1 h2=>World.putObj_heap_other zk⟩
theorem qJ.chg {r:Nat}(c:zr l r A B)(a:M≤A.heap.size:=by omega)(b:r≤lo∨M≤l∨r≤l:=by omega):qJ lo M A B:=⟨c.size,fun i h1 h2=>c.bk i (nE h2 a)⟩
theorem Ke {n:Nat}{P:Program}{f:FuncId}{assign body:Code}{R:Ending→World→Prop}(h:RoundIn Fence.wide n P l f tmps assign body w R)(b:Nat):RoundIn (Fence.wide.inRound b) m P l f tmps assign body w R:=
 ⟨h.1,fun c cs _=>h.2 c cs (fun d a=>by cases a)⟩
theorem Yd {n:Nat}{P:Program}{f:FuncId}{assign body:Code}{R:Ending→World→Prop}(h:RoundIn Fence.wide n P l f tmps assign body w R):RoundIn Fence.wide m P l f tmps assign body w R:=
 ⟨h.1,fun c cs _=>h.2 c cs (fun d a=>by cases a)⟩
def Yields (P:Program) (l:Nat) (args:Array Value) (W:World) (R:Ending→World→Prop):Prop:=
 ∃fn tmps assign body,(Instr.yield l args).run P W= .ok (.round l fn tmps assign body) W∧RoundIn Fence.wide 0 P l fn tmps assign body W R
def dm {β:Type} (lo M:Nat) (I:β→World→Prop):Prop:= ∀s A C,I s A→zr lo M A C→M≤A.heap.size→I s C
def Left {α:Type} (lo M:Nat) (Kp:World→World→Prop) (I:List α→World→Prop) (Ix:Code→List α→World→Prop) (xs:List α) (W:World):Exit→Act→World→Prop
 | .normal,_,W'=>(qJ lo M W W'∧Kp W W')∧I xs W'
 | .ret,_,W'=>(qJ lo M W W'∧Kp W W')∧Ix .ret xs W'
 | .exit id,_,W'=>(qJ lo M W W'∧Kp W W')∧Ix (.exit id) xs W'
 | .goto t,_,W'=>(qJ lo M W W'∧Kp W W')∧Ix (.goto t) xs W'
 | .panic _,_,_=>False
 | .outgrown,_,_=>False
structure Rcd (l D:Nat)(r:Loop)(W:World):Prop where
 lp:W.heap[l]?=some (.loop r)
 df:W.heap[D]?=some (.deferred (some []))
theorem Rcd.own {B:Nat}{r:Loop}(f:l<B)(d:D<B):OwnFrom (β:=Unit) B (fun _ W=>Rcd l D r W):=fun _ A C c hs a b=>
 ⟨(a.block l (zE hs.lp) (fun e=>by have:=(b _ e.symm).1;omega)).trans hs.lp,(a.block D (zE hs.df) (fun e=>by have:=(b _ e.symm).1;omega)).trans hs.df⟩
theorem Rcd.put {r r':Loop}(h:Rcd l D r W)(a:D≠l):Rcd l D r' (W.putObj l (.loop r')):=
 ⟨World.putObj_heap_same (zE h.lp),(World.putObj_heap_other a).trans h.df⟩
theorem Rcd.kept {r:Loop}{V:World}(h:Rcd l D r V)(k:qJ lo M V W)(b:lo≤l∧l<M)(a:lo≤D∧D<M):Rcd l D r W:=⟨(k.same _ b.1 b.2).trans h.lp,(k.same _ a.1 a.2).trans h.df⟩
section
variable{α:Type} {P:Program} {n:Nat} {encs:α→Array Value} {Kp:World→World→Prop} {I:List α→World→Prop} {Ix:Code→List α→World→Prop}
theorem fQ {assign body:Code}{fn:FuncId}{B:Nat}(r:Loop)(hr:r.state= .ready)(O:r.pending=none)(T:r.fn=fn)(U:r.tmps=tmps)(D:r.params=ps)(R:r.assign=assign)(S:r.body=body)(hM:B+2≤M)
  (Q: ∀x,(encs x).size=ps.size) (m: ∀ {A B C:World},Kp A B→Kp B C→Kp A C) (z: ∀(W:World) (o:Obj) (r:Loop),W.heap[B+1]?=some (.loop r)→Kp W (W.putObj (B+1) o))
  (X:OwnFrom B I) (l: ∀c,OwnFrom B (Ix c)) (F:α→Act→World→Prop) (H: ∀x i,OwnFrom B (fun(_:Unit) W=>F x i W)) {pre:List α} {x:α}  (k:Rcd (B+1) B r W) (aa:M≤W.heap.size)
  (h: ∀(K:Act→World→Prop),(∀i f,qJ B M W f→Kp W f→I pre f→F x i f→K i f)→
   assign.wpIn (Fence.wide.inRound (B+1)) n P (Exit.then K (fun _ _ _=>False)) {tmps:=(ps.zip (encs x)).foldl (fun t (p,v)=>t.setIfInBounds p v) tmps,defers:= []} W)
  (u: ∀(i:Act) (W:World),M≤W.heap.size→I pre W→F x i W→body.wpIn (Fence.wide.inRound (B+1)) n P (Left B M Kp I Ix (pre++ [x]) W) i W):
  Yields P (B+1) (encs x) W fun e f=>(qJ (B+2) M W f∧Kp W f)∧((e= .returned (.bool true)∧I (pre++ [x]) f∧Rcd (B+1) B r f)∨(e= .returned (.bool false)∧ ∃c,Ix c (pre++ [x]) f∧Rcd (B+1) B {r with state:= .done,pending:=some c} f)):=by
 have Y:=run_yield (P:=P) (args:=encs x) k.lp (by rw[D];exact Q x);rw[T,U,D,R,S] at Y;refine⟨fn,_,assign,body,Y,Yd (roundIn_of_wpIn (n:=n) trivial (h _ ?_))⟩;intro i G w N L J;have E:=k.kept w zk zk;refine⟨_,run_beginRound E.lp hr,?_⟩;have Z:Rcd (B+1) B {r with state:= .busy} (G.putObj (B+1) (.loop {r with state:= .busy})):=E.put zk;refine wpIn_mono (u i _ (by have:=w.size;simp;omega) (X.putObj _ L (oH _) E.lp rfl) ((H x i).putObj (s:=()) _ J (oH _) E.lp rfl)) ?_
 have j: ∀(g:World) (o:Obj),(qJ B M (G.putObj (B+1) (.loop {r with state:= .busy})) g∧Kp (G.putObj (B+1) (.loop {r with state:= .busy})) g)→
   Rcd (B+1) B {r with state:= .busy} g∧(qJ (B+2) M W (g.putObj (B+1) o)∧Kp W (g.putObj (B+1) o)):=by
  intro g o ⟨V,p3⟩;refine⟨Z.kept V zk zk,?_,m N (m (z _ _ _ E.lp) (m p3 (z _ _ _ (Z.kept V zk zk).lp)))⟩;exact(((w.sub zk nlR).trans (qJ.put _ _)).trans (V.sub zk nlR)).trans (qJ.put _ _)
 rintro e a3 g y
 cases e with
 |normal=>
  obtain⟨b,a⟩:=y;obtain⟨d,q⟩:=j g _ b;refine⟨_,_,p7 none d.lp,q,Or.inl ⟨rfl,X.putObj _ a (oH _) d.lp rfl,?_⟩⟩;have:=d.put (r':= {{r with state:= .busy} with state:=if(none:Option Code).isNone then .ready else .done,pending:=none}) zk;have e:({{r with state:= .busy} with state:=if(none:Option Code).isNone then .ready else .done,pending:=none}:Loop)=r:=by cases r;simp_all
  rw[e] at this⊢;exact this
 |ret=>
  obtain⟨b,a⟩:=y;obtain⟨d,q⟩:=j g _ b;exact⟨_,_,p7 (some .ret) d.lp,q,Or.inr ⟨rfl,.ret,(l _).putObj _ a (oH _) d.lp rfl,d.put zk⟩⟩
 |exit id=>
  obtain⟨b,a⟩:=y;obtain⟨d,q⟩:=j g _ b;exact⟨_,_,p7 (some (.exit id)) d.lp,q,Or.inr ⟨rfl,.exit id,(l _).putObj _ a (oH _) d.lp rfl,d.put zk⟩⟩
 |goto t=>
  obtain⟨b,a⟩:=y;obtain⟨d,q⟩:=j g _ b;exact⟨_,_,p7 (some (.goto t)) d.lp,q,Or.inr ⟨rfl,.goto t,(l _).putObj _ a (oH _) d.lp rfl,d.put zk⟩⟩
 |panic ch=>exact y.elim
 |outgrown=>exact y.elim
end
abbrev nP:= @callsIn_wide
abbrev pg:= @Below.refl
def ez {α:Type} (P:Program) (g:Nat) (lb:Array Value) (encs:α→Array Value) (Kp:Nat→World→World→Prop) (S Sp:List α→Prop) (N:Nat) (w:World):Prop:=
 ∀(l:Nat) (J Jx:List α→World→Prop) (W:World),Below w.heap.size w W→OwnFrom W.heap.size J→OwnFrom W.heap.size Jx→
  (∀pre x V,W.heap.size≤V.heap.size→J pre V→pre.length<N→Go.Proofs.YthdeofoleiiibaaGreatDoor.Yields P l (encs x) V fun e V'=>(V.heap.size≤V'.heap.size∧Kp W.heap.size V V')∧((e= .returned (.bool true)∧J (pre++ [x]) V')∨(e= .returned (.bool false)∧Jx (pre++ [x]) V')))→
  (∀V,Below W.heap.size W V→J [] V)→
  CallsIn Fence.wide 0 P g (#[.func (.yield l) #[] #[]]++lb) W fun e W'=>(∃v,e= .returned v)∧((∃xs,S xs∧J xs W')∨(∃pre,Sp pre∧Jx pre W'))
def lO {α:Type} (P:Program) (g:Nat) (lb:Array Value) (encs:α→Array Value) (Kp:Nat→World→World→Prop) (S Sp:List α→Prop) (N:Nat) (w:World):Prop:=
 ∀(l:Nat) (J Jx:Nat→List α→World→Prop) (W:World),Below w.heap.size w W→(∀M,OwnFrom W.heap.size (J M))→(∀M,OwnFrom W.heap.size (Jx M))→(∀M,dm W.heap.size M (J M))→(∀M,dm W.heap.size M (Jx M))→
  (∀M pre x V,W.heap.size≤M→M≤V.heap.size→J M pre V→pre.length<N→Go.Proofs.YthdeofoleiiibaaGreatDoor.Yields P l (encs x) V fun e V'=>(qJ W.heap.size M V V'∧Kp W.heap.size V V')∧((e= .returned (.bool true)∧J M (pre++ [x]) V')∨(e= .returned (.bool false)∧Jx M (pre++ [x]) V')))→
  (∀V,Below W.heap.size W V→J V.heap.size [] V)→
  CallsIn Fence.wide 0 P g (#[.func (.yield l) #[] #[]]++lb) W fun e W'=>(∃v,e= .returned v)∧((∃M xs,S xs∧J M xs W')∨(∃M pre,Sp pre∧Jx M pre W'))
structure ZK (B:Nat)(V W:World):Prop where
 size:V.heap.size≤W.heap.size
 b0:W.heap[B]?=V.heap[B]?
 b1:W.heap[B+1]?=V.heap[B+1]?
theorem ZK.refl (B:Nat)(V:World):ZK B V V:=⟨mP _,rfl,rfl⟩
theorem Rcd.kept2 {B:Nat}{r:Loop}{V:World}(h:Rcd (B+1) B r V)(k:ZK B V W):Rcd (B+1) B r W:=⟨k.b1.trans h.lp,k.b0.trans h.df⟩
def lH {α:Type} (B:Nat) (Kp:World→World→Prop) (I:List α→World→Prop) (Ix:Code→List α→World→Prop) (xs:List α) (W:World):Exit→Act→World→Prop
 | .normal,_,W'=>(ZK B W W'∧Kp W W')∧I xs W'
 | .ret,_,W'=>(ZK B W W'∧Kp W W')∧Ix .ret xs W'
 | .exit id,_,W'=>(ZK B W W'∧Kp W W')∧Ix (.exit id) xs W'
 | .goto t,_,W'=>(ZK B W W'∧Kp W W')∧Ix (.goto t) xs W'
 | .panic _,_,_=>False
 | .outgrown,_,_=>False
section
variable{α:Type} {P:Program} {n:Nat} {encs:α→Array Value} {Kp:World→World→Prop} {I:List α→World→Prop} {Ix:Code→List α→World→Prop}
theorem cO {assign body:Code}{fn:FuncId}{B:Nat}(r:Loop)(hr:r.state= .ready)(N:r.pending=none)(S:r.fn=fn)(T:r.tmps=tmps)(D:r.params=ps)(Q:r.assign=assign)(R:r.body=body)
  (O: ∀x,(encs x).size=ps.size) (m: ∀ {A B C:World},Kp A B→Kp B C→Kp A C) (z: ∀(W:World) (o:Obj) (r:Loop),W.heap[B+1]?=some (.loop r)→Kp W (W.putObj (B+1) o))
  (X:OwnFrom B I) (l: ∀c,OwnFrom B (Ix c)) (F:α→Act→World→Prop) (H: ∀x i,OwnFrom B (fun(_:Unit) W=>F x i W)) {pre:List α} {x:α}  (k:Rcd (B+1) B r W) (Z:B+2≤W.heap.size)
  (h: ∀(K:Act→World→Prop),(∀i f,ZK B W f→Kp W f→I pre f→F x i f→K i f)→
   assign.wpIn (Fence.wide.inRound (B+1)) n P (Exit.then K (fun _ _ _=>False)) {tmps:=(ps.zip (encs x)).foldl (fun t (p,v)=>t.setIfInBounds p v) tmps,defers:= []} W)
  (u: ∀(i:Act) (W:World),B+2≤W.heap.size→(∃r:Loop,Rcd (B+1) B r W)→I pre W→F x i W→body.wpIn (Fence.wide.inRound (B+1)) n P (lH B Kp I Ix (pre++ [x]) W) i W):
  Go.Proofs.YthdeofoleiiibaaGreatDoor.Yields P (B+1) (encs x) W fun e f=>(W.heap.size≤f.heap.size∧Kp W f)∧((e= .returned (.bool true)∧I (pre++ [x]) f∧Rcd (B+1) B r f)∨(e= .returned (.bool false)∧ ∃c,Ix c (pre++ [x]) f∧Rcd (B+1) B {r with state:= .done,pending:=some c} f)):=by
 have Y:=run_yield (P:=P) (args:=encs x) k.lp (by rw[D];exact O x);rw[S,T,D,Q,R] at Y;refine⟨fn,_,assign,body,Y,Yd (roundIn_of_wpIn (n:=n) trivial (h _ ?_))⟩;intro i G w M L J;have E:=k.kept2 w;refine⟨_,run_beginRound E.lp hr,?_⟩;have V:Rcd (B+1) B {r with state:= .busy} (G.putObj (B+1) (.loop {r with state:= .busy})):=E.put zk;refine wpIn_mono (u i _ (by have:=w.size;simp;omega) ⟨_,V⟩ (X.putObj _ L (oH _) E.lp rfl) ((H x i).putObj (s:=()) _ J (oH _) E.lp rfl)) ?_
 have j: ∀(g:World) (o:Obj),(ZK B (G.putObj (B+1) (.loop {r with state:= .busy})) g∧Kp (G.putObj (B+1) (.loop {r with state:= .busy})) g)→
   Rcd (B+1) B {r with state:= .busy} g∧(W.heap.size≤(g.putObj (B+1) o).heap.size∧Kp W (g.putObj (B+1) o)):=by
  intro g o ⟨U,p3⟩;refine⟨V.kept2 U,?_,m M (m (z _ _ _ E.lp) (m p3 (z _ _ _ (V.kept2 U).lp)))⟩;have h1:=w.size;have h3:=U.size;simp at h3⊢;omega
 rintro e a3 g y
 cases e with
 |normal=>
  obtain⟨b,a⟩:=y;obtain⟨d,q⟩:=j g _ b;refine⟨_,_,p7 none d.lp,q,Or.inl ⟨rfl,X.putObj _ a (oH _) d.lp rfl,?_⟩⟩;have:=d.put (r':= {{r with state:= .busy} with state:=if(none:Option Code).isNone then .ready else .done,pending:=none}) zk;have e:({{r with state:= .busy} with state:=if(none:Option Code).isNone then .ready else .done,pending:=none}:Loop)=r:=by cases r;simp_all
  rw[e] at this⊢;exact this
 |ret=>
  obtain⟨b,a⟩:=y;obtain⟨d,q⟩:=j g _ b;exact⟨_,_,p7 (some .ret) d.lp,q,Or.inr ⟨rfl,.ret,(l _).putObj _ a (oH _) d.lp rfl,d.put zk⟩⟩
 |exit id=>
  obtain⟨b,a⟩:=y;obtain⟨d,q⟩:=j g _ b;exact⟨_,_,p7 (some (.exit id)) d.lp,q,Or.inr ⟨rfl,.exit id,(l _).putObj _ a (oH _) d.lp rfl,d.put zk⟩⟩
 |goto t=>
  obtain⟨b,a⟩:=y;obtain⟨d,q⟩:=j g _ b;exact⟨_,_,p7 (some (.goto t)) d.lp,q,Or.inr ⟨rfl,.goto t,(l _).putObj _ a (oH _) d.lp rfl,d.put zk⟩⟩
 |panic ch=>exact y.elim
 |outgrown=>exact y.elim
theorem JJ {g:Operand}{assign body:Code}{Q:Exit→Act→World→Prop}{a:Act}{gf:Nat}{lb:Array Value}(hg:a.eval g= .func (.func gf) #[] lb)(eg: ∀args w,(callFunc gf args).run P w= .ok (.enter gf args) w)
  {Kq:Nat→World→World→Prop} {S Sp:List α→Prop} {N:Nat} {w0:World} (Y:ez P gf lb encs Kq S Sp N w0) (af: ∀ {A B:World},Kp A B→Kq (w.heap.size+2) A B) (R:Below w0.heap.size w0 w) (ak: ∀x,(encs x).size=ps.size) (ag: ∀ {A B C:World},Kp A B→Kp B C→Kp A C) (ae: ∀(W:World) (o:Obj) (r:Loop),W.heap[w.heap.size+1]?=some (.loop r)→Kp W (W.putObj (w.heap.size+1) o))
  (I:List α→World→Prop) (Ix:Code→List α→World→Prop) (hI:OwnFrom w.heap.size I) (E: ∀c,OwnFrom w.heap.size (Ix c)) (h0: ∀V,Below w.heap.size w V→w.heap.size+2≤V.heap.size→I [] V) (Z:α→Act→World→Prop) (ac: ∀x m,OwnFrom w.heap.size (fun(_:Unit) W=>Z x m W))
  (f: ∀(l:Nat) (pre:List α) (x:α) (W:World) (K:Act→World→Prop),w.heap.size+2≤W.heap.size→(∃r:Loop,Rcd (w.heap.size+1) w.heap.size r W)→I pre W→(∀m L,ZK w.heap.size W L→Kp W L→I pre L→Z x m L→K m L)→
   assign.wpIn (Fence.wide.inRound l) 0 P (Exit.then K (fun _ _ _=>False)) {tmps:=(ps.zip (encs x)).foldl (fun t (p,v)=>t.setIfInBounds p v) a.tmps,defers:= []} W)
  (F: ∀(l:Nat) (pre:List α) (x:α) (m:Act) (W:World),w.heap.size+2≤W.heap.size→(∃r:Loop,Rcd (w.heap.size+1) w.heap.size r W)→I pre W→Z x m W→pre.length<N→body.wpIn (Fence.wide.inRound l) 0 P (lH w.heap.size Kp I Ix (pre++ [x]) W) m W)
  (H: ∀(D:Nat) (xs:List α) (W:World),w.heap.size≤D→S xs→I xs W→W.heap[D]?=some (.deferred (some []))→Q .normal {a with defers:= {target:= .collected D,args:= #[]}::a.defers} W)
  (J: ∀(D:Nat) (c:Code) (pre:List α) (W:World),w.heap.size≤D→Sp pre→Ix c pre W→W.heap[D]?=some (.deferred (some []))→c.wpIn Fence.wide n P Q {a with defers:= {target:= .collected D,args:= #[]}::a.defers} W):
  (Code.rangeFunc g ps assign body).wpIn Fence.wide n P Q a w:=by
 refine wpIn_rangeFunc ?_;intro fn _;obtain⟨r,k⟩: ∃r:Loop,r= {state:= .ready,pending:=none,fn,tmps:=a.tmps,params:=ps,assign,body,defers:=w.heap.size}:=⟨_,rfl⟩;obtain⟨z,z1,z2⟩:=zU w (.deferred (some [])) (.loop r);have O:Rcd (w.heap.size+1) w.heap.size r ((w.alloc (.deferred (some []))).alloc (.loop r)):=⟨z2,z1⟩;have M:Below w.heap.size w ((w.alloc (.deferred (some []))).alloc (.loop r)):=((pg _ w).alloc nlR _).alloc zn _
 have ad:Below w0.heap.size w0 ((w.alloc (.deferred (some []))).alloc (.loop r)):=R.trans (M.mono R.size);refine⟨w.heap.size+1,[{target:= .collected w.heap.size,args:= #[]}],(w.alloc (.deferred (some []))).alloc (.loop r),{target:= .fn (.func gf) lb,args:= #[.func (.yield (w.heap.size+1)) #[] #[]]},(w.alloc (.deferred (some []))).alloc (.loop r),gf,
  #[.func (.yield (w.heap.size+1)) #[] #[]]++lb,(w.alloc (.deferred (some []))).alloc (.loop r),by rw[k];exact run_enterLoop_outer _ _ _ _ _,?_,(fun _ _=>trivial),?_,(fun h=>by cases h),?_⟩
 ·simp only[resolve,hg];simp[go_sem]
 ·simp[invoke,go_sem,eg]
 generalize (w.alloc (.deferred (some []))).alloc (.loop r)=W1 at*;have G:=Y (w.heap.size+1) (fun pre W=>I pre W∧Rcd (w.heap.size+1) w.heap.size r W)
  (fun pre W=> ∃c,Ix c pre W∧Rcd (w.heap.size+1) w.heap.size {r with state:= .done,pending:=some c} W) W1 ad
  (fun s A C j hs i b=>⟨hI s A C j hs.1 i (fun q e=>⟨by have:=(b q e).1;omega,(b q e).2⟩),Rcd.own (B:=W1.heap.size) zk zk () A C j hs.2 i b⟩)
  (fun s A C j hs i b=>by
   obtain⟨c,hc,d⟩:=hs;exact⟨c,E c s A C j hc i (fun q e=>⟨by have:=(b q e).1;omega,(b q e).2⟩),Rcd.own (B:=W1.heap.size) zk zk () A C j d i b⟩)
  (by
   intro pre x V al hJ T
   obtain⟨hi,y⟩:=hJ
   have u:=cO (n:=0) (P:=P) (encs:=encs) (Kp:=Kp) (I:=I) (Ix:=Ix) (ps:=ps) (assign:=assign) (body:=body) (tmps:=a.tmps) (fn:=fn) (B:=w.heap.size) r (by rw[k]) (by rw[k]) (by rw[k]) (by rw[k]) (by rw[k]) (by rw[k]) (by rw[k]) ak ag ae hI E Z ac (pre:=pre) (x:=x) y zk
    (fun K hK=>f _ pre x V K zk ⟨_,y⟩ hi hK) (fun m W ah U hi' aj=>F _ pre x m W ah U hi' aj T)
   obtain⟨f',t',aa,ab,hy,hR⟩:=u
   refine⟨f',t',aa,ab,hy,hR.mono ?_⟩
   rintro e V' ⟨⟨hk,hp⟩,X⟩
   refine⟨⟨hk,by rw[z];exact af hp⟩,?_⟩
   rcases X with⟨he,hi',b⟩|⟨he,hx⟩
   ·exact Or.inl ⟨he,hi',b⟩
   ·exact Or.inr ⟨he,hx⟩)
  (fun V hV=>⟨h0 V (M.trans (hV.mono zk)) (by have:=hV.size;omega),⟨(hV.block _ zk).trans O.lp,(hV.block _ zk).trans O.df⟩⟩)
 refine(nP.2 (nP.1 G)).mono ?_;rintro e W2 ⟨⟨v,rfl⟩,(⟨xs,hS,hi,d⟩|⟨pre,ai,c,hi,d⟩)⟩
 ·refine⟨_,_,run_endLoop d.lp (by rw[k];simp),?_⟩;rw[show r.pending=none by rw[k]];exact H _ xs _ nlR hS (hI.putObj _ hi (oH _) d.lp rfl) ((World.putObj_heap_other zk).trans d.df)
 ·exact⟨_,_,run_endLoop d.lp zn,J _ c pre _ nlR ai ((E c).putObj _ hi (oH _) d.lp rfl) ((World.putObj_heap_other zk).trans d.df)⟩
end
section
variable{α:Type} {P:Program} {n:Nat} {encs:α→Array Value} {Kp:World→World→Prop}
theorem JI {g:Operand}{assign body:Code}{Q:Exit→Act→World→Prop}{a:Act}{gf:Nat}{lb:Array Value}(hg:a.eval g= .func (.func gf) #[] lb)(eg: ∀args w,(callFunc gf args).run P w= .ok (.enter gf args) w)
  {Kq:Nat→World→World→Prop} {S Sp:List α→Prop} {N:Nat} {w0:World} (ab:lO P gf lb encs Kq S Sp N w0) (ai: ∀ {A B:World},Kp A B→Kq (w.heap.size+2) A B) (X:Below w0.heap.size w0 w) (an: ∀x,(encs x).size=ps.size) (aj: ∀ {A B C:World},Kp A B→Kp B C→Kp A C) (ah: ∀(W:World) (o:Obj) (r:Loop),W.heap[w.heap.size+1]?=some (.loop r)→Kp W (W.putObj (w.heap.size+1) o))
  (I:Nat→List α→World→Prop) (Ix:Nat→Code→List α→World→Prop) (hI: ∀M,OwnFrom w.heap.size (I M)) (E: ∀M c,OwnFrom w.heap.size (Ix M c)) (ag: ∀M,dm (w.heap.size+2) M (I M)) (R: ∀M c,dm (w.heap.size+2) M (Ix M c)) (h0: ∀V,Below w.heap.size w V→w.heap.size+2≤V.heap.size→I V.heap.size [] V) (Ax:α→Act→World→Prop) (ae: ∀x u,OwnFrom w.heap.size (fun(_:Unit) W=>Ax x u W))
  (f: ∀(M l:Nat) (pre:List α) (x:α) (W:World) (K:Act→World→Prop),w.heap.size+2≤M→M≤W.heap.size→I M pre W→(∀u L,qJ w.heap.size M W L→Kp W L→I M pre L→Ax x u L→K u L)→
   assign.wpIn (Fence.wide.inRound l) 0 P (Exit.then K (fun _ _ _=>False)) {tmps:=(ps.zip (encs x)).foldl (fun t (p,v)=>t.setIfInBounds p v) a.tmps,defers:= []} W)
  (F: ∀(M l:Nat) (pre:List α) (x:α) (u:Act) (W:World),w.heap.size+2≤M→M≤W.heap.size→I M pre W→Ax x u W→pre.length<N→body.wpIn (Fence.wide.inRound l) 0 P (Left w.heap.size M Kp (I M) (Ix M) (pre++ [x]) W) u W)
  (H: ∀(M D:Nat) (xs:List α) (W:World),w.heap.size≤D→S xs→I M xs W→W.heap[D]?=some (.deferred (some []))→Q .normal {a with defers:= {target:= .collected D,args:= #[]}::a.defers} W)
  (J: ∀(M D:Nat) (c:Code) (pre:List α) (W:World),w.heap.size≤D→Sp pre→Ix M c pre W→W.heap[D]?=some (.deferred (some []))→c.wpIn Fence.wide n P Q {a with defers:= {target:= .collected D,args:= #[]}::a.defers} W):
  (Code.rangeFunc g ps assign body).wpIn Fence.wide n P Q a w:=by
 refine wpIn_rangeFunc ?_;intro fn _;obtain⟨r,m⟩: ∃r:Loop,r= {state:= .ready,pending:=none,fn,tmps:=a.tmps,params:=ps,assign,body,defers:=w.heap.size}:=⟨_,rfl⟩;obtain⟨z,z1,z2⟩:=zU w (.deferred (some [])) (.loop r);have U:Rcd (w.heap.size+1) w.heap.size r ((w.alloc (.deferred (some []))).alloc (.loop r)):=⟨z2,z1⟩;have O:Below w.heap.size w ((w.alloc (.deferred (some []))).alloc (.loop r)):=((pg _ w).alloc nlR _).alloc zn _
 have af:Below w0.heap.size w0 ((w.alloc (.deferred (some []))).alloc (.loop r)):=X.trans (O.mono X.size);refine⟨w.heap.size+1,[{target:= .collected w.heap.size,args:= #[]}],(w.alloc (.deferred (some []))).alloc (.loop r),{target:= .fn (.func gf) lb,args:= #[.func (.yield (w.heap.size+1)) #[] #[]]},(w.alloc (.deferred (some []))).alloc (.loop r),gf,
  #[.func (.yield (w.heap.size+1)) #[] #[]]++lb,(w.alloc (.deferred (some []))).alloc (.loop r),by rw[m];exact run_enterLoop_outer _ _ _ _ _,?_,(fun _ _=>trivial),?_,(fun h=>by cases h),?_⟩
 ·simp only[resolve,hg];simp[go_sem]
 ·simp[invoke,go_sem,eg]
 generalize (w.alloc (.deferred (some []))).alloc (.loop r)=W1 at*;have G:=ab (w.heap.size+1) (fun M pre W=>I M pre W∧Rcd (w.heap.size+1) w.heap.size r W)
  (fun M pre W=> ∃c,Ix M c pre W∧Rcd (w.heap.size+1) w.heap.size {r with state:= .done,pending:=some c} W) W1 af
  (fun M s A C k hs j b=>⟨hI M s A C k hs.1 j (fun q e=>⟨by have:=(b q e).1;omega,(b q e).2⟩),Rcd.own (B:=W1.heap.size) zk zk () A C k hs.2 j b⟩)
  (fun M s A C k hs j b=>by
   obtain⟨c,i,d⟩:=hs;exact⟨c,E M c s A C k i j (fun q e=>⟨by have:=(b q e).1;omega,(b q e).2⟩),Rcd.own (B:=W1.heap.size) zk zk () A C k d j b⟩)
  (fun M s A C hs i hm=>⟨ag M s A C hs.1 (by rw[z] at i;exact i) hm,⟨(i.bk _ (zE hs.2.lp)).trans hs.2.lp,(i.bk _ (zE hs.2.df)).trans hs.2.df⟩⟩)
  (fun M s A C hs i hm=>by
   obtain⟨c,h1,h2⟩:=hs;exact⟨c,R M c s A C h1 (by rw[z] at i;exact i) hm,⟨(i.bk _ (zE h2.lp)).trans h2.lp,(i.bk _ (zE h2.df)).trans h2.df⟩⟩)
  (by
   intro M pre x V hM T hJ Y
   obtain⟨hi,Z⟩:=hJ
   have y:=fQ (n:=0) (P:=P) (encs:=encs) (Kp:=Kp) (I:=I M) (Ix:=Ix M) (ps:=ps) (assign:=assign) (body:=body) (tmps:=a.tmps) (fn:=fn) (B:=w.heap.size) (M:=M) r (by rw[m]) (by rw[m]) (by rw[m]) (by rw[m]) (by rw[m]) (by rw[m]) (by rw[m]) zk an aj ah (hI M) (E M) Ax ae (pre:=pre) (x:=x) Z T
    (fun K hK=>f M _ pre x V K zk T hi hK) (fun u W ak hi' am=>F M _ pre x u W zk ak hi' am Y)
   obtain⟨f',t',ac,ad,hy,hR⟩:=y
   refine⟨f',t',ac,ad,hy,hR.mono ?_⟩
   rintro e V' ⟨⟨hk,hp⟩,aa⟩
   refine⟨⟨hk.sub zk nlR,by rw[z];exact ai hp⟩,?_⟩
   rcases aa with⟨he,hi',b⟩|⟨he,hx⟩
   ·exact Or.inl ⟨he,hi',b⟩
   ·exact Or.inr ⟨he,hx⟩)
  (fun V hV=>⟨h0 V (O.trans (hV.mono zk)) (by have:=hV.size;omega),⟨(hV.block _ zk).trans U.lp,(hV.block _ zk).trans U.df⟩⟩)
 refine(nP.2 (nP.1 G)).mono ?_;rintro e W2 ⟨⟨v,rfl⟩,(⟨M,xs,hS,hi,d⟩|⟨M,pre,al,c,hi,d⟩)⟩
 ·refine⟨_,_,run_endLoop d.lp (by rw[m];simp),?_⟩;rw[show r.pending=none by rw[m]];exact H M _ xs _ nlR hS ((hI M).putObj _ hi (oH _) d.lp rfl) ((World.putObj_heap_other zk).trans d.df)
 ·exact⟨_,_,run_endLoop d.lp zn,J M _ c pre _ nlR al ((E M c).putObj _ hi (oH _) d.lp rfl) ((World.putObj_heap_other zk).trans d.df)⟩
end
attribute [local go_sem] Oper.semAt_some
def qG (K:Nat→Prop) (W W':World):Prop:= ∀k,K k→W'.heap[k]?=W.heap[k]?
theorem qG.trans {K:Nat→Prop}{C:World}(h:qG K A B)(k:qG K B C):qG K A C:=fun i hi=>(k i hi).trans (h i hi)
theorem qG.cell {K:Nat→Prop}{W':World}(h:qG K W W'){p:Addr}(a:K p.block):W'.cell? p=W.cell? p:=nQ (h _ a)
abbrev nI:= @congrArg
abbrev ph:= @results_none
attribute [local go_sem] Oper.semAt_some
def pcN (L m:Nat):Nat:=(L+m-1)/m
def pcE (L m x:Nat):Nat:=min (m*x+m) L
theorem XP {L x:Nat}(a:0<m)(h:x<pcN L m):m*x<L:=by
 unfold pcN at h;have:=(Nat.lt_div_iff_mul_lt a).1 h;rw[ry] at this;omega
theorem dP {L:Nat}(a:0<m:=by omega):L≤m*pcN L m:=by
 unfold pcN;have:=Nat.lt_mul_div_succ (L+m-1) a;rw[Nat.mul_add] at this;omega
def Eo (S b off cap L m:Nat) {K:Nat} (x:Fin K):Array Value:= #[zj (some ⟨b,off+m*x.val*S,none⟩) (pcE L m x.val-m*x.val) (cap-m*x.val)]
theorem UX (w:World)(a:Option Addr)(n cap:Nat)(m:Int):
  Calls Tryz.prog 115 #[zj a n cap,za m] w fun e w'=>
   e= .returned (.func (.func 141) #[] #[zh w.heap.size,zh (w.heap.size+1)])∧w'=(w.alloc (zi #[zj a n cap] 33)).alloc (zi #[za m] 3):=by
 go_enter Tryz.func115,Tryz.ntmps115;go_wp2;go_ret;exact⟨rfl,rfl⟩
theorem ah (h j b g cap L:Nat)(y:Option Addr)(w:World)(hL:L≤100000)(X:L≤cap)(C:0<L→y=some ⟨b,g,none⟩)
  (s:w.cell? (zd h)=some (zj y L cap)) (t:w.cell? (zd j)=some (za 26)):
  ez Tryz.prog 141 #[zh h,zh j] (Eo 1 b g cap L 26 (K:=pcN L 26)) (fun _=>qG fun k=>k=h∨k=j)
   (fun xs=>xs.map Fin.val=List.range (pcN L 26)) (fun pre=>pre.map Fin.val=List.range pre.length) (pcN L 26) w:=fun l J Jx W N hJ M O h0=>by
 have D:W.cell? (zd h)=some (zj y L cap):=(N.cell (p:=(zd h)) (zV s)).trans s
 have G:W.cell? (zd j)=some (za 26):=(N.cell (p:=(zd j)) (zV t)).trans t
 have A:=h0 W (pg _ _)
 have v:Hid (0<L→y=some ⟨b,g,none⟩):=C
 clear h0 s t N hJ M C
 refine callsIn_of_wp Tryz.func141 rfl trivial ?_ rfl
 simp only[Tryz.ntmps141,pA,m7,nH,Nat.reduceAdd,Nat.reduceSub,pL,pM,pO,pP,nG,oD]
 gi_wp2
 gi_loopw [4] (fun x wr=> ∃(i:Nat) (pre:List (Fin (pcN L 26))),x=za ((26*i:Nat):Int)∧i≤pcN L 26∧pre.map Fin.val=List.range i∧W.heap.size≤wr.heap.size∧wr.cell? (zd h)=some (zj y L cap)∧wr.cell? (zd j)=some (za 26)∧J pre wr)
  (fun x _=>L+26-(intOf x).toNat)
 case atStart=>exact⟨0,[],rfl,mX _,rfl,mP _,D,G,A⟩
 case round=>
  clear D G A
  obtain⟨i,pre,rfl,hi,c,r,s,t,n⟩:=hrel
  have f:pre.length=i:=by have:=nI List.length c;simpa using this
  by_cases d:i<pcN L 26
  ·have S:=XP (m:=26) zk d
   obtain rfl:=v.out zk
   obtain⟨fn,tmps,assign,body,H,U⟩:=O pre ⟨i,d⟩ wr r n zk
   unfold Eo at H
   simp only[Nat.mul_one] at H
   have a:Hid (pre.map Fin.val=List.range i):=c
   obtain⟨q,u⟩: ∃q,q=26*i:=⟨_,rfl⟩
   have Y:Hid (q=26*i):=u
   obtain⟨E,z⟩: ∃E,E=pcE L 26 i:=⟨_,rfl⟩
   have eM:(if(L:Int)<(q:Int)+26 then(L:Int) else(q:Int)+26)=(E:Int):=by rw[z,u];unfold pcE;split<;>omega
   have ab:q<E:=by rw[z,u];unfold pcE;omega
   have aa:E≤L:=by rw[z];unfold pcE;omega
   rw[←z,←u] at H
   rw[←u] at S⊢
   have Z:(q:Int)<(L:Int):=zk
   have e2:(q:Int)≤(E:Int):=zk
   have e3:(E:Int)≤(cap:Int):=zk
   have e4: ¬cap=q:=zk
   have e5: ¬cap<E:=zk
   have e6: ¬E<q:=zk
   clear O c u z hi f v
   gi_wp2
   refine⟨rfl,U.mono ?_⟩
   rintro e V ⟨⟨F,o⟩,(⟨rfl,I⟩|⟨rfl,B⟩)⟩
   ·have P:V.cell? (zd h)=some (zj (some ⟨b,g,none⟩) L cap):=(o.cell (p:=(zd h)) (Or.inl rfl)).trans s
    have R:V.cell? (zd j)=some (za 26):=(o.cell (p:=(zd j)) (Or.inr rfl)).trans t
    have T:=nz r F
    clear U H s t F o n r eM
    gi_wp2
    go_roundw
    case rel=>exact⟨i+1,pre++ [⟨i,d⟩],by have:=Y.out;congr 1;omega,d,by rw[m6,a.out,pQ];rfl,T,P,R,I⟩
    case measure=>simp[intOf];omega
   ·gi_wp2
    refine bodyPost_ret (ph rfl _ _ _) rfl ?_
    refine⟨⟨_,rfl⟩,.inr ⟨pre++ [⟨i,d⟩],?_,B⟩⟩
    have hl:pre.length=i:=by have:=nI List.length a.out;simpa using this
    rw[m6,a.out,mL,hl]
    exact List.range_succ.symm
  ·obtain rfl:i=pcN L 26:=zk
   have a:Hid (pre.map Fin.val=List.range (pcN L 26)):=c
   have ac:=dP (L:=L) (m:=26)
   have Z: ¬(((26*pcN L 26:Nat):Int)<(L:Int)):=zk
   generalize 26*pcN L 26=Q at*
   clear O c f
   gi_wp2
   go_end0
   exact⟨⟨_,rfl⟩,.inl ⟨pre,a,n⟩⟩
theorem UW (w:World)(a:Option Addr)(n cap:Nat)(m:Int):
  Calls Tryz.prog 118 #[zj a n cap,za m] w fun e w'=>
   e= .returned (.func (.func 142) #[] #[zh w.heap.size,zh (w.heap.size+1)])∧w'=(w.alloc (zi #[zj a n cap] 32)).alloc (zi #[za m] 3):=by
 go_enter Tryz.func118,Tryz.ntmps118;go_wp2;go_ret;exact⟨rfl,rfl⟩
theorem ag (h j b g cap L:Nat)(y:Option Addr)(w:World)(hL:L≤100000)(X:L≤cap)(C:0<L→y=some ⟨b,g,none⟩)
  (s:w.cell? (zd h)=some (zj y L cap)) (t:w.cell? (zd j)=some (za 17)):
  ez Tryz.prog 142 #[zh h,zh j] (Eo 2 b g cap L 17 (K:=pcN L 17)) (fun _=>qG fun k=>k=h∨k=j)
   (fun xs=>xs.map Fin.val=List.range (pcN L 17)) (fun pre=>pre.map Fin.val=List.range pre.length) (pcN L 17) w:=fun l J Jx W N hJ M O h0=>by
 have D:W.cell? (zd h)=some (zj y L cap):=(N.cell (p:=(zd h)) (zV s)).trans s
 have G:W.cell? (zd j)=some (za 17):=(N.cell (p:=(zd j)) (zV t)).trans t
 have A:=h0 W (pg _ _)
 have v:Hid (0<L→y=some ⟨b,g,none⟩):=C
 clear h0 s t N hJ M C
 refine callsIn_of_wp Tryz.func142 rfl trivial ?_ rfl
 simp only[Tryz.ntmps142,pA,m7,nH,Nat.reduceAdd,Nat.reduceSub,pL,pM,pO,pP,nG,oD]
 gi_wp2
 gi_loopw [4] (fun x wr=> ∃(i:Nat) (pre:List (Fin (pcN L 17))),x=za ((17*i:Nat):Int)∧i≤pcN L 17∧pre.map Fin.val=List.range i∧W.heap.size≤wr.heap.size∧wr.cell? (zd h)=some (zj y L cap)∧wr.cell? (zd j)=some (za 17)∧J pre wr)
  (fun x _=>L+17-(intOf x).toNat)
 case atStart=>exact⟨0,[],rfl,mX _,rfl,mP _,D,G,A⟩
 case round=>
  clear D G A
  obtain⟨i,pre,rfl,hi,c,r,s,t,n⟩:=hrel
  have f:pre.length=i:=by have:=nI List.length c;simpa using this
  by_cases d:i<pcN L 17
  ·have S:=XP (m:=17) zk d
   obtain rfl:=v.out zk
   obtain⟨fn,tmps,assign,body,H,U⟩:=O pre ⟨i,d⟩ wr r n zk
   unfold Eo at H
   simp only at H
   have a:Hid (pre.map Fin.val=List.range i):=c
   obtain⟨q,u⟩: ∃q,q=17*i:=⟨_,rfl⟩
   have Y:Hid (q=17*i):=u
   obtain⟨E,z⟩: ∃E,E=pcE L 17 i:=⟨_,rfl⟩
   have eM:(if(L:Int)<(q:Int)+17 then(L:Int) else(q:Int)+17)=(E:Int):=by rw[z,u];unfold pcE;split<;>omega
   have ab:q<E:=by rw[z,u];unfold pcE;omega
   have aa:E≤L:=by rw[z];unfold pcE;omega
   rw[←z,←u] at H
   rw[←u] at S⊢
   have Z:(q:Int)<(L:Int):=zk
   have e2:(q:Int)≤(E:Int):=zk
   have e3:(E:Int)≤(cap:Int):=zk
   have e4: ¬cap=q:=zk
   have e5: ¬cap<E:=zk
   have e6: ¬E<q:=zk
   clear O c u z hi f v
   gi_wp2
   refine⟨rfl,U.mono ?_⟩
   rintro e V ⟨⟨F,o⟩,(⟨rfl,I⟩|⟨rfl,B⟩)⟩
   ·have P:V.cell? (zd h)=some (zj (some ⟨b,g,none⟩) L cap):=(o.cell (p:=(zd h)) (Or.inl rfl)).trans s
    have R:V.cell? (zd j)=some (za 17):=(o.cell (p:=(zd j)) (Or.inr rfl)).trans t
    have T:=nz r F
    clear U H s t F o n r eM
    gi_wp2
    go_roundw
    case rel=>exact⟨i+1,pre++ [⟨i,d⟩],by have:=Y.out;congr 1;omega,d,by rw[m6,a.out,pQ];rfl,T,P,R,I⟩
    case measure=>simp[intOf];omega
   ·gi_wp2
    refine bodyPost_ret (ph rfl _ _ _) rfl ?_
    refine⟨⟨_,rfl⟩,.inr ⟨pre++ [⟨i,d⟩],?_,B⟩⟩
    have hl:pre.length=i:=by have:=nI List.length a.out;simpa using this
    rw[m6,a.out,mL,hl]
    exact List.range_succ.symm
  ·obtain rfl:i=pcN L 17:=zk
   have a:Hid (pre.map Fin.val=List.range (pcN L 17)):=c
   have ac:=dP (L:=L) (m:=17)
   have Z: ¬(((17*pcN L 17:Nat):Int)<(L:Int)):=zk
   generalize 17*pcN L 17=Q at*
   clear O c f
   gi_wp2
   go_end0
   exact⟨⟨_,rfl⟩,.inl ⟨pre,a,n⟩⟩
end Go.Proofs.YthdeofoleiiibaaGreatDoor
