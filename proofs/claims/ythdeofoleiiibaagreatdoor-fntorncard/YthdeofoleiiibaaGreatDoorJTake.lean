import Derived.Test.YthdeofoleiiibaaGreatDoorImplPcs
import Derived.Test.YthdeofoleiiibaaGreatDoorSurvLast
import Derived.Laws.ResultCell
namespace Go.Proofs.YthdeofoleiiibaaGreatDoor
open Go.RowKit
set_option maxRecDepth 100000
set_option maxHeartbeats 16000000
variable {w w' A B C:World}{base R p n lo hi b x size H K1 l i m r:Nat}{av sv hv rv v vL vM vK a:Value}{q:Int}{t tL tM tK T:TypeId}{xs:List Int}{K:Nat→Prop}{cs:Array Value}{o:Oper}{Q:Exit→Act→World→Prop}
theorem dN {L:Nat}(a:0<m:=by omega)(h:0<L:=by omega):pcN L m=pcN (L-m) m+1:=by
 unfold pcN;by_cases b:m≤L
 ·rw[show L+m-1=(L-m+m-1)+m by omega,sL _ a]
 ·rw[show L-m=0 by omega,rO (show 0+m-1<m by omega),show L+m-1=(L-1)+m by omega,sL _ a,rO zk]
theorem dQ (a:0<m:=by omega):pcN 0 m=0:=by unfold pcN;exact rO zk
theorem Xq {α:Type}(n:Nat)(xs:List α):(jW n xs).length=pcN xs.length n:=EZ n xs
theorem dM {α:Type}(m x:Nat)(xs:List α):((xs.drop (m*x)).take m).length=pcE xs.length m x-m*x:=by
 rw[mW,m8];unfold pcE;omega
theorem bV {L:Nat}:pcE L m x-m*x≤m:=by unfold pcE;omega
theorem E6 (q:Int)(n:Nat): ∀(hs:List Wr),hs.length≤n→((jW 17 hs).flatMap (zW q)).length=hs.length+pcN hs.length 17:=by
 induction n with
 |zero=>
  intro hs h;obtain rfl:hs= []:=nT zk;rw[Z9 17,nH,dQ];rfl
 |succ n ih=>
  intro hs h;by_cases h0:0<hs.length
  ·rw[Z8 17 zk h0,nX,mL,ih (hs.drop 17) (by rw[m8];omega),dN zk h0,m8];unfold zW;rw[m7,mO,mW];omega
  ·obtain rfl:hs= []:=nT zk;rw[Z9 17,nH,dQ];rfl
theorem bi (q:Int)(hs:List Wr)(rs:List Int):(BL q hs rs).length=pcN rs.length 26+(hs.length+pcN hs.length 17):=by
 unfold BL;rw[mL,mO,Xq,E6 q hs.length hs nlR]
theorem ey (q:Int)(hs:List Wr)(rs:List Int)(b:x<pcN rs.length 26):(BL q hs rs).getD x []=Q4 q ((rs.drop (26*x)).take 26):=by
 unfold BL;rw[mV,nZ (by rw[mO,Xq];exact b),nU];unfold jW;have a:x<(rs.length+26-1)/26:=b;rw[nU,List.getElem?_range a];rfl
theorem kN (q:Int)(x:Nat): ∀(hs:List Wr) {j:Nat},x<pcN hs.length 17→j≤pcE hs.length 17 x-17*x→((jW 17 hs).flatMap (zW q)).getD (18*x+j) []=(zW q ((hs.drop (17*x)).take 17)).getD j []:=by
 induction x with
 |zero=>
  intro hs j b a;have h0:=XP (m:=17) zk b;rw[Z8 17,nX,mV,mV,nZ]
  ·simp
  ·unfold zW;unfold pcE at a;rw[m7,mO,mW];omega
 |succ x ih=>
  intro hs j b a;have h0:=XP (m:=17) zk b;have c:(zW q (hs.take 17)).length=18:=by unfold zW;rw[m7,mO,mW];omega
  have d:=dN (L:=hs.length) (m:=17);have:=ih (hs.drop 17) (j:=j) (by rw[m8];omega) (by rw[m8];unfold pcE at a⊢;omega);rw[Z8 17,nX,mV,oM (by rw[c];omega),c,show 18*(x+1)+j-18=18*x+j by omega,←mV,this,pK,show 17+17*x=17*(x+1) by omega]
theorem be (q:Int)(hs:List Wr)(rs:List Int){j:Nat}(b:x<pcN hs.length 17)(a:j≤pcE hs.length 17 x-17*x):(BL q hs rs).getD (pcN rs.length 26+18*x+j) []=(zW q ((hs.drop (17*x)).take 17)).getD j []:=by
 unfold BL;rw[mV,oM (by rw[mO,Xq];omega),mO,Xq,show pcN rs.length 26+18*x+j-pcN rs.length 26=18*x+j by omega,←mV];exact kN q x hs b a
theorem l9 {j:Nat}(b:x<pcN H 17)(a:j≤pcE H 17 x-17*x):K1+18*x+j<K1+(H+pcN H 17):=by
 have h0:=XP (m:=17) zk b;unfold pcE at a;omega
def plc (K1 H x:Nat):List Nat:=(List.range (pcE H 17 x-17*x+1)).map (K1+18*x+ ·)
theorem V7 (a b:Nat):List.range a++(List.range b).map (a+ ·)=List.range (a+b):=(List.range_add).symm
theorem dS (m:Nat)(d:m≤pcN H 17:=by omega):List.range K1++(List.range m).flatMap (plc K1 H)=List.range (K1+min (18*m) (H+pcN H 17)):=by
 induction m with
 |zero=>simp
 |succ m ih=>
  have h0:=XP (m:=17) zk (show m<pcN H 17 by omega);have b:=dP (L:=H) (m:=17);rw[pQ,pW,←nk,ih zk,nX,List.flatMap_nil,nw];have a:min (18*m) (H+pcN H 17)=18*m:=zk;rw[a];unfold plc;rw[show K1+18*m=K1+18*m from rfl,V7];congr 1;unfold pcE;have:m+1<pcN H 17→17*(m+1)<H:=fun h=>XP zk h;by_cases c:m+1<pcN H 17
  ·have:=this c;omega
  ·have:m+1=pcN H 17:=zk;omega
theorem li :List.range K1++(List.range (pcN H 17)).flatMap (plc K1 H)=List.range (K1+(H+pcN H 17)):=by
 have a:=dP (L:=H) (m:=17);rw[dS _ nlR];congr 1;omega
theorem iJ {k:Nat}(b:x<pcN H 17)(a:k≤pcE H 17 x-17*x+1):List.range K1++(List.range x).flatMap (plc K1 H)++(plc K1 H x).take k=List.range (K1+18*x+k):=by
 have h0:=XP (m:=17) zk b;rw[dS _,show min (18*x) (H+pcN H 17)=18*x by omega];unfold plc;rw[←rD,List.take_range,ol a,V7]
theorem zC.keep {k:IntKind}(h:zC w lo hi k v xs)(g: ∀b,lo≤b→b<hi→w'.heap[b]?=w.heap[b]?):zC w' lo hi k v xs:=by
 obtain⟨d,cap,l,j,f,h⟩:=h;refine⟨d,cap,l,j,f,?_⟩;rcases h with h|⟨b,c,e,h1,h2,h3⟩
 ·exact Or.inl h
 ·exact Or.inr ⟨b,c,e,h1,h2,fun i hi=>(nQ (a:=⟨b,c+i,none⟩) (g b h1 h2)).trans (h3 i hi)⟩
theorem qW.keep {ps:List Wr}(h:qW w lo hi v ps)(d: ∀b,lo≤b→b<hi→w'.heap[b]?=w.heap[b]?):qW w' lo hi v ps:=by
 obtain⟨e,cap,n,m,l,h⟩:=h;refine⟨e,cap,n,m,l,?_⟩;rcases h with h|⟨b,c,k,h1,h2,h3⟩
 ·exact Or.inl h
 ·refine Or.inr ⟨b,c,k,h1,h2,fun i hi=>?_⟩;obtain⟨j,f,g,o⟩:=h3 i hi;exact⟨j,(nQ (a:=⟨b,c+i*2,none⟩) (d b h1 h2)).trans f,(nQ (a:=⟨b,c+i*2+1,none⟩) (d b h1 h2)).trans g,o.keep d⟩
def tyA (t:TypeId):Prop:=t=78∨t=33∨t=32∨t=3∨t=197
theorem lI:tyA 78:=Or.inl rfl
theorem mB:tyA 33:=Or.inr (Or.inl rfl)
theorem lK:tyA 32:=Or.inr (Or.inr (Or.inl rfl))
theorem kx:tyA 3:=Or.inr (Or.inr (Or.inr (Or.inl rfl)))
theorem lJ:tyA 197:=Or.inr (Or.inr (Or.inr (Or.inr rfl)))
def NG (V V':World):Prop:= ∀(k:Nat) (cs:Array Value) (t:TypeId) (fr:Nat×Nat),tyA t→V.heap[k]?=some (Obj.cells cs t fr)→V'.heap[k]?=V.heap[k]?
def NF (b:Nat) (V V':World):Prop:= ∀(k:Nat) (o:Obj),b≤k→V.heap[k]?=some o→o.isCells=false→V'.heap[k]?=V.heap[k]?
def KpT (K:Nat→Prop) (b:Nat) (V V':World):Prop:=qG K V V'∧NG V V'∧NF b V V'
theorem NG.trans (h:NG A B)(k:NG B C):NG A C:=fun i cs t a b e=>(k i cs t a b ((h i cs t a b e).trans e)).trans (h i cs t a b e)
theorem NF.trans (h:NF b A B)(k:NF b B C):NF b A C:=fun i o a e c=>(k i o a ((h i o a e c).trans e) c).trans (h i o a e c)
theorem KpT.trans (h:KpT K b A B)(k:KpT K b B C):KpT K b A C:=⟨h.1.trans k.1,h.2.1.trans k.2.1,h.2.2.trans k.2.2⟩
theorem KpT.chg {V V':World}(c:zr l r V V')(hK: ∀k,K k→k<V.heap.size∧(k<l∨r≤k))(h: ∀(k:Nat),l≤k→k<r→ ∃(cs:Array Value) (t:TypeId) (d:Nat×Nat),V.heap[k]?=some (Obj.cells cs t d)∧ ¬tyA t):KpT K b V V':=by
 have f: ∀(k:Nat) (o:Obj),V.heap[k]?=some o→(∀cs t d,o=Obj.cells cs t d→tyA t)→V'.heap[k]?=V.heap[k]?:=fun k o e g=>by
  refine c.block k (zE e) ?_;rcases ri k l with h1|h1
  ·exact Or.inl h1
  ·rcases ri k r with h2|h2
   ·obtain⟨cs,t,d,a,j⟩:=h k h1 h2;rw[e] at a
    cases a
    exact absurd (g cs t d rfl) j
   ·exact Or.inr h2
 exact⟨fun k i=>c.block k (hK k i).1 (hK k i).2,fun k cs t d m e=>f k _ e (fun _ _ _ a=>by cases a;exact m),fun k o _ e g=>f k o e (fun _ _ _ a=>by rw[a] at g;cases g)⟩
theorem KpT.chg0 {V V':World}(c:zr l l V V')(hK: ∀k,K k→k<V.heap.size):KpT K b V V':=KpT.chg c (fun k a=>⟨hK k a,zk⟩) (fun k h1 h2=>zk)
theorem KpT.put {W:World}{B:Nat}(o:Obj){r:Loop}(c:W.heap[B]?=some (.loop r))(hK: ∀k,K k→k≠B)(f:B<b:=by omega):KpT K b W (W.putObj B o):=
 ⟨fun k a=>World.putObj_heap_other (hK k a),fun k cs t d _ e=>World.putObj_heap_other (fun h=>by rw[h,c] at e;cases e),fun k o a _ _=>World.putObj_heap_other zk⟩
structure RS where
 seen:List (List Int)
 seq:Int
 homes:List Wr
 rV:List Int
 aw:List (Int×Bool)
def RS.zero:RS:=⟨[],0,[],[],[]⟩
def zJ (s:RS) (x:FB):RS×Bool:=
 match s.aw with
 |t::r=>if Zp x.bs t.2=true then(⟨s.seen++ [x.bs],s.seq,s.homes++ [(t.1,jA x.bs t.2)],s.rV,r⟩,true) else(⟨s.seen++ [x.bs],s.seq,s.homes,s.rV,r⟩,false)
 | []=>match x with
  | .inl (_,rs)=>(⟨s.seen++ [x.bs],s.seq,s.homes,s.rV++rs,[]⟩,true)
  | .inr (.inl (_,ts))=>(⟨s.seen++ [x.bs],s.seq,s.homes,s.rV,ts⟩,true)
  | .inr (.inr (.inl (q,_,_)))=>(⟨s.seen++ [x.bs],q,s.homes,s.rV,[]⟩,false)
  | .inr (.inr (.inr _))=>(⟨s.seen++ [x.bs],s.seq,s.homes,s.rV,[]⟩,false)
def qh (t:TypeId) (base:Nat) (w w':World):Prop:= ∀(j:Nat) (cur:Array Value),base≤j→w.heap[j]?=some (zi cur t)→w'.heap[j]?=some (zi cur t)
theorem qh.chg (c:zr l r w w')(h:r≤l∨r≤base∨w.heap.size≤l:=by omega):qh t base w w':=fun j _ b a=>(c.block j (zE a) (by have:=(zE a);omega)).trans a
theorem qh.set (v:Value)(d:w.heap[R]?=some (zi cs T))(f:T≠t):qh t base w (w.setCell ⟨R,i,none⟩ v):=fun j b _ a=>(nY _ _ _ _ (fun e=>by
 have c:j=R:=e
 rw[c,d] at a
 simp only[nS,oL] at a
 exact f a.2.1)).trans a
theorem qh.grown {xs:List Value}(g:w.grownBy w' v.ownBlock)(h:w.ownsRow b T size v n xs)(i:T≠t):qh t base w w':=fun j d _ a=>
 (g.block j (zE a) (fun e=>by
  obtain⟨c,f⟩:=zK h e.symm
  rw[f] at a
  simp only[nS,oL] at a
  exact i a.2.1)).trans a
theorem zR {e:TypeId}{xs:List Value}(h:w.ownsRow base e size v n xs)(k:qh e base w w'):w'.ownsRow base e size v n xs:=by
 obtain⟨h1,h2⟩:=h;refine⟨h1,?_⟩;rcases h2 with h2|⟨g,cap,a,d,b,c,r⟩
 ·exact Or.inl h2
 ·exact Or.inr ⟨g,cap,a,d,b,k g a b c,r⟩
theorem qD.keep {es:List Hv}(h:qD w base v es)(b:qh 68 base w w')(c:qh 5 base w w'):qD w' base v es:=
 ⟨zR h.row b,fun e a=>zR (h.data e a) c,h.apart⟩
def AwV (w:World) (base:Nat) (av:Value) (ts:List (Int×Bool)):Prop:= ∃ao cap,av=zj ao ts.length cap∧ts.length≤cap∧cap≤17∧(0<ts.length→ ∃g off cur,ao=some ⟨g,off,none⟩∧base≤g∧w.heap[g]?=some (zi cur 174)∧
 ∀i,i<ts.length→cur[off+i*2]?=some (za (ts.getD i (0,false)).1)∧cur[off+i*2+1]?=some (.bool (ts.getD i (0,false)).2))
theorem AwV.keep {ts:List (Int×Bool)}(h:AwV w base av ts)(k:qh 174 base w w'):AwV w' base av ts:=by
 obtain⟨d,cap,e,h1,h2,h3⟩:=h;refine⟨d,cap,e,h1,h2,fun h0=>?_⟩;obtain⟨g,b,a,f,c,j,i⟩:=h3 h0;exact⟨g,b,a,f,c,k g a c j,i⟩
structure Pts (w:World)(base:Nat)(s:RS)(sv hv rv av:Value)(es:List Hv):Prop where
 seen:w.ownsRow base 78 64 sv s.seen.length (s.seen.flatten.map (Value.int .u8))
 homes:qD w base hv es
 hs:es.map (fun e=>(e.1,e.2.2))=s.homes
 rV:zM w base 2 rv s.rV
 aw:AwV w base av s.aw
theorem Pts.chg {s:RS}{es:List Hv}(h:Pts w base s sv hv rv av es)(c:zr l r w w')(d:r≤l∨r≤base∨w.heap.size≤l):Pts w' base s sv hv rv av es:=
 ⟨zR h.seen (qh.chg c d),h.homes.keep (qh.chg c d) (qh.chg c d),h.hs,zR h.rV (qh.chg c d),h.aw.keep (qh.chg c d)⟩
theorem Pts.set {s:RS}{es:List Hv}(h:Pts w base s sv hv rv av es)(v:Value)(a:w.heap[R]?=some (zi cs 217)):Pts (w.setCell ⟨R,i,none⟩ v) base s sv hv rv av es:=
 ⟨zR h.seen (qh.set v a zp),h.homes.keep (qh.set v a zp) (qh.set v a zp),h.hs,zR h.rV (qh.set v a zp),h.aw.keep (qh.set v a zp)⟩
structure jj (base:Nat)(w w':World):Prop where
 os:w'.os=w.os
 tape:w'.tape=w.tape
 output:w'.output=w.output
 size:w.heap.size≤w'.heap.size
 low: ∀k,k<base→w'.heap[k]?=w.heap[k]?
 obj: ∀(k:Nat) (o:Obj),w.heap[k]?=some o→o.isCells=false→w'.heap[k]?=some o
theorem jj.trans {a b c:World}(h:jj base a b)(k:jj base b c):jj base a c:=
 ⟨k.os.trans h.os,k.tape.trans h.tape,k.output.trans h.output,nz h.size k.size,fun i hi=>(k.low i hi).trans (h.low i hi),fun i o hi d=>k.obj i o (h.obj i o hi d) d⟩
theorem jj.chg (c:zr 0 0 w w')(b:base≤w.heap.size:=by omega):jj base w w':=
 ⟨c.os,c.tape,c.output,c.size,fun k a=>c.bk k,fun k o a _=>(c.bk k (zE a)).trans a⟩
theorem jj.set (v:Value)(b:w.heap[R]?=some (zi cs T))(f:base≤R):jj base w (w.setCell ⟨R,i,none⟩ v):=by
 have c:zr R (R+1) w (w.setCell ⟨R,i,none⟩ v):=zr.setCell (p:=⟨R,i,none⟩) (zr.refl _ _ _) (Or.inl ⟨mP _,m5 _⟩) _;have g:=(zE b);refine⟨c.os,c.tape,c.output,c.size,fun k a=>c.bk k,fun k o a d=>?_⟩;by_cases e:k=R
 ·subst e;rw[b] at a
  cases a
  cases d
 ·exact(c.bk k (zE a)).trans a
theorem jj.grown {xs:List Value}(g:w.grownBy w' v.ownBlock)(h:w.ownsRow base T size v n xs)(f:base≤w.heap.size:=by omega):jj base w w':=by
 refine⟨g.os,g.tape,g.output,g.size,fun k a=>g.block k zk (fun e=>by have:=(np h k e.symm).1;omega),fun k o a d=>(g.block k (zE a) (fun e=>?_)).trans a⟩;obtain⟨b,c⟩:=zK h e.symm;rw[c] at a
 cases a
 cases d
abbrev rdO (sv:Value) (q:Int) (hv rv av:Value):Obj:=zi #[sv,za q,hv,rv,av] 217
theorem q9 (h:w.heap[R]?=some (rdO sv q hv rv av)):
  w.cell? (zd R)=some sv∧w.cell? ⟨R,1,none⟩=some (za q)∧w.cell? ⟨R,2,none⟩=some hv∧w.cell? ⟨R,3,none⟩=some rv∧w.cell? ⟨R,4,none⟩=some av∧ ∀i,w.frozen? ⟨R,i,none⟩=false:=by
 refine⟨?_,?_,?_,?_,?_,fun i=>by simp[World.frozen?,h]⟩<;>simp[World.cell?,h]
theorem jS (h:w.heap[R]?=some (zi cs t))(v:Value):(w.setCell ⟨R,i,none⟩ v).heap[R]?=some (zi (cs.setIfInBounds i v) t):=by
 obtain⟨a,b⟩:=rF.1 h;show(w.heap.modify R _)[R]?=_;rw[Array.getElem?_eq_getElem (by rw[Array.size_modify];exact a),Array.getElem_modify_self,b];rfl
theorem lj (h:w.heap[R]?=some (rdO sv q hv rv av))(x:Value):(w.setCell (zd R) x).heap[R]?=some (rdO x q hv rv av):=jS h x
theorem ll (h:w.heap[R]?=some (rdO sv q hv rv av))(x:Int):(w.setCell ⟨R,1,none⟩ (za x)).heap[R]?=some (rdO sv x hv rv av):=jS h _
theorem lm (h:w.heap[R]?=some (rdO sv q hv rv av))(x:Value):(w.setCell ⟨R,2,none⟩ x).heap[R]?=some (rdO sv q x rv av):=jS h x
theorem lr (h:w.heap[R]?=some (rdO sv q hv rv av))(x:Value):(w.setCell ⟨R,3,none⟩ x).heap[R]?=some (rdO sv q hv x av):=jS h x
theorem dV (h:w.heap[R]?=some (rdO sv q hv rv av))(x:Value):(w.setCell ⟨R,4,none⟩ x).heap[R]?=some (rdO sv q hv rv x):=jS h x
theorem J0 {B:Nat}(h:w.heap[B]?=some (zi (xs.map (Value.int .u8)).toArray 78))(a:xs.length=64):zC w B (B+1) .u8 (zg B 64 64) xs:=by
 refine⟨_,_,by rw[a],zk,⟨zk,zn⟩,Or.inr ⟨B,0,rfl,mP _,m5 _,fun i hi=>?_⟩⟩;rw[ni];simp[World.cell?,h,hi]
def XV (w:World) (base R:Nat) (s:RS):Prop:= ∃sv hv rv av es,w.heap[R]?=some (rdO sv s.seq hv rv av)∧Pts w base s sv hv rv av es
theorem qh.grownE {xs:List Value}(g:w.grownBy w' v.ownBlock)(h:w.ownsRow b t size v n xs): ∀(j:Nat) (a:Array Value) (T:TypeId),T≠t→w.heap[j]?=some (zi a T)→w'.heap[j]?=some (zi a T):=fun j a _ d c=>
 (qh.grown (base:=0) g h (Ne.symm d)) j a (mX _) c
theorem Xw {a:Act}{W:World}{K:Act→World→Prop}{dv:Value}(xs:List Int)(s x:Operand)
  (C:o.op= .call {callee:= .builtin .append,args:= #[s,x],argTypes:= #[32,32]}) (base:Nat) (v:Value) (d:List Hv) (hs:a.eval s=v) (e:QQ W base v d) (n:base≤W.heap.size)
  (D:a.eval x=zg W.heap.size 1 1) (F:d.length≤90000) (A: ∃a l c,dv=zj a l c)
  (h: ∀g f w',QQ w' base (zg g (d.length+1) f) (d++ [(q,dv,xs)])→(W.alloc (zi #[za q,dv] 68)).grownBy w' v.ownBlock→K (a.put o.dst (zg g (d.length+1) f)) w'):
  o.wp Tryz.prog a (W.alloc (zi #[za q,dv] 68)) K Q:=by
 have z:=e.chg (w':=W.alloc (zi #[za q,dv] 68)) (zr.al W) zk;obtain⟨i,hi,p,r,t⟩:=na Tryz.infoH;refine oS _ s x 32 C base 68 i _ 2 32 Tryz.underlying32 hi p r t rfl zk v d.length _ hs z (zd W.heap.size) 1 1 (ZH [(q,dv,xs)]) D ?_ ?_ ?_ (by unfold maxLen;omega) zk (by simp;omega) ?_
 ·rfl
 ·intro j u B;rw[rM,ni];simp only[World.cell?,zt W _];simpa [ZH] using B
 ·intro u w;obtain⟨a,l,c,rfl⟩:=A;simp[ZH] at w;rcases w with rfl|rfl<;>rfl
 ·intro E w' h1 h2 _;obtain⟨m,b,k⟩: ∃g f,E=zg g (d.length+1) f:=by
   rcases h1.2 with⟨_,h0⟩|⟨m,b,y,k,_⟩
   ·omega
   ·exact⟨m,b,k⟩
  subst k;exact h m b w' (by unfold QQ;rw[mL,bu];exact h1) h2
theorem Pts.homes_app {w1 w2:World}{g cp:Nat}{s:RS}{dv:Value}{es:List Hv}(h:Pts w base s sv hv rv av es)(o:base≤w.heap.size)(u:zu w1 w.heap.size 5 dv xs)(c:zr 0 0 w w1)
  (x:QQ w2 base (zg g (es.length+1) cp) (es++ [(q,dv,xs)])) (e:(w1.alloc (zi #[za q,dv] 68)).grownBy w2 hv.ownBlock):
  Pts w2 base {s with homes:=s.homes++ [(q,xs)]} sv (zg g (es.length+1) cp) rv av (es++ [(q,dv,xs)])∧jj base w w2∧ ∀(j:Nat) (a:Array Value) (T:TypeId),T≠68→w.heap[j]?=some (zi a T)→w2.heap[j]?=some (zi a T):=by
 have n:zr 0 0 w1 (w1.alloc (zi #[za q,dv] 68)):=zr.al w1;have d:=c.trans n;have i:=(h.homes.row.chg c zk).chg n zk;have l:=h.chg d zk;have b:=qh.grownE e i;have m: ∀ {t:TypeId},t≠68→qh t base (w1.alloc (zi #[za q,dv] 68)) w2:=fun y j a _ f=>b j a _ y f;have z:=d.size;refine⟨⟨zR l.seen (m zp),qD.more h.homes o u c x (r:=w2.heap.size) ?_ b,?_,zR l.rV (m zp),l.aw.keep (m zp)⟩,(jj.chg d o).trans (jj.grown e i),fun j a T p f=>b j a T p ((d.bk j (zE f)).trans f)⟩
 ·exact zr.ofGrown e (fun k b v=>⟨(np i k b).1,by have:=e.size;omega⟩)
 ·rw[m6,h.hs];rfl
theorem Pts.revs_app {s:RS}{rv':Value}{es:List Hv}{rs:List Int}(h:Pts w base s sv hv rv av es)(g:w.grownBy w' rv.ownBlock)(a:zM w' base 2 rv' (s.rV++rs)):Pts w' base {s with rV:=s.rV++rs} sv hv rv' av es:=
 ⟨zR h.seen (qh.grown g h.rV zp),h.homes.keep (qh.grown g h.rV zp) (qh.grown g h.rV zp),h.hs,a,h.aw.keep (qh.grown g h.rV zp)⟩
theorem Pts.seen_app {s:RS}{sv':Value}{es:List Hv}{b:List Int}(h:Pts w base s sv hv rv av es)(g:w.grownBy w' sv.ownBlock)(a:w'.ownsRow base 78 64 sv' (s.seen.length+1) (s.seen.flatten.map (Value.int .u8)++b.map (Value.int .u8))):Pts w' base {s with seen:=s.seen++ [b]} sv' hv rv av es:=by
 refine⟨?_,h.homes.keep (qh.grown g h.seen zp) (qh.grown g h.seen zp),h.hs,zR h.rV (qh.grown g h.seen zp),h.aw.keep (qh.grown g h.seen zp)⟩;rw[mL,rP,m6];simpa using a
theorem aq {xs:List Value}(h:w.heap[R]?=some (rdO sv q hv rv av))(g:w.grownBy w' v.ownBlock)(a:w.ownsRow base T size v n xs)(b:T≠217):w'.heap[R]?=some (rdO sv q hv rv av):=
 (qh.grown (base:=0) g a b) R _ (mX _) h
theorem YB (w:World)(h0 h1 h2 h3 kd b a:Int):
  Calls Tryz.prog 128 #[iq h0 h1 h2 h3 kd b a] w fun e w'=>e= .returned (za a)∧zr 0 0 w w':=by
 have c:Hid (zr 0 0 w (w.alloc (zi #[zb h0,zb h1,zb h2,zb h3,za kd,za b,za a] 146))):=zr.al w;go_enter Tryz.func128,Tryz.ntmps128;go_wp2;go_ret;exact⟨rfl,c⟩
theorem U7 (w:World){s:RS}{es:List Hv}{c m:Int}(J:w.heap[R]?=some (rdO sv s.seq hv rv av))(X:base≤R)(U:Pts w base s sv hv rv av es)(T:Za w tL tM tK vL vM vK)(h:(FB.com q c m).ok):
  Calls Tryz.prog 157 #[zh R,.agg ((FB.com q c m).bs.map (Value.int .u8)).toArray] w fun e w'=>(∃v,e= .returned v)∧w'.heap[R]?=some (rdO sv q hv rv av)∧Pts w' base {s with seq:=q} sv hv rv av es∧jj base w w':=by
 have L:=FB.len h;obtain⟨xs,g⟩: ∃xs,xs=(FB.com q c m).bs:=⟨_,rfl⟩;have k:zr 0 0 w (w.alloc (zi (xs.map (Value.int .u8)).toArray 78)):=zr.al w;have Q:=zt w (zi (xs.map (Value.int .u8)).toArray 78);rw[←g] at L⊢;have V:=J0 Q L;have S:=iO _ h (by rw[←g];exact V) (T.chg k zk);have K:=(zE J);have u:=(k.bk R K).trans J;have o:=U.chg k zk;have sA:=k.size;clear Q V U J h L g T;generalize (xs.map (Value.int .u8)).toArray=cs at*
 go_enter Tryz.func157,Tryz.ntmps157;go_wp2_with fail;generalize w.alloc (zi cs 78)=Y at*;refine S.mono ?_;rintro e w1 ⟨rfl,C⟩;have s1:=C.size;have z:=zt w1 (zi #[zb 0,zb 0,zb 0,zb 0,za 0,za 0,za 0,za 0] 148);have E:zr 0 0 w1 (w1.alloc (zi #[zb 0,zb 0,zb 0,zb 0,za 0,za 0,za 0,za 0] 148)):=zr.al w1;have sZ:=E.size;go_upto_region 2 with(refine wpList_store_row rfl 148 (.tmp 4) (.tmp 9) rfl rfl w1.heap.size rfl [zb 106,zb 108,zb 111,zb 103,za 4,za c,za q,za m] [zb 0,zb 0,zb 0,zb 0,za 0,za 0,za 0,za 0] 148 rfl z rfl zl (by simp[Value.oneCell']) ?_;intro M f b)
 have O:zr 0 0 w M:=((k.trans C).trans E).step b;have s2:=b.size;have d:zr 0 0 Y M:=(C.trans E).step b;have x:=(d.bk R).trans u;have p:=o.chg d zk;have B:=(zE f);clear S C z E b d u o k;go_wp2_with fail;refine(Qe M).mono ?_;rintro e F ⟨rfl,j⟩;have A:=(j.bk _ B).trans f;have y:=(j.bk R).trans x;have r:=p.chg j zk;have l:=O.trans j;have s3:=j.size;obtain⟨Z,y1,y2,y3,y4,y5,y6,y7⟩:=eight A;have I:Hid (F.heap[R]?=some (rdO sv s.seq hv rv av)):=y
 have H:Hid (Pts F base s sv hv rv av es):=r;have G:Hid (zr 0 0 w F):=l;clear A f x p O j y r l;go_wp2_with fail;refine(YB F 106 108 111 103 4 c q).mono ?_;rintro e N ⟨rfl,D⟩;have a:=(D.bk R).trans I;have t:=H.chg D zk;have n:=G.trans D;obtain⟨_,x1,_,_,_,P⟩:=q9 a;have f1:=P 1;have W:Hid ((N.setCell ⟨R,1,none⟩ (za q)).heap[R]?=some (rdO sv q hv rv av)∧Pts (N.setCell ⟨R,1,none⟩ (za q)) base {s with seq:=q} sv hv rv av es∧jj base w (N.setCell ⟨R,1,none⟩ (za q))):=by
  refine⟨ll a q,?_,(jj.chg n).trans (jj.set _ a X)⟩;have:=t.set (i:=1) (za q) a;exact⟨this.seen,this.homes,this.hs,this.rV,this.aw⟩
 clear P a t n D Z y1 y2 y3 y4 y5 y6 y7;go_wp2;go_end0;exact⟨⟨_,rfl⟩,W⟩
theorem ZX {a:Act}{K:Act→World→Prop}(s x:Operand)
  (F:o.op= .call {callee:= .builtin .append,args:= #[s,x],argTypes:= #[33,33]})
  (base:Nat) (n:Value) (xs:List Int) (hs:a.eval s=n) (D:zM w base 2 n xs) (d:base≤w.heap.size) (lo hi:Nat) (B:Value) (ys:List Int) (I:a.eval x=B) (H:zC w lo hi .i64 B ys) (A:0<ys.length) (L:xs.length+ys.length≤1048576)
  (h: ∀p w',zM w' base 2 p (xs++ys)→w.grownBy w' n.ownBlock→K (a.put o.dst p) w'):o.wp Tryz.prog a w K Q:=by
 obtain⟨i,hi,r,t,v⟩:=na Tryz.infoI;obtain⟨C,cap,rfl,_,_,f⟩:=H;obtain⟨b,c,rfl,E⟩: ∃b c,C=some ⟨b,c,none⟩∧ ∀i,i<ys.length→w.cell? ⟨b,c+i,none⟩=some (za (ys.getD i 0)):=by
  rcases f with e|⟨b,c,e,_,_,h3⟩
  ·rw[e] at A;simp at A
  ·exact⟨b,c,e,h3⟩
 have q: ∀j u,(ys.map (Value.int .i64))[j]?=some u→w.cell? ((⟨b,c,none⟩:Addr).add j)=some u:=by
  intro j u z;have k:j<ys.length:=by have:=(nD.1 z).1;simpa using this
  rw[rM,E j k,←z];simp[k]
 have m:w.ownsRow base 2 1 n xs.length (xs.map (Value.int .i64)):=D;refine oS _ s x 33 F base 2 i (za 0) 1 8 Tryz.underlying33 hi r t v rfl zp n xs.length (xs.map (Value.int .i64)) hs m ⟨b,c,none⟩ ys.length cap (ys.map (Value.int .i64)) I zn q ?_ (by unfold maxLen;omega) zk d ?_
 ·intro u G;obtain⟨y,_,rfl⟩:=m9.1 G;rfl
 ·intro p J l g _;refine h p J ?_ g;unfold zM;rw[mL,m6];exact l
theorem zM.shape {e:TypeId}(h:zM w base e v xs): ∃a cap,v=zj a xs.length cap:=by
 obtain⟨_,h2⟩:=h;rcases h2 with⟨rfl,h0⟩|⟨g,cap,b,rfl,_⟩
 ·exact⟨none,0,by rw[h0]⟩
 ·exact⟨_,cap,rfl⟩
theorem U8 (w:World){s:RS}{es:List Hv}{rs:List Int}(hR:w.heap[R]?=some (rdO sv s.seq hv rv av))(hb:base≤R)(hP:Pts w base s sv hv rv av es)(hG:Za w tL tM tK vL vM vK)(h:(FB.rev q rs).ok)(ac:s.rV.length≤20000):
  Calls Tryz.prog 155 #[zh R,.agg ((FB.rev q rs).bs.map (Value.int .u8)).toArray] w fun e w'=>e= .returned (.bool true)∧jj base w w'∧ ∃M,w'.heap[R]?=some (rdO sv s.seq hv M av)∧Pts w' base {s with rV:=s.rV++rs} sv hv M av es:=by
 have hl:=FB.len h;obtain⟨xs,u⟩: ∃xs,xs=(FB.rev q rs).bs:=⟨_,rfl⟩;have v:zr 0 0 w (w.alloc (zi (xs.map (Value.int .u8)).toArray 78)):=zr.al w;have hA:=zt w (zi (xs.map (Value.int .u8)).toArray 78);rw[←u] at hl⊢;have hV:=J0 hA hl;have hC:=iR _ h (by rw[←u];exact hV) (hG.chg v zk);have hn:1≤rs.length∧rs.length≤26:=h.2.2;have aa:=(zE hR);have I:=(v.bk R aa).trans hR;have F:=hP.chg v zk;have sA:=v.size
 clear hA hV hP hR h hl u hG;generalize (xs.map (Value.int .u8)).toArray=cs at*;go_enter Tryz.func155,Tryz.ntmps155;go_wp2_with fail;generalize w.alloc (zi cs 78)=wA at*;refine hC.mono ?_;rintro e w1 ⟨g,rfl,hO,Q⟩;have s1:=Q.size;have z:=zt w1 (zi #[zb 0,zb 0,zb 0,zb 0,za 0,za 0,za 0,zc] 201);have B:zr 0 0 w1 (w1.alloc (zi #[zb 0,zb 0,zb 0,zb 0,za 0,za 0,za 0,zc] 201)):=zr.al w1;have sZ:=B.size;go_upto_region 2 with(refine wpList_store_row rfl 201 (.tmp 5) (.tmp 10) rfl rfl w1.heap.size rfl [zb 106,zb 108,zb 111,zb 103,za 3,za (rs.length:Int),za q,zg g rs.length rs.length] [zb 0,zb 0,zb 0,zb 0,za 0,za 0,za 0,zc] 201 rfl z rfl zl (by simp[Value.oneCell']) ?_;intro S p d)
 have c2:zr 0 0 w S:=((v.trans Q).trans B).step d;have s2:=d.size;have k:zr 0 0 wA S:=(Q.trans B).step d;have y:zr 0 0 w1 S:=B.step d;have J:=(k.bk R).trans I;have G:=F.chg k zk;have K:=(zE p);have E:=hO.chg y (fun x _=>zk);clear hC Q z B d k I F v y hO;go_wp2_with fail;refine(Qe S).mono ?_;rintro e a ⟨rfl,l⟩;have r:=(l.bk _ K).trans p;have o:=(l.bk R).trans J;have n:=G.chg l zk;have A:=c2.trans l
 have s3:=l.size;have m:=E.chg l (fun x _=>zk);obtain⟨_,_,_,_,_,_,_,y7⟩:=eight r;obtain⟨_,_,_,x3,_,fr⟩:=q9 o;obtain⟨f,j,rfl⟩:=n.rV.shape;have L:zC a 0 a.heap.size .i64 (zg g rs.length rs.length) rs:=by
  refine⟨_,_,rfl,zk,⟨mP _,zn⟩,Or.inr ⟨g,0,rfl,mX _,(m.lt g rfl).2,fun i hi=>?_⟩⟩;have:=nA m i (by simpa using hi);rw[ni,this];simp[hi]
 have V:Hid (Pts a base s sv hv (zj f s.rV.length j) av es):=n;have W:Hid (a.heap[R]?=some (rdO sv s.seq hv (zj f s.rV.length j) av)):=o;have T:Hid (zr 0 0 w a):=A;have Y:Hid (zC a 0 a.heap.size .i64 (zg g rs.length rs.length) rs):=L;have HS:Hid ((fun w':World=>w'.cell? ⟨R,3,none⟩=some (zj f s.rV.length j)∧w'.heap[w1.heap.size]?=some (zi (List.toArray [zb 106,zb 108,zb 111,zb 103,za 3,za (rs.length:Int),za q,zg g rs.length rs.length]) 201)) a.drew):=⟨x3,r⟩
 clear E G J p l c2 m n o A L r;go_wp2;refine wRg 12 (fun w':World=>w'.cell? ⟨R,3,none⟩=some (zj f s.rV.length j)∧w'.heap[w1.heap.size]?=some (zi (List.toArray [zb 106,zb 108,zb 111,zb 103,za 3,za (rs.length:Int),za q,zg g rs.length rs.length]) 201)) ?_;have b:Hid (Pts a.drew base s sv hv (zj f s.rV.length j) av es):=V.chg (zr.drew (zr.refl 0 0 a)) zk;have X:Hid (a.drew.heap[R]?=some (rdO sv s.seq hv (zj f s.rV.length j) av)):=W.out
 have U:Hid (zr 0 0 w a.drew):=T.drew;have Z:Hid (zC a.drew 0 a.heap.size .i64 (zg g rs.length rs.length) rs):=Y.out;have ad:a.heap.size≤a.drew.heap.size:=mP _;generalize a.drew=wd at*;refine wT2 0 (zh R) rfl ?_;go_simp;refine wT2 1 (zh R) rfl ?_;go_simp;refine wT2 2 (zh R) rfl ?_;go_simp;refine wT2 3 (.pointer (some ⟨R,1,none⟩)) rfl ?_;go_simp;refine wT2 4 (.pointer (some ⟨R,3,none⟩)) rfl ?_;go_simp
 refine wTk 5 (zj f s.rV.length j) rfl (fun w' t=>by have h4:=t.1;go_simp) HS.out ?_;go_simp;refine wT2 6 (.pointer (some ⟨w1.heap.size,7,none⟩)) rfl ?_;go_simp;refine wTk 7 (zg g rs.length rs.length) rfl (fun w' t=>by obtain⟨_,_,_,_,_,_,_,h4⟩:=eight t.2;go_simp) HS.out ?_;go_simp;refine wOn 8 rfl ?_;refine ZX (.tmp 19) (.tmp 21) rfl base (zj f s.rV.length j) s.rV rfl b.rV zk 0 a.heap.size (zg g rs.length rs.length) rs rfl Z zk zk ?_
 intro v' w4 o4 C;obtain⟨N,O,rfl⟩:=o4.shape;generalize (s.rV++rs).length=P at*;have c:=aq X C b.rV zp;have H:=b.revs_app C o4;have D:=(jj.chg U).trans (jj.grown C b.rV);obtain⟨_,_,_,e3,_,fr⟩:=q9 c;have f3:=fr 3;have ab:=(qh.grown (base:=0) C b.rV zp) w1.heap.size _ (mX _) HS.2;refine⟨fun _=>⟨e3,ab⟩,?_⟩;have HF:Hid (jj base w (w4.setCell ⟨R,3,none⟩ (zj N P O))∧(w4.setCell ⟨R,3,none⟩ (zj N P O)).heap[R]?=some (rdO sv s.seq hv (zj N P O) av)∧Pts (w4.setCell ⟨R,3,none⟩ (zj N P O)) base {s with rV:=s.rV++rs} sv hv (zj N P O) av es):=
  ⟨D.trans (jj.set _ c hb),lr c _,H.set _ c⟩
 clear c H D fr o4 C;go_simp;refine wOn 9 rfl ?_;go_simp;refine wOn 10 rfl ?_;go_simp;refine wOn 11 rfl ?_;go_simp;refine wOn 12 rfl ?_;go_simp;refine wDn ?_;go_wp2;go_ret;exact⟨rfl,HF.1,_,HF.2⟩
def Good (n:Nat) (p:Wr):Prop:=0≤p.1∧p.1<(n:Int)∧p.2.length=64
def qL (d:Dsk):Prop:=d.dR.length % 64=0∧1≤d.dR.length/64∧d.dR.length/64≤2048∧d.pN.length≤600∧ ∀i,i<d.pN.length→Good (d.dR.length/64) (d.pN.getD i (0,[]))
def il (n:Nat) (p:Wr):Bool:=decide (0≤p.1)&& (decide (p.1<(n:Int))&& (p.2.length==64))
def qC (d:Dsk):Bool:=(d.dR.length % 64==0)&& (decide (1≤d.dR.length/64)&& (decide (d.dR.length/64≤2048)&& (decide (d.pN.length≤600)&& (List.range d.pN.length).all fun i=>il (d.dR.length/64) (d.pN.getD i (0,[])))))
theorem fi (n:Nat)(p:Wr):il n p=true↔Good n p:=by simp[il,Good]
theorem Qi (d:Dsk):qC d=true↔qL d:=by simp only[qC,qL,Bool.and_eq_true,beq_iff_eq,pJ,List.all_eq_true,pq,fi]
theorem jJ {d:Dsk}(h:qL d):qC d=true:=(Qi d).2 h
theorem qU {d:Dsk}(h: ¬qL d):qC d=false:=by
 cases e:qC d with
 |false=>rfl
 |true=>exact absurd ((Qi d).1 e) h
theorem QM (w:World)(a:Option Addr)(n cap:Nat)(b:Value)(c:n≤9223372036854775807:=by omega):
  Calls Tryz.prog 88 #[.agg #[zj a n cap,b]] w fun e w'=>e= .returned (za ((n/64:Nat):Int))∧zr 0 0 w w':=by
 go_enter Tryz.func88,Tryz.ntmps88;go_wp2;go_ret;exact⟨lu,zr.al w⟩
theorem Vh (w:World){d:Dsk}(h1:Zw w lo hi a d):
  Calls Tryz.prog 87 #[a] w fun e w'=>e= .returned (.bool (qC d))∧zr 0 0 w w':=by
 obtain⟨R,pv,rfl,Y,W⟩:=h1;obtain⟨Z,cap,rfl,E,_,_⟩:=Y;obtain⟨M,L,rfl,U,_,o⟩:=W;go_enter Tryz.func87,Tryz.ntmps87;go_wp2_with fail;refine(QM _ _ _ _ _ E).mono ?_;rintro e t ⟨rfl,D⟩;have G:=(D.bk w.heap.size zn).trans (zt _ _);obtain⟨x0,x1,_,_⟩:=zw G;have c:zr 0 0 w t:=(zr.al w).trans D;clear D G;by_cases N:d.dR.length % 64=0
 case neg=>
  have l:Hid (qC d=false):=qU (fun h=>N h.1);have F:((d.dR.length:Int) % 64 !=0)=true:=by simp;omega
  clear o;go_wp2;go_ret;exact⟨by rw[l.out];rfl,c⟩
 have F:((d.dR.length:Int) % 64 !=0)=false:=by simp;omega
 by_cases O:1≤d.dR.length/64
 case neg=>
  have l:Hid (qC d=false):=qU (fun h=>O h.2.1);have X:((d.dR.length/64:Nat):Int)<1:=zk;clear o;go_wp2;go_ret;exact⟨by rw[l.out];rfl,c⟩
 by_cases P:d.dR.length/64≤2048
 case neg=>
  have l:Hid (qC d=false):=qU (fun h=>P h.2.2.1);clear o;go_wp2;go_ret;exact⟨by rw[l.out];rfl,c⟩
 by_cases Q:d.pN.length≤600
 case neg=>
  have l:Hid (qC d=false):=qU (fun h=>Q h.2.2.2.1);clear o;go_wp2;go_ret;exact⟨by rw[l.out];rfl,c⟩
 have m: ∀k,k<d.pN.length→ ∃b f n g,M=some ⟨b,f,none⟩∧t.cell? ⟨b,f+k*2,none⟩=some (za (d.pN.getD k (0,[])).1)∧t.cell? ⟨b,f+k*2+1,none⟩=some (zj n (d.pN.getD k (0,[])).2.length g):=by
  intro k x;rcases o with e|⟨b,f,e,_,_,h⟩
  ·rw[e] at x;simp at x
  ·obtain⟨R,z,A,n,g,rfl,_⟩:=h k x;exact⟨b,f,n,g,e,c.cell z,c.cell A⟩
 clear o;have y:Hid (∀k,k<d.pN.length→ ∃b f n g,M=some ⟨b,f,none⟩∧t.cell? ⟨b,f+k*2,none⟩=some (za (d.pN.getD k (0,[])).1)∧t.cell? ⟨b,f+k*2+1,none⟩=some (zj n (d.pN.getD k (0,[])).2.length g)):=m;clear m;go_wp2;go_loop [4] (fun i=> ∃k:Nat,k≤d.pN.length∧i=za k∧ ∀j,j<k→Good (d.dR.length/64) (d.pN.getD j (0,[]))) (fun i=>d.pN.length-(intOf i).toNat)
 case atStart=>exact⟨0,mX _,rfl,by intro j K;omega⟩
 case round=>
  obtain⟨k,x,rfl,r⟩:=hrel;have v:Hid (∀j,j<k→Good (d.dR.length/64) (d.pN.getD j (0,[]))):=r;clear r;by_cases s:k<d.pN.length
  case neg=>
   obtain rfl:k=d.pN.length:=zk;have l:Hid (qC d=true):=jJ ⟨N,O,P,Q,v⟩;clear v y;go_wp2;go_ret;exact⟨by rw[l.out];rfl,c⟩
  obtain⟨b,f,n,g,rfl,z,A⟩:=y.out k s;have u:Hid (¬Good (d.dR.length/64) (d.pN.getD k (0,[]))→qC d=false):=fun h=>qU (fun V=>h (V.2.2.2.2 k s));have HS:Hid (Good (d.dR.length/64) (d.pN.getD k (0,[]))→ ∀j,j<k+1→Good (d.dR.length/64) (d.pN.getD j (0,[]))):=by
   intro h j K;rcases Nat.lt_succ_iff_lt_or_eq.1 K with S|rfl
   ·exact v j S
   ·exact h
  clear v y;have T:(k:Int)<(d.pN.length:Int):=zk;generalize d.pN.getD k (0,[])=p at*;obtain⟨q,xs⟩:=p;simp only at z A;by_cases I:0≤q
  case neg=>
   have l:Hid (qC d=false):=u.out (fun h=>I h.1);go_wp2;go_ret;exact⟨by rw[l.out];rfl,c⟩
  by_cases J:q<((d.dR.length/64:Nat):Int)
  case neg=>
   have l:Hid (qC d=false):=u.out (fun h=>J h.2.1);go_wp2;go_ret;exact⟨by rw[l.out];rfl,c⟩
  by_cases B:xs.length=64
  case neg=>
   have l:Hid (qC d=false):=u.out (fun h=>B h.2.2);have C:((xs.length:Int) !=64)=true:=by simp;omega
   go_wp2;go_ret;exact⟨by rw[l.out];rfl,c⟩
  have H:=HS.out ⟨I,J,B⟩;have HN':Hid (∀j,j<k+1→Good (d.dR.length/64) (d.pN.getD j (0,[]))):=H;clear H HS u;have C:((xs.length:Int) !=64)=false:=by simp;omega
  clear B;go_wp2;go_round
  case rel=>exact⟨k+1,zk,by go_num,HN'.out⟩
  case measure=>simp[intOf];omega
theorem JR (w:World){d:Dsk}(h1:Zw w lo hi a d):
  Calls Tryz.prog 54 #[a] w fun e w'=>e= .returned (.bool (qC d))∧zr 0 0 w w':=by
 obtain⟨P,Z,rfl,Y,V⟩:=h1;obtain⟨O,cap,rfl,S,_,_⟩:=Y;obtain⟨L,u,rfl,T,_,l⟩:=V;have r:Hid (zr 0 0 w (w.alloc (zi #[zj O d.dR.length cap,zj L d.pN.length u] 26))):=zr.al w;by_cases W:d.dR.length=0
 case pos=>
  have f:Hid (qC d=false):=qU (fun h=>by have:=h.2.1;omega);have E:((d.dR.length:Int)==0)=true:=by rw[beq_iff_eq];omega
  clear l W;go_enter Tryz.func54,Tryz.ntmps54;go_wp2;go_ret;exact⟨by rw[f.out];rfl,r⟩
 have E:((d.dR.length:Int)==0)=false:=by rw[beq_eq_false_iff_ne];omega
 by_cases t3:d.dR.length≤131072
 case neg=>
  have f:Hid (qC d=false):=qU (fun h=>by have:=h.2.2.1;have:=h.1;omega);clear l;go_enter Tryz.func54,Tryz.ntmps54;go_wp2;go_ret;exact⟨by rw[f.out];rfl,r⟩
 by_cases M:d.dR.length % 64=0
 case neg=>
  have f:Hid (qC d=false):=qU (fun h=>M h.1);have F:((d.dR.length:Int) % 64 !=0)=true:=by simp;omega
  clear l;go_enter Tryz.func54,Tryz.ntmps54;go_wp2;go_ret;exact⟨by rw[f.out];rfl,r⟩
 have F:((d.dR.length:Int) % 64 !=0)=false:=by simp;omega
 by_cases N:d.pN.length≤600
 case neg=>
  have f:Hid (qC d=false):=qU (fun h=>N h.2.2.2.1);clear l;go_enter Tryz.func54,Tryz.ntmps54;go_wp2;go_ret;exact⟨by rw[f.out];rfl,r⟩
 have z:Hid (∀wr,zr 0 0 w wr→ ∀k,k<d.pN.length→ ∃b m n c,L=some ⟨b,m,none⟩∧wr.cell? ⟨b,m+k*2,none⟩=some (za (d.pN.getD k (0,[])).1)∧wr.cell? ⟨b,m+k*2+1,none⟩=some (zj n (d.pN.getD k (0,[])).2.length c)):=by
  intro wr g k y;rcases l with e|⟨b,m,e,_,_,h⟩
  ·rw[e] at y;simp at y
  ·obtain⟨P,A,B,n,c,rfl,_⟩:=h k y;exact⟨b,m,n,c,e,g.cell A,g.cell B⟩
 clear l;have X:Hid (1≤d.dR.length/64):=by show 1≤_;omega
 have G:Hid (d.dR.length/64≤2048):=by show _≤2048;omega
 go_enter Tryz.func54,Tryz.ntmps54;go_wp2;go_loopw [30] (fun i wr=>zr 0 0 w wr∧ ∃k:Nat,k≤d.pN.length∧i=za k∧ ∀j,j<k→Good (d.dR.length/64) (d.pN.getD j (0,[]))) (fun i _=>d.pN.length-(intOf i).toNat)
 case atStart=>exact⟨r,0,mX _,rfl,by intro j K;omega⟩
 case round=>
  obtain⟨g,k,y,rfl,s⟩:=hrel;have x:Hid (∀j,j<k→Good (d.dR.length/64) (d.pN.getD j (0,[]))):=s;clear s;by_cases t:k<d.pN.length
  case neg=>
   obtain rfl:k=d.pN.length:=zk;have f:Hid (qC d=true):=jJ ⟨M,X.out,G.out,N,x⟩;clear x z;go_wp2;go_ret;exact⟨by rw[f.out];rfl,g⟩
  obtain⟨b,m,n,c,rfl,A,B⟩:=z.out wr g k t;have v:Hid (¬Good (d.dR.length/64) (d.pN.getD k (0,[]))→qC d=false):=fun h=>qU (fun U=>h (U.2.2.2.2 k t));have HS:Hid (Good (d.dR.length/64) (d.pN.getD k (0,[]))→ ∀j,j<k+1→Good (d.dR.length/64) (d.pN.getD j (0,[]))):=by
   intro h j K;rcases Nat.lt_succ_iff_lt_or_eq.1 K with Q|rfl
   ·exact x j Q
   ·exact h
  clear x z;have R:(k:Int)<(d.pN.length:Int):=zk;generalize d.pN.getD k (0,[])=p at*;obtain⟨q,xs⟩:=p;simp only at A B;have o:Hid (zr 0 0 w (wr.alloc (zi #[za q,zj n xs.length c] 100))):=g.alloc _;clear r g;by_cases I:0≤q
  case neg=>
   have f:Hid (qC d=false):=v.out (fun h=>I h.1);go_wp2;go_ret;exact⟨by rw[f.out];rfl,o⟩
  by_cases J:q<((d.dR.length/64:Nat):Int)
  case neg=>
   have f:Hid (qC d=false):=v.out (fun h=>J h.2.1);go_wp2;go_ret;exact⟨by rw[f.out];rfl,o⟩
  by_cases C:xs.length=64
  case neg=>
   have f:Hid (qC d=false):=v.out (fun h=>C h.2.2);have D:((xs.length:Int) !=64)=true:=by simp;omega
   go_wp2;go_ret;exact⟨by rw[f.out];rfl,o⟩
  have H:=HS.out ⟨I,J,C⟩;have HN':Hid (∀j,j<k+1→Good (d.dR.length/64) (d.pN.getD j (0,[]))):=H;clear H HS v;have D:((xs.length:Int) !=64)=false:=by simp;omega
  clear C;go_wp2;go_roundw
  case rel=>exact⟨o.out,k+1,zk,by go_num,HN'.out⟩
  case measure=>simp[intOf];omega
abbrev oK:= @Obj.cells.injEq
abbrev pG:= @run_underlying
abbrev sK:= @run_storeCells_cells
abbrev tE:= @World.there_setCells
theorem Tryz.infoK:(Tryz.prog.info? 78).map (fun i=>(i.zero,i.size,i.bytes))=some (some (.agg (List.replicate 64 (Value.int .u8 0)).toArray),64,64):=zl
theorem Tryz.infoC:(Tryz.prog.info? 102).map (fun i=>(i.zero,i.size,i.bytes))=some (some (.agg (za 0::List.replicate 64 (Value.int .u8 0)).toArray),65,72):=zl
def Vk (n:Nat):Array Value:=madeCells (List.replicate 64 (Value.int .u8 0)).toArray (n*64)
def Xz (n:Nat):Array Value:=madeCells (za 0::List.replicate 64 (Value.int .u8 0)).toArray (n*65)
theorem mh (w:World)(x:Int)(h0:0≤x:=by omega)(h1:x≤2048:=by omega):
  (Instr.makeSlice 96 (za x) (za x)).run Tryz.prog w= .ok (zg w.heap.size x.toNat x.toNat) (w.alloc (zi (Vk x.toNat) 78)):=by
 obtain⟨i,hi,a,b,c⟩:=na Tryz.infoK;have:=run_make (P:=Tryz.prog) w 96 78 i _ Tryz.underlying96 hi a .i64 .i64 x x h0 (pd _) (by rw[c];omega) zk;rw[this,b];rfl
theorem k9 (w:World)(x:Int)(h0:0≤x:=by omega)(h1:x≤600:=by omega):
  (Instr.makeSlice 97 (za x) (za x)).run Tryz.prog w= .ok (zg w.heap.size x.toNat x.toNat) (w.alloc (zi (Xz x.toNat) 102)):=by
 obtain⟨i,hi,a,b,c⟩:=na Tryz.infoC;have:=run_make (P:=Tryz.prog) w 97 102 i _ Tryz.underlying97 hi a .i64 .i64 x x h0 (pd _) (by rw[c];omega) zk;rw[this,b];rfl
theorem XR {P:Program}{ops:Array Oper}{a:Act}{K:Act→World→Prop}{E:Prop}(u:o.guard=none)(d s:Operand)(r z:TypeId)
  (C:o.op= .call {callee:= .builtin .copy,args:= #[d,s],argTypes:= #[r,z]}) (c:TypeId) (D:P.underlying r=some (.slice c)) (x:(P.info? c).map (·.size)=some 1)
  (g i b k:Nat) (q:Addr) (e l:Nat) (A:a.eval d=zj (some ⟨g,i,none⟩) b k) (hs:a.eval s=zj (some q) e l)
  (f:List Value) (t:TypeId) (y:w.heap[g]?=some (zi f.toArray t)) (cs:List Value) (B:cs.length=Nat.min e b)
  (p: ∀j v,cs[j]?=some v→w.cell? (q.add j)=some v) (m:i+cs.length≤f.length) (h1: ∀v∈cs,v.oneCell'=true)
  (h: ∀w',Hid (w'.heap[g]?=some (zi (splice f i cs).toArray t))→zr g (g+1) w w'→K (a.put o.dst (goInt cs.length)) w'):
  if Region.wanted o (yielded ops a.tmps)=true then Oper.wp P o a w K Q else E:=by
 have F:Region.wanted o (yielded ops a.tmps)=true:=by simp[Region.wanted,u]
 rw[mM F];have n:=run_copy_row (P:=P) w r z o.type c g i b k q e l f.toArray t cs D x y B p (by simpa using m) h1;unfold Oper.wp;simp[execOp,C,resolve,invoke,builtin,A,hs,n,Result.andThen];exact h _ (show _=_ by simpa [splice] using setRow_heap w g _ _ t _ y) (zr.setRow _ _ _)
theorem XI (w:World)(a:Addr)(cap:Nat):(Instr.arrayAt 78 (zj (some a) 64 cap)).run Tryz.prog w= .ok (.pointer (some a)) w:=by
 simp[Instr.arrayAt,pG Tryz.underlying78]
def Qp (xs:List Int) (n k:Nat):List Value:=(xs.take (k*64)).map (Value.int .u8)++List.replicate ((n-k)*64) (zb 0)
theorem VU (z:Value)(m n:Nat)(b:0<m):(madeCells (List.replicate m z).toArray n).toList=List.replicate n z:=by
 apply rC;intro j;by_cases a:j<n
 ·have:j % m<m:=nF _ b;simp[madeCells,a,this]
 ·simp[madeCells,a]
theorem lF (xs:List Int)(n:Nat):Vk n=(Qp xs n 0).toArray:=by
 apply rZ;unfold Vk Qp;rw[VU _ _ _ zp,pZ,oI,pU,nG,Nat.sub_zero]
theorem Kx (xs:List Int)(n k:Nat)(h:xs.length=n*64)(a:k≤n):(Qp xs n k).length=n*64:=by
 unfold Qp;simp only[mL,mO,mW,nC];have:k*64≤n*64:=Nat.mul_le_mul_right _ a;rw[ol zk,Nat.sub_mul];omega
theorem Ky (xs:List Int)(n k:Nat)(h:xs.length=n*64)(d:k<n):splice (Qp xs n k) (k*64) (((xs.drop (k*64)).take 64).map (Value.int .u8))=Qp xs n (k+1):=by
 have h1:(((xs.drop (k*64)).take 64).map (Value.int .u8)).length=64:=by simp;omega
 have c:((xs.take (k*64)).map (Value.int .u8)).length=k*64:=by simp;omega
 unfold splice;rw[h1];have a:(Qp xs n k).take (k*64)=(xs.take (k*64)).map (Value.int .u8):=by
  unfold Qp;rw[oG zk,ny zk]
 have b:(Qp xs n k).drop (k*64+64)=List.replicate ((n-(k+1))*64) (zb 0):=by
  unfold Qp;rw[pY,oZ zk,c,nG,tu];congr 1;have:(n-k)*64=(n-(k+1))*64+64:=by rw[show n-k=(n-(k+1))+1 from zk,Nat.add_mul]
  omega
 rw[a,b];unfold Qp;rw[←nk,←m6];congr 2;rw[show(k+1)*64=k*64+64 from zk,List.take_add]
theorem NV (xs:List Int)(n:Nat)(h:xs.length=n*64:=by omega):Qp xs n n=xs.map (Value.int .u8):=by
 unfold Qp;rw[pf,pZ,rK,nw,ny zk]
def j9 (p:Wr):List Value:=za p.1::p.2.map (Value.int .u8)
def flat (ps:List Wr):List Value:=ps.flatMap j9
theorem ZM (n:Nat)(ps:List Wr)(h: ∀i,i<ps.length→Good n (ps.getD i (0,[]))):(flat ps).length=ps.length*65:=by
 induction ps with
 |nil=>rfl
 |cons p r ih=>
  have h0:=(h 0 zn).2.2;have a:=ih (fun i hi=>by have:=h (i+1) (by simpa using hi);simpa using this);simp only[flat,nX,mL,m7] at*;rw[a];simp[j9] at*;omega
theorem Kz (a b:List Wr):flat (a++b)=flat a++flat b:=by simp[flat]
def XD (ps:List Wr) (m k:Nat):List Value:=flat (ps.take k)++(Xz m).toList.drop (k*65)
theorem Kw (m:Nat):(Xz m).toList.length=m*65:=by simp[Xz,madeCells]
theorem fE (ps:List Wr)(m:Nat):(XD ps m 0).toArray=Xz m:=by simp[XD,flat]
theorem YZ {k:Nat}{ps:List Wr}(h: ∀i,i<ps.length→Good n (ps.getD i (0,[]))): ∀i,i<(ps.take k).length→Good n ((ps.take k).getD i (0,[])):=by
 intro i hi;rw[mW] at hi;have:=h i zk;simp only[mV,oA] at*;rw[mM zk];exact this
theorem ai (ps:List Wr)(k:Nat)(h: ∀i,i<ps.length→Good n (ps.getD i (0,[])))(a:k≤ps.length):(XD ps ps.length k).length=ps.length*65:=by
 unfold XD;rw[mL,ZM n _ (YZ h),mW,ol a,m8,Kw];omega
theorem aj (ps:List Wr)(k:Nat)(h: ∀i,i<ps.length→Good n (ps.getD i (0,[])))(a:k<ps.length):
  splice (XD ps ps.length k) (k*65) (j9 (ps.getD k (0,[])))=XD ps ps.length (k+1):=by
 have d:(flat (ps.take k)).length=k*65:=by rw[ZM n _ (YZ h),mW,ol zk]
 have e:(j9 (ps.getD k (0,[]))).length=65:=by
  have:=(h k a).2.2;simp only[j9,m7,mO,this]
 unfold splice;rw[e];have b:(XD ps ps.length k).take (k*65)=flat (ps.take k):=by
  unfold XD;rw[oG zk,ny zk]
 have c:(XD ps ps.length k).drop (k*65+65)=(Xz ps.length).toList.drop ((k+1)*65):=by
  unfold XD;rw[pY,oZ zk,d,nG,pK];congr 1;omega
 rw[b,c];unfold XD;rw[oy a,Kz,nk];congr 2;simp[flat,a]
theorem iK (ps:List Wr):XD ps ps.length ps.length=flat ps:=by
 unfold XD;rw[nV,oZ (by rw[Kw];exact mP _),nw]
theorem Qz (a:Nat): ∀(cs:List Value) (k:Nat) (A:Array Value),a+k+cs.length≤A.size→
  ((cs.zipIdx k).foldl (fun(B:Array Value) (p:Value×Nat)=>B.setIfInBounds (a+p.2) p.1) A).toList=splice A.toList (a+k) cs
 | [],_,A,_=>by simp[splice]
 |c::r,k,A,h=>by
  rw[List.zipIdx_cons,rN,Qz a r (k+1) _ (by simp at*;omega)]
  simp only[Array.toList_setIfInBounds]
  rw[show a+(k+1)=a+k+1 from by omega,QW _ _ _ _ (by simp at*;omega)]
def Z65:Array Value:=(za 0::List.replicate 64 (Value.int .u8 0)).toArray
theorem KV (w:World):(zeroValue 102).run Tryz.prog w= .ok (.agg Z65) w:=by
 obtain⟨i,hi,a,b,c⟩:=na Tryz.infoC;simp only[zeroValue,typeInfo,Sem.run_bind];simp[hi,a,Z65]
theorem Jb:Z65.size=65:=by simp[Z65]
theorem KC (q:Int)(cs:List Value)(h:cs.length=64):
  List.foldl (fun(B:Array Value) (x:Value×Nat)=>B.setIfInBounds (1+x.2) x.1) (Z65.setIfInBounds 0 (za q)) cs.zipIdx=(Value.int .i64 q::cs).toArray:=by
 apply rZ;rw[Qz 1 cs 0 _ (by rw[Array.size_setIfInBounds,Jb];omega)];have b:Z65.toList.length=65:=by rw[rX,Jb]
 simp only[Array.toList_setIfInBounds];unfold splice;have c:(Z65.toList.set 0 (Value.int .i64 q)).drop (1+0+cs.length)= []:=oZ (by rw[ou];omega);rw[c,nw]
 cases hz:Z65.toList with
 |nil=>rw[hz] at b;simp at b
 |cons a r=>simp
def Dev (w:World) (base p:Nat) (d:Dsk):Prop:= ∃gD pv,qL d∧base≤p∧
 w.heap[p]?=some (zi #[zg gD (d.dR.length/64) (d.dR.length/64),pv] 99)∧
 w.ownsRow base 78 64 (zg gD (d.dR.length/64) (d.dR.length/64)) (d.dR.length/64) (d.dR.map (Value.int .u8))∧
 w.ownsRow base 102 65 pv d.pN.length (flat d.pN)
structure gu (W w w1:World)(gD gP n m:Nat):Prop where
 size:W.heap.size=w1.heap.size+3
 dR:W.heap[gD]?=some (zi (Vk n) 78)
 pN:W.heap[gP]?=some (zi (Xz m) 102)
 box:W.heap[w1.heap.size+1+1]?=some (zi #[zg gD n n,zg gP m m] 99)
 d1:w1.heap.size≤gD
 d2:gD<w1.heap.size+2
 p1:w1.heap.size≤gP
 p2:gP<w1.heap.size+2
 chg:zr 0 0 w W
 arg:W.heap[w.heap.size]?=w1.heap[w.heap.size]?
theorem Q2 (w:World){d:Dsk}(h1:Zw w lo hi a d)(h:qC d=false):
  Calls Tryz.prog 24 #[a] w fun e w'=>e= .returned (.tuple #[.pointer none,.bool false])∧zr 0 0 w w':=by
 have f:=h1;obtain⟨m,o,rfl,j,i⟩:=h1;obtain⟨l,cap,rfl,_,_,_⟩:=j;obtain⟨n,c,rfl,_,_,_⟩:=i;go_enter Tryz.func24,Tryz.ntmps24;go_wp2_with fail;refine(JR _ (f.chg (zr.al w) zk)).mono ?_;rintro e k ⟨rfl,g⟩;have b:zr 0 0 w k:=(zr.al w).trans g;rw[h];go_wp2;go_ret2;exact⟨rfl,b⟩
theorem ZV (w:World){d:Dsk}(h1:Zw w lo hi a d)(hv:qL d):
  Calls Tryz.prog 24 #[a] w fun e w'=> ∃p,e= .returned (.tuple #[zh p,.bool true])∧Dev w' w.heap.size p d∧zr 0 0 w w':=by
 have d0:=h1;have au:=jJ hv;obtain⟨dv,pv,rfl,v1,p1⟩:=h1;obtain⟨ao,cap,rfl,aA,⟨av,_⟩,am⟩:=v1;obtain⟨po,aw,rfl,aB,_,ar⟩:=p1;obtain⟨g1,g2,g3,g4,g5⟩:=hv;obtain⟨b,off,rfl,X⟩: ∃b off,ao=some ⟨b,off,none⟩∧ ∀i,i<d.dR.length→w.cell? ⟨b,off+i,none⟩=some (zb (d.dR.getD i 0)):=by
  rcases am with e|⟨b,off,e,_,_,h⟩
  ·rw[e] at g2;simp at g2
  ·exact⟨b,off,e,h⟩
 have M:Hid _:=X;have Q:Hid _:=ar;have m:Hid _:=g5;go_enter Tryz.func24,Tryz.ntmps24;go_wp2_with fail;refine(JR _ (d0.chg (zr.al w) zk)).mono ?_;rintro e w1 ⟨rfl,z⟩;have W:zr 0 0 w w1:=(zr.al w).trans z;have B0:=(z.bk w.heap.size zn).trans (zt _ _);obtain⟨x0,x1,_,_⟩:=zw B0;have s1:w.heap.size<w1.heap.size:=by have:=z.size;simp at this;omega
 rw[au];have ap:=fun w=>mh w ((d.dR.length:Int)/64);have aq:=fun w=>k9 w (d.pN.length:Int);obtain⟨N,hN⟩: ∃N,N=d.dR.length/64:=⟨_,rfl⟩;have k1:=JZ w1 (zi (Vk (d.dR.length/64)) 78) (zi (Xz d.pN.length) 102) (zi #[zg w1.heap.size (d.dR.length/64) (d.dR.length/64),zg (w1.heap.size+1) d.pN.length d.pN.length] 99);have k2:=JZ w1 (zi (Xz d.pN.length) 102) (zi (Vk (d.dR.length/64)) 78) (zi #[zg (w1.heap.size+1) (d.dR.length/64) (d.dR.length/64),zg w1.heap.size d.pN.length d.pN.length] 99)
 have E:Hid (∃gD gP,gu ((((w1.alloc (zi (Vk (d.dR.length/64)) 78)).alloc (zi (Xz d.pN.length) 102)).alloc (zi #[zg w1.heap.size (d.dR.length/64) (d.dR.length/64),zg (w1.heap.size+1) d.pN.length d.pN.length] 99)).drew) w w1 gD gP (d.dR.length/64) d.pN.length):=
  ⟨w1.heap.size,w1.heap.size+1,k1.1,k1.2.1,k1.2.2.1,k1.2.2.2,zk,zk,zk,zk,(((W.alloc _).alloc _).alloc _).drew,by have:=((((zr.refl 0 0 w1).alloc (zi (Vk (d.dR.length/64)) 78)).alloc (zi (Xz d.pN.length) 102)).alloc (zi #[zg w1.heap.size (d.dR.length/64) (d.dR.length/64),zg (w1.heap.size+1) d.pN.length d.pN.length] 99)).bk w.heap.size s1;exact this⟩
 have F:Hid (∃gD gP,gu ((((w1.alloc (zi (Xz d.pN.length) 102)).alloc (zi (Vk (d.dR.length/64)) 78)).alloc (zi #[zg (w1.heap.size+1) (d.dR.length/64) (d.dR.length/64),zg w1.heap.size d.pN.length d.pN.length] 99)).drew) w w1 gD gP (d.dR.length/64) d.pN.length):=
  ⟨w1.heap.size+1,w1.heap.size,k2.1,k2.2.2.1,k2.2.1,k2.2.2.2,zk,zk,zk,zk,(((W.alloc _).alloc _).alloc _).drew,by have:=((((zr.refl 0 0 w1).alloc (zi (Xz d.pN.length) 102)).alloc (zi (Vk (d.dR.length/64)) 78)).alloc (zi #[zg (w1.heap.size+1) (d.dR.length/64) (d.dR.length/64),zg w1.heap.size d.pN.length d.pN.length] 99)).bk w.heap.size s1;exact this⟩
 go_wp2;go_region
 all_goals go_wp2_with fail
 generalize (((w1.alloc (zi (Vk (d.dR.length/64)) 78)).alloc (zi (Xz d.pN.length) 102)).alloc (zi #[zg w1.heap.size (d.dR.length/64) (d.dR.length/64),zg (w1.heap.size+1) d.pN.length d.pN.length] 99)).drew=W5 at E⊢;have Z:=E.out;rotate_left;generalize (((w1.alloc (zi (Xz d.pN.length) 102)).alloc (zi (Vk (d.dR.length/64)) 78)).alloc (zi #[zg (w1.heap.size+1) (d.dR.length/64) (d.dR.length/64),zg w1.heap.size d.pN.length d.pN.length] 99)).drew=W5 at F⊢
 have Z:=F.out;rotate_left
 all_goals
  obtain⟨gD,gP,K⟩:=Z
  go_loopw [27] (fun i wr=> ∃k:Nat,k≤d.dR.length/64∧i=za k∧zr gD (gD+1) W5 wr∧wr.heap[gD]?=some (zi (Qp d.dR (d.dR.length/64) k).toArray 78)) (fun i _=>d.dR.length/64-(intOf i).toNat)
  case atStart=>exact⟨0,mX _,rfl,zr.refl _ _ _,by rw[K.dR,lF]⟩
  case round=>
   obtain⟨k,hk,rfl,c,G⟩:=hrel;have b1:=(c.block (w1.heap.size+1+1) (by have:=K.size;omega) (by have:=K.d1;have:=K.d2;omega)).trans K.box;have b2:=(c.block w.heap.size (by have:=K.size;omega) (by have:=K.d1;omega)).trans (K.arg.trans B0);obtain⟨y0,y1,_,_⟩:=zw b1;obtain⟨z0,z1,_,_⟩:=zw b2;clear b1 b2;by_cases r:k<d.dR.length/64
   ·have e1:(k:Int)<(d.dR.length:Int)/64:=zk;have e2:(0:Int)≤(k:Int)*64:=zk;have e3:(k:Int)*64≤(d.dR.length:Int):=zk;have e4:(k:Int)*64≤(cap:Int):=zk;have e5: ¬cap=k*64:=zk;have e6:IntKind.i64.wrap ((k:Int)*64)=(k:Int)*64:=by rw[mS];omega
    have e7:((k:Int)*64).toNat=k*64:=zk;obtain⟨cs,f⟩: ∃cs,cs=((d.dR.drop (k*64)).take 64).map (Value.int .u8):=⟨_,rfl⟩;have u:d.dR.length=d.dR.length/64*64:=zk;have J:cs.length=64:=by rw[f];simp;omega
    have L2: ∀v∈cs,v.oneCell'=true:=by rw[f];exact nf _ _
    have n:=(K.chg.widen).trans c;have L3: ∀j v,cs[j]?=some v→wr.cell? ((⟨b,off+k*64,none⟩:Addr).add j)=some v:=by
     intro j v C;have D:j<64:=by have:=(nD.1 C).1;omega
     have z:=M.out (k*64+j) zk;have ak:=zV z;rw[n9,pm,n.cell z (by have:=K.d1;omega),←C,f];rw[nU,oA,mM D,oQ];simp only[mV];rw[mZ (show k*64+j<d.dR.length by omega)];rfl
    have T:=Kx d.dR (d.dR.length/64) k u hk;have L5:=Ky d.dR (d.dR.length/64) k u r;rw[←f] at L5;have af:Hid _:=L5;have ae:Hid _:=T;have ad:Hid _:=L3;have ac:Hid _:=L2;have O:Hid _:=J;have ag:Hid _:=G;clear J L2 L3 T L5 f u G n;clear M Q m x0 x1 ap aq d0 B0;go_wp2;go_region_held3 (fun w'=>w'.cell? ⟨w1.heap.size+1+1,0,none⟩=some (zg gD (d.dR.length/64) (d.dR.length/64))∧w'.cell? (zd w.heap.size)=some (zj (some ⟨b,off,none⟩) d.dR.length cap)) (first|go_keep|exact⟨C2.cell (w:=wr.drew) y0 (by have:=K.d1;have:=K.d2;omega),C2.cell (w:=wr.drew) z0 (by have:=K.d1;omega)⟩)
     ((refine XR rfl (.tmp 36) (.tmp 41) 22 22 rfl 5 Tryz.underlying22 zl gD (k*64) 64 64 ⟨b,off+k*64,none⟩ _ _ rfl rfl _ _ ag.out cs (by rw[O.out];show 64=min _ 64;omega) ad.out (by rw[O.out,ae.out];omega) ac.out ?_;intro w2 H2 C2))
    have R1:=c.drew.trans C2;have R2:Hid (w2.heap[gD]?=some (zi (Qp d.dR (d.dR.length/64) (k+1)).toArray 78)):=by
     have:=H2.out;rw[af.out] at this;exact this
    go_wp2;go_roundw
    case rel=>exact⟨k+1,zk,by go_num,R1,R2.out⟩
    case measure=>simp[intOf];omega
   ·obtain rfl:k=d.dR.length/64:=zk;have F1:Hid (wr.heap[gD]?=some (zi (d.dR.map (Value.int .u8)).toArray 78)):=by
     have:=G;rw[NV _ _] at this;exact this
    have aE:gP≠gD:=by
     intro e;have h1:=K.dR;have h2:=K.pN;rw[e,h1] at h2;simp only[nS,oK] at h2;exact absurd h2.2.1 zp
    have F2:wr.heap[gP]?=some (zi (Xz d.pN.length) 102):=(c.bk gP (by have:=K.size;have:=K.p2;omega)).trans K.pN;have F3:=(c.block (w1.heap.size+1+1) (by have:=K.size;omega) (by have:=K.d1;have:=K.d2;omega)).trans K.box;have F4:=(c.block w.heap.size (by have:=K.size;omega) (by have:=K.d1;omega)).trans (K.arg.trans B0);have F5:zr 0 0 w wr:=K.chg.step c (Or.inr (Or.inl (by have:=K.d1;omega)));have F6:=c.size
    rw[K.size] at F6;have ah:Hid _:=F2;have d1:=K.d1;have d2:=K.d2;have p1:=K.p1;have p2:=K.p2;obtain⟨W6,rfl⟩: ∃W6,W6=wr:=⟨_,rfl⟩;go_wp2;go_loopw [47] (fun i w6=> ∃k:Nat,k≤d.pN.length∧i=za k∧zr gP (gP+1) W6 w6∧w6.heap[gP]?=some (zi (XD d.pN d.pN.length k).toArray 102)) (fun i _=>d.pN.length-(intOf i).toNat)
    case atStart=>exact⟨0,mX _,rfl,zr.refl _ _ _,by rw[fE];exact ah.out⟩
    case round=>
     obtain⟨k,hk,rfl,c,y⟩:=hrel;have b1:=(c.bk (w1.heap.size+1+1)).trans F3;have b2:=(c.bk w.heap.size).trans F4;have sz:=c.size;obtain⟨y0,y1,_,_⟩:=zw b1;obtain⟨z0,z1,_,_⟩:=zw b2;by_cases r:k<d.pN.length
     ·obtain⟨pb,ax,rfl,A⟩: ∃b off,po=some ⟨b,off,none⟩∧ ∀i,i<d.pN.length→ ∃dv,w.cell? ⟨b,off+i*2,none⟩=some (za (d.pN.getD i (0,[])).1)∧w.cell? ⟨b,off+i*2+1,none⟩=some dv∧zC w lo hi .u8 dv (d.pN.getD i (0,[])).2:=by
       rcases Q.out with e|⟨b,off,e,_,_,h⟩
       ·rw[e] at r;simp at r
       ·exact⟨b,off,e,h⟩
      obtain⟨dv,c1,c2,vw⟩:=A k r;have I:=m.out k r;have n:=(F5.widen).trans c;have lb:=zV c1;have c1:=n.cell c1;have c2:=n.cell c2;have HS:=aj d.pN k m r;have HL:=ai d.pN k m hk;generalize d.pN.getD k (0,[])=pr at*;obtain⟨q,xs⟩:=pr;obtain⟨_,_,l⟩:=I;obtain⟨bo,bcap,rfl,_,⟨U,_⟩,V⟩:=vw;simp only at c1 c2 l U V;obtain⟨xb,xo,rfl,B⟩: ∃xb xo,bo=some ⟨xb,xo,none⟩∧ ∀i,i<xs.length→w.cell? ⟨xb,xo+i,none⟩=some (zb (xs.getD i 0)):=by
       rcases V with e|⟨x,o,e,_,_,h⟩
       ·rw[e] at l;simp at l
       ·exact⟨x,o,e,h⟩
      rw[l] at c2 U;obtain⟨cs,f⟩: ∃cs,cs=xs.map (Value.int .u8):=⟨_,rfl⟩;have L:Hid (j9 (q,xs)=za q::cs):=by rw[f];rfl
      have J:cs.length=64:=by rw[f];simpa using l
      have L2: ∀v∈cs,v.oneCell'=true:=by rw[f];exact nf _ _
      have R0:wr.rangeAt xb xo cs:=by
       intro j v C;have D:j<64:=by have:=(nD.1 C).1;omega
       have z:=B j zk;have ak:=zV z;rw[n.cell z,←C,f,nU];simp only[mV];rw[mZ (show j<xs.length by omega)];rfl
      have lx:xb<wr.heap.size:=by
       have:=zV (B 0 zk);have:=F5.size;omega
      have T0:wr.there gP (k*65) 65:=by
       intro j C;constructor
       ·rw[World.cell?,y];simp;rw[HL];omega
       ·rw[World.frozen?,y];simp
      have H:gP<wr.heap.size:=zk;have ab:Hid _:=HS;have aa:Hid _:=HL;have R:Hid _:=y;have u1:=Tryz.underlying78;have i1:(Tryz.prog.info? 78).map (·.size)=some cs.length:=by rw[J];kernel_rfl
      have i2:(Tryz.prog.info? 102).map (·.size)=some 65:=zl;have az:(k:Int)<(d.pN.length:Int):=zk;have Y:xb≠gP:=by have:=zV (B 0 zk);omega
      clear f HS HL y B n l;have B7:=zt wr (zi #[za q,zj (some ⟨xb,xo,none⟩) 64 bcap] 100);obtain⟨m0,m1,_,_⟩:=zw B7;have m2:(wr.alloc (zi #[za q,zj (some ⟨xb,xo,none⟩) 64 bcap] 100)).cell? ⟨w1.heap.size+1+1,1,none⟩=some (zg gP d.pN.length d.pN.length):=(zr.al wr).cell y1;have R7:=World.rangeAt_alloc R0 (zi #[za q,zj (some ⟨xb,xo,none⟩) 64 bcap] 100);have T7:=World.there_alloc T0 (zi #[za q,zj (some ⟨xb,xo,none⟩) 64 bcap] 100)
      have S:Hid ((wr.alloc (zi #[za q,zj (some ⟨xb,xo,none⟩) 64 bcap] 100)).heap[gP]?=some (zi (XD d.pN d.pN.length k).toArray 102)):=(oU _ _ _ H).trans R;have C7:zr gP (gP+1) W6 (wr.alloc (zi #[za q,zj (some ⟨xb,xo,none⟩) 64 bcap] 100)):=c.alloc _;clear B7 R0 T0 R c y0 y1 z0 z1;go_wp2;generalize wr.alloc (zi #[za q,zj (some ⟨xb,xo,none⟩) 64 bcap] 100)=t at*;have aD:wr.heap.size≠gP:=zk;have ay:=fun w=>XI w ⟨xb,xo,none⟩ bcap
      have aI:=KV;have aG: ¬Z65= #[]:=by intro e;have:=Jb;rw[e] at this;simp at this
      have aH:=Jb;have an:=KC q cs J;obtain⟨full,g⟩: ∃full,full=Value.int .i64 q::cs:=⟨_,rfl⟩;rw[←g] at an;have T:full.length=65:=by rw[g,m7,J]
      have i3:(Tryz.prog.info? 102).map (·.size)=some full.length:=by rw[T];kernel_rfl
      have u3:=Tryz.underlying102;have L3: ∀v∈full,v.oneCell'=true:=by
       intro v hv;rw[g] at hv;rcases oJ.1 hv with rfl|hv
       ·rfl
       ·exact L2 v hv
      have s:Hid _:=g;have aF:(storeCells ⟨gP,k*65,none⟩ full).run Tryz.prog t.drew= .ok () (t.drew.setCells gP (k*65) full):=by
       have:=sK (P:=Tryz.prog) gP (k*65) full 0 t.drew (fun j C=>by simpa using (T7 j zk).1) (fun j C=>by simpa using (T7 j zk).2) L3;simpa using this
      clear g;have aC:w1.heap.size+1+1≠gP:=zk;go_region_held3 (fun w'=>w'.cell? ⟨w1.heap.size+1+1,1,none⟩=some (zg gP d.pN.length d.pN.length)∧w'.cell? (zd wr.heap.size)=some (za q)∧w'.cell? ⟨wr.heap.size,1,none⟩=some (zj (some ⟨xb,xo,none⟩) 64 bcap)∧w'.rangeAt xb xo cs∧w'.there gP (k*65) 65)
       (first|exact⟨m2,m0,m1,R7,T7⟩|exact⟨(zr.setCells gP _ _ t.drew).cell m2,(zr.setCells gP _ _ t.drew).cell m0,(zr.setCells gP _ _ t.drew).cell m1,World.rangeAt_setCells_apart (w:=t.drew) R7 _ _ _ (Or.inl Y),tE (w:=t.drew) T7 _ _ _⟩) (fail)
      have R1:Hid (zr gP (gP+1) W6 (t.drew.setCells gP (k*65) full)):=C7.drew.trans (zr.setCells gP _ _ _);have R2:Hid ((t.drew.setCells gP (k*65) full).heap[gP]?=some (zi (XD d.pN d.pN.length (k+1)).toArray 102)):=by
       have:=jr gP 102 full (k*65) t.drew _ S (by rw[T,aa.out];omega);rw[s.out,←L.out,ab.out] at this;rw[s.out,←L.out];exact this
      go_wp2;go_roundw
      case rel=>
       refine⟨_,_,_,_,_,_,_,_,_,_,_,_,_,_,_,_,_,_,_,_,_,⟨k+1,zk,?_,R1,R2⟩,rfl⟩;go_num
      case measure=>simp[intOf];omega
     ·obtain rfl:k=d.pN.length:=zk;have G1:=(c.bk gD).trans F1;have G2:=(c.bk (w1.heap.size+1+1)).trans F3;have G3:=y;rw[iK] at G3;have HV:Hid (Dev wr w.heap.size (w1.heap.size+1+1) d):=by
       have hV:qL d:=⟨g1,g2,g3,g4,m⟩;refine⟨gD,_,hV,zk,G2,⟨by rw[mO];omega,Or.inr ⟨gD,_,_,rfl,zk,G1,mP _,by unfold maxLen;omega,by simp;omega,?_⟩⟩,⟨?_,Or.inr ⟨gP,_,_,rfl,zk,G3,mP _,by unfold maxLen;omega,?_,?_⟩⟩⟩
       ·rw[ny (by simp;omega)]
       ·exact ZM _ _ m
       ·rw[pA];exact ZM _ _ m
       ·exact ny (by rw[ZM _ _ m.out];exact mP _)
      have HC:Hid _:=F5.step c (Or.inr (Or.inl zk));go_wp2;go_ret2;exact⟨_,rfl,HV,HC⟩
theorem XQ {P:Program}{fn:Func}{p:Tmp}{ty:TypeId}{tmps:Array Value}{a:Addr}(h:fn.results= #[.cell p ty])(d:tmps.getD p undef= .pointer (some a))(c:(loadVar ty a).run P w= .ok v w):
  (results fn tmps).run P w= .ok v w:=by
 have b:tmps[p]?.getD undef= .pointer (some a):=by simpa using d
 simp only[results,h];simp[asAddr,b,c]
theorem Dev.rows {d:Dsk}(h:Dev w base p d): ∃a s m cap,qL d∧base≤p∧
  w.heap[p]?=some (zi #[zg a (d.dR.length/64) (d.dR.length/64),zj s m cap] 99)∧base≤a∧m=d.pN.length∧
  (∀j,j<d.dR.length→w.cell? ⟨a,j,none⟩=some (zb (d.dR.getD j 0)))∧
  (0<d.pN.length→ ∃c,s=some (zd c)∧base≤c∧ ∀j v,(flat d.pN)[j]?=some v→w.cell? ⟨c,j,none⟩=some v):=by
 obtain⟨a,y,l,r,n,i,f⟩:=h;have u:=i;have b:=f;have o: ∀j,j<d.dR.length→w.cell? ⟨a,j,none⟩=some (zb (d.dR.getD j 0)):=by
  intro j g;have h1:=l.1;rw[nA i j zk];simp[g]
 have q:base≤a:=(np i a rfl).1;rcases f.2 with⟨e,h0⟩|⟨c,cap,t,e,k,_⟩
 ·subst e;exact⟨a,_,_,_,l,r,n,q,h0.symm,o,fun h=>zk⟩
 ·subst e;refine⟨a,_,_,_,l,r,n,q,rfl,o,fun h=>⟨c,rfl,k,fun j v g=>?_⟩⟩;have x:=b.1;rw[nA b j (by rw[←x];exact(nD.1 g).1)];exact g
theorem Ju (w:World)(c:Array Value)(t:TypeId)(n:Nat)(d:c.size=n):(w.alloc (zi c t)).there w.heap.size 0 n:=by
 intro j b;have a:=zt w (zi c t);constructor
 ·rw[World.cell?,a];simp;omega
 ·rw[World.frozen?,a];simp
theorem au {a b:Bool}(h:a=b):Ending.returned (.bool a)= .returned (.bool b):=by rw[h]
theorem Vn (w:World){d:Dsk}(a:Int)(h:Dev w base p d)(h1:0≤a:=by omega)(h2:a<((d.dR.length/64:Nat):Int):=by omega):
  Calls Tryz.prog 79 #[zh p,za a] w fun e w'=>e= .returned (.bool true)∧w'=w:=by
 obtain⟨g,k,m,cap,c,j,b,_,_,_,_⟩:=h.rows;obtain⟨f,_,_,_⟩:=zw b;have i:=c.2.2.1;clear b h c;go_enter Tryz.func79,Tryz.ntmps79;go_wp2;go_ret;exact⟨au (by simp;omega),rfl⟩
theorem l8 (w:World){d:Dsk}(a:Int)(h:Dev w base p d)(h0:a<0∨((d.dR.length/64:Nat):Int)≤a:=by omega):
  Calls Tryz.prog 79 #[zh p,za a] w fun e w'=>e= .returned (.bool false)∧w'=w:=by
 obtain⟨i,l,m,cap,c,k,b,_,_,_,_⟩:=h.rows;obtain⟨g,_,_,_⟩:=zw b;have j:=c.2.2.1;clear b h c;by_cases h1:0≤a
 ·have h2:((d.dR.length/64:Nat):Int)≤a:=zk;go_enter Tryz.func79,Tryz.ntmps79;go_wp2;go_ret;exact⟨au (by simp;omega),rfl⟩
 ·have f:decide (0≤a)=false:=by simpa using h1
  go_enter Tryz.func79,Tryz.ntmps79;go_wp2;go_ret;exact⟨rfl,rfl⟩
theorem JA (ps:List Wr)(h: ∀i,i<ps.length→Good n (ps.getD i (0,[])))(k j:Nat)(b:k<ps.length:=by omega)(f:j<65:=by omega):(flat ps)[k*65+j]?=(j9 (ps.getD k (0,[])))[j]?:=by
 have e:ps=ps.take k++(ps[k]::ps.drop (k+1)):=zn;have d:(flat (ps.take k)).length=k*65:=by rw[ZM n _ (YZ h),mW,ol zk]
 have c:flat ps=flat (ps.take k)++(j9 ps[k]++flat (ps.drop (k+1))):=by
  have:flat ps=flat (ps.take k++(ps[k]::ps.drop (k+1))):=by rw[←e]
  rw[this,Kz];rfl
 have a:ps.getD k (0,[])=ps[k]:=by simp[b]
 have g:(j9 ps[k]).length=65:=by
  have:=(h k b).2.2;rw[a] at this;simp only[j9,m7,mO,this]
 rw[c,a,oM zk,d,pI,nZ zk]
theorem Dev.lt {d:Dsk}(h:Dev w base p d):p<w.heap.size:=by
 obtain⟨_,_,_,_,a,_⟩:=h;exact(zE a)
abbrev nO:= @wpList_load_mid
abbrev rQ:= @wpList_store_mid
abbrev rR:= @all_oneCell_toArray
def stl (K:Nat→Bool) (ps:List Wr) (dur:List Int):Nat→List Int
 |0=>dur
 |k+1=>if K k=true then splice (stl K ps dur k) ((ps.getD k (0,[])).1.toNat*64) (ps.getD k (0,[])).2 else stl K ps dur k
theorem j7 (K:Nat→Bool)(d:Dsk)(a:qL d): ∀k,k≤d.pN.length→(stl K d.pN d.dR k).length=d.dR.length
 |0,_=>rfl
 |k+1,hk=>by
  have ih:=j7 K d a k zk
  unfold stl
  split
  ·obtain⟨h1,h2,h3⟩:=a.2.2.2.2 k zk
   rw[length_splice _ _ _ (by rw[ih,h3];have:=a.1;omega),ih]
  ·exact ih
theorem bQ (f:Int→Value)(xs ys:List Int)(o:Nat):(splice xs o ys).map f=splice (xs.map f) o (ys.map f):=by
 simp[splice]
theorem aH (K:Nat→Bool)(ps:List Wr)(a:List Int)(k:Nat)(h:K k=true):
  splice ((stl K ps a k).map (Value.int .u8)) ((ps.getD k (0,[])).1.toNat*64) ((ps.getD k (0,[])).2.map (Value.int .u8))=(stl K ps a (k+1)).map (Value.int .u8):=by
 rw[←bQ];conv=>rhs;unfold stl;rw[mM h]
theorem kh (K:Nat→Bool)(ps:List Wr)(a:List Int)(k:Nat)(h:K k=false):stl K ps a (k+1)=stl K ps a k:=by
 conv=>lhs;unfold stl;rw[mN (by rw[h];simp)]
def setD (K:Nat→Bool) (d:Dsk):Dsk:=⟨stl K d.pN d.dR d.pN.length,[]⟩
theorem JP (K:Nat→Bool){d:Dsk}(a:qL d):qL (setD K d):=by
 have b:=j7 K d a d.pN.length nlR;obtain⟨h1,h2,h3,_,_⟩:=a;refine⟨?_,?_,?_,by simp[setD],by simp[setD]⟩<;>simp only[setD]<;>rw[b]<;>assumption
def X0 (d:Dsk):Dsk:=if qC d=true then setD (fun _=>true) d else Dsk.none
theorem qK.lower {lo':Nat}{eW eB:TypeId}{d:Dsk}(h:qK w lo hi eW eB v d)(f:lo'≤lo):qK w lo' hi eW eB v d:=by
 obtain⟨k,j,a,b,h⟩:=h;have l:Z6 w lo' eW eB j d.pN a b:=by
  refine⟨?_,h.pN.at0,h.pN.at1,fun i hi=>(h.pN.data i hi).base (fun g c=>nz f ((h.pN.data i hi).lt g c).1),h.pN.apart⟩;obtain⟨h1,h2⟩:=h.pN.row;refine⟨h1,?_⟩;rcases h2 with h2|⟨g,cap,e,m,c,r⟩
  ·exact Or.inl h2
  ·exact Or.inr ⟨g,cap,e,m,zk,r⟩
 exact⟨k,j,a,b,h.agg,h.dR.base (fun g c=>nz f (h.dR.lt g c).1),l,h.apart,h.hiD,h.hiP,h.hiX⟩
theorem filled {c:Array Value}{full:List Value}(hs:c.size=full.length):
  ((w.alloc (zi c t)).setCells w.heap.size 0 full).heap[w.heap.size]?=some (zi full.toArray t)∧zr 0 0 w ((w.alloc (zi c t)).setCells w.heap.size 0 full):=by
 refine⟨?_,(zr.al w).step (zr.setCells w.heap.size full 0 _) (Or.inr (Or.inl nlR))⟩;have a:c.toList.length=full.length:=hs;have h0:=zt w (zi c.toList.toArray t);have:=jr w.heap.size t full 0 (w.alloc (zi c.toList.toArray t)) c.toList h0 zk;have e:splice c.toList 0 full=full:=by
  unfold splice;rw[oI,nG,ni,oZ zk,nw]
 rw[e] at this;simpa using this
theorem Dev.pend_ne {d:Dsk}(h:Dev w base p d): ∃b C cap,qL d∧base≤p∧base≤b∧
  w.heap[p]?=some (zi #[zg b (d.dR.length/64) (d.dR.length/64),zj C d.pN.length cap] 99)∧
  w.heap[b]?=some (zi (d.dR.map (Value.int .u8)).toArray 78)∧
  (∀k,k<d.pN.length→ ∃f,C=some (zd f)∧f≠b∧f<w.heap.size∧w.rangeAt f (k*65) (j9 (d.pN.getD k (0,[])))):=by
 obtain⟨b,H,o,A,u,x,m⟩:=h;have n:=m;have D: ∃a,w.heap[b]?=some (zi a 78)∧a.toList=d.dR.map (Value.int .u8):=by
  rcases x.2 with⟨e,_⟩|⟨g,cap,a,e,_,i,_,_,hs,B⟩
  ·cases e
  ·simp only[ns,nS,rp,pH] at e;obtain⟨rfl,_,rfl⟩:=e;refine⟨a,i,?_⟩;rw[ny (by rw[rX,hs];exact mP _)] at B;exact B
 obtain⟨a,c,q⟩:=D;have t:w.heap[b]?=some (zi (d.dR.map (Value.int .u8)).toArray 78):=by rw[←q];simpa using c
 have y:base≤b:=(np x b rfl).1;rcases m.2 with⟨e,h0⟩|⟨f,cap,s,e,F,i,_⟩
 ·subst e;refine⟨b,none,0,o,A,y,by rw[h0];exact u,t,fun k r=>zk⟩
 ·subst e;refine⟨b,_,cap,o,A,y,u,t,fun k r=>⟨f,rfl,?_,(zE i),?_⟩⟩
  ·intro e;rw[e,c] at i;simp only[nS,oK] at i;exact absurd i.2.1 zp
  ·intro j v z;have G:(j9 (d.pN.getD k (0,[]))).length=65:=by
    have:=(o.2.2.2.2 k r).2.2;simp only[j9,m7,mO,this]
   have l:j<65:=by have:=(nD.1 z).1;omega
   have E:=JA d.pN o.2.2.2.2 k j r l;rw[nA n (k*65+j) zk,E];exact z
theorem Nv (w:World){d:Dsk}(h:Dev w base p d):
  Calls Tryz.prog 55 #[zh p,.func (.func 56) #[] #[]] w fun e w'=>e= .returned (.tuple #[])∧Dev w' base p (setD (fun _=>true) d)∧zr base w.heap.size w w':=by
 obtain⟨gD,po,cap,hv,hp,O,b,r,C⟩:=h.pend_ne;have S:=(zE b);have ae:=(zE r);have ag:p≠gD:=by
  intro e;rw[e,r] at b;simp only[nS,oK] at b;exact absurd b.2.1 zp
 have hm:=hv.2.2.2.1;have hn:=hv.2.2.1;obtain⟨b0,b1,_,_⟩:=zw b;have HP:Hid _:=C;have E:Hid (qL d):=hv;have J:Hid _:=r;have I:Hid _:=b;go_enter Tryz.func55,Tryz.ntmps55;go_wp2;go_loopw [11] (fun i wr=> ∃k:Nat,k≤d.pN.length∧i=za k∧zr gD (gD+1) w wr∧wr.heap[gD]?=some (zi ((stl (fun _=>true) d.pN d.dR k).map (Value.int .u8)).toArray 78)) (fun i _=>d.pN.length-(intOf i).toNat)
 case atStart=>exact⟨0,mX _,rfl,zr.refl _ _ _,J⟩
 case round=>
  obtain⟨k,hk,rfl,g,y⟩:=hrel;have sz:=g.size;have y0:=g.cell b0;have y1:=g.cell b1;have n:Hid _:=y;clear y;by_cases R:k<d.pN.length
  ·obtain⟨gP,rfl,an,aj,D⟩:=HP.out k R;obtain⟨T,ah,u⟩:=E.2.2.2.2 k R;have a:=aH (fun _=>true) d.pN d.dR k rfl;have s:=j7 (fun _=>true) d E k hk;generalize d.pN.getD k (0,[])=pr at*;obtain⟨q,xs⟩:=pr;simp only at T ah u a;obtain⟨qn,rfl⟩:=tF T;rw[Int.toNat_natCast] at a;obtain⟨cs,o⟩: ∃cs,cs=xs.map (Value.int .u8):=⟨_,rfl⟩;rw[←o] at a;obtain⟨full,m⟩: ∃full,full=j9 ((qn:Int),xs):=⟨_,rfl⟩;rw[←m] at D;have x:full=Value.int .i64 qn::cs:=by rw[m,o];rfl
   have F:cs.length=64:=by rw[o];simpa using u
   have N: ∀v∈cs,v.oneCell'=true:=by rw[o];exact nf _ _
   have X:full.length=65:=by rw[x,m7,F]
   have L4: ∀v∈full,v.oneCell'=true:=by
    intro v hv;rw[x] at hv;rcases oJ.1 hv with rfl|hv
    ·rfl
    ·exact N v hv
   have R0:wr.rangeAt gP (k*65) full:=fun j v G=>g.cell (D j v G);have H:Hid _:=R0;have aa:Hid _:=F;have ab:Hid _:=N;have ac:Hid _:=X;have ad:Hid _:=L4;have K:Hid _:=x;have B:Hid _:=a;have L:Hid _:=s;have M:Hid (full.toArray.size=65):=by show _=_;simpa using X
   have V:=Tryz.underlying102;have U:Hid ((Tryz.prog.info? 102).map (·.size)=some full.toArray.size):=by show _=_;rw[M.out];kernel_rfl
   have z:Hid ((Tryz.prog.info? 102).map (·.size)=some full.length):=by show _=_;rw[X];kernel_rfl
   have ak:=E.1;clear D o m x F N X L4 R0 a s u;have am:(k:Int)<(d.pN.length:Int):=zk;go_wp2_with (first
    |(refine nO rfl 102 (.tmp 14) rfl gP (k*65) rfl full _ H V rfl z.out ?_)
    |(refine rQ rfl 102 (.tmp 5) (.tmp 15) rfl wr.heap.size 0 full.toArray rfl rfl (by rw[M.out];exact Ju wr _ _ 65 rfl) U.out (rR ad) ?_)
    |go_in)
   obtain⟨Z,W⟩:=filled (w:=wr) (c:=Tryz.zeroCells102) (t:=102) (full:=full) (by rw[ac.out];rfl);generalize (wr.alloc (zi Tryz.zeroCells102 102)).setCells wr.heap.size 0 full=l at*;have m0:l.cell? (zd wr.heap.size)=some (za qn):=by
    rw[pe l wr.heap.size 0 _ _ _ Z,K.out];simp
   have R7:l.rangeAt wr.heap.size 1 cs:=by
    intro j v G;rw[pe l wr.heap.size (1+j) _ _ _ Z,K.out,ru];simpa using G
   have f:=(W.bk gD).trans n;have Y:l.there gD (qn*64) 64:=by
    intro j G;constructor
    ·rw[World.cell?,f];simp;rw[L.out];omega
    ·rw[World.frozen?,f];simp
   have y7:=W.cell y0;have C7:=g.step W;have A:Hid _:=f;have af:wr.heap.size≠gD:=zk;have ao:(qn:Int)<(d.dR.length:Int)/64:=zk;have ap:qn<d.dR.length/64:=zk;have au:=Tryz.underlying78;have F:=aa.out;have N:=ab.out;have ar:(Tryz.prog.info? 78).map (·.size)=some cs.length:=by rw[F];kernel_rfl
   have aq:(storeCells ⟨gD,qn*64,none⟩ cs).run Tryz.prog l.drew= .ok () (l.drew.setCells gD (qn*64) cs):=by
    have:=sK (P:=Tryz.prog) gD (qn*64) cs 0 l.drew (fun j G=>by simpa using (Y j zk).1) (fun j G=>by simpa using (Y j zk).2) N;simpa using this
   clear Z W f n H y0 y1 g V U z;go_region_held3 (fun w'=>w'.cell? (zd p)=some (zg gD (d.dR.length/64) (d.dR.length/64))∧w'.cell? (zd wr.heap.size)=some (za qn)∧w'.rangeAt wr.heap.size 1 cs∧w'.there gD (qn*64) 64)
    (first|exact⟨y7,m0,R7,Y⟩|exact⟨(zr.setCells gD _ _ l.drew).cell y7,(zr.setCells gD _ _ l.drew).cell m0,World.rangeAt_setCells_apart (w:=l.drew) R7 _ _ _ (Or.inl af),tE (w:=l.drew) Y _ _ _⟩) (fail)
   have R1:Hid (zr gD (gD+1) w (l.drew.setCells gD (qn*64) cs)):=C7.drew.trans (zr.setCells gD _ _ _);have R2:Hid ((l.drew.setCells gD (qn*64) cs).heap[gD]?=some (zi ((stl (fun _=>true) d.pN d.dR (k+1)).map (Value.int .u8)).toArray 78)):=by
    have:=jr gD 78 cs (qn*64) l.drew _ A (by rw[mO,L.out,F];omega);rw[B.out] at this;exact this
   go_wp2;go_roundw
   case rel=>exact⟨k+1,zk,by go_num,R1.out,R2.out⟩
   case measure=>simp[intOf];omega
  ·obtain rfl:k=d.pN.length:=zk;have G1:=(g.bk p S).trans I;obtain⟨z0,z1,av,aw⟩:=zw G1;have ai:=JP (fun _=>true) E;have Q:=j7 (fun _=>true) d E d.pN.length nlR;have G2:(wr.setCell ⟨p,1,none⟩ (zc)).heap[p]?=some (zi #[zg gD (d.dR.length/64) (d.dR.length/64),zc] 99):=by
    have:=oP wr p 1 _ _ (zc) G1;simpa using this
   have G3:(wr.setCell ⟨p,1,none⟩ (zc)).heap[gD]?=some (zi ((stl (fun _=>true) d.pN d.dR d.pN.length).map (Value.int .u8)).toArray 78):=(nY _ _ _ _ (fun e=>ag e.symm)).trans n;have HD:Hid (Dev (wr.setCell ⟨p,1,none⟩ (zc)) base p (setD (fun _=>true) d)):=by
    refine⟨gD,zc,ai,hp,by rw[show(setD (fun _=>true) d).dR.length=d.dR.length from Q];exact G2,?_,rG _ _ _ _⟩;rw[show(setD (fun _=>true) d).dR.length=d.dR.length from Q];have al:=E.1;refine⟨by rw[mO];show(stl _ _ _ _).length=_;rw[Q];omega,Or.inr ⟨gD,_,_,rfl,O,G3,mP _,by unfold maxLen;omega,by simp[Q];omega,?_⟩⟩;rw[ny (by simp[Q];omega)];rfl
   have HC:Hid (zr base w.heap.size w (wr.setCell ⟨p,1,none⟩ (zc))):=(g.widen (Or.inl O) (Or.inl ae)).setCell (Or.inl ⟨hp,S⟩) _;go_wp2;go_end0;exact⟨rfl,HD,HC⟩
theorem KB (w:World){d:Dsk}(h:Dev w base p d):
  Calls Tryz.prog 25 #[zh p] w fun e w'=>e= .returned (.tuple #[])∧Dev w' base p (setD (fun _=>true) d)∧zr base w.heap.size w w':=by
 go_enter Tryz.func25,Tryz.ntmps25;go_wp2_with fail;refine(Nv w h).mono ?_;rintro e f ⟨rfl,c,b⟩;have a:Hid _:=c;go_wp2;go_end0;exact⟨rfl,a,b⟩
theorem Yv (w:World)(m n:Nat)(xs:List Int)(a:w.heap[m]?=some (zi (xs.map (Value.int .u8)).toArray 78))(hl:xs.length=n*64)(af:1≤n)(hn:n≤2048):
  Calls Tryz.prog 57 #[zg m n n] w fun e w'=> ∃g,e= .returned (zg g (n*64) (n*64))∧zu w' w.heap.size 5 (zg g (n*64) (n*64)) xs∧zr 0 0 w w':=by
 obtain⟨i,hi,U,V,W⟩:=na Tryz.infoU;have T:m<w.heap.size:=(zE a);have p:Hid (w.heap[m]?=some (zi (xs.map (Value.int .u8)).toArray 78)):=a;have x:Hid (xs.length=n*64):=hl;clear a hl;go_enter Tryz.func57,Tryz.ntmps57;go_wp2_with (at_make;refine pV _ rfl _ _ 22 rfl w.heap.size 5 i (zb 0) 1 Tryz.underlying22 hi U V _ _ _ _ (n*64) rfl rfl zk zk (by rw[W];omega) (by unfold maxLen;omega) nlR ?_);intro w1 r f
 have C1:zr 0 0 w w1:=zr.ofGrown f zn;have P:Hid (w1.heap[w.heap.size]?=some (zi (Qp xs n 0).toArray 5)):=by
  rcases r.2 with⟨L,_⟩|⟨g',aa,R,L,hb,hg,_,_,hs,ht⟩
  ·cases L
  ·simp only[ns,nS,rp,pH,true_and] at L;obtain⟨rfl,rfl⟩:=L;show _=_;have hc:R.toList=(Qp xs n 0):=by
    rw[ny (by rw[rX,hs];exact mP _)] at ht;rw[ht];unfold Qp;simp[toList_madeCells_one]
   rw[hg,←hc]
 have s1:w.heap.size<w1.heap.size:=by have:=(zE P);omega
 clear r f;go_wp2;go_loopw [12] (fun i wr=> ∃k:Nat,k≤n∧i=za k∧zr 0 0 w wr∧w1.heap.size≤wr.heap.size∧wr.heap[w.heap.size]?=some (zi (Qp xs n k).toArray 5)) (fun i _=>n-(intOf i).toNat)
 case atStart=>exact⟨0,mX _,rfl,C1,mP _,P⟩
 case round=>
  obtain⟨k,hk,rfl,o,ag,a⟩:=hrel;have J:Hid (wr.heap[w.heap.size]?=some (zi (Qp xs n k).toArray 5)):=a;clear a;by_cases F:k<n
  ·obtain⟨cs,d⟩: ∃cs,cs=((xs.drop (k*64)).take 64).map (Value.int .u8):=⟨_,rfl⟩;have ae:(k+1)*64≤n*64:=Nat.mul_le_mul_right _ F;have z:=x.out;have K:cs.length=64:=by rw[d];simp;omega
   have L2: ∀v∈cs,v.oneCell'=true:=by rw[d];exact nf _ _
   have D:wr.heap[m]?=some (zi (xs.map (Value.int .u8)).toArray 78):=(o.bk m T).trans p;have R0:wr.rangeAt m (k*64) cs:=by
    intro j v M;have E:j<64:=by have:=(nD.1 M).1;omega
    rw[pe wr m (k*64+j) _ _ _ D,←M,d,nU,oA,mM E,oQ];simp
   have L4:=Kx xs n k z hk;have Q:=Ky xs n k z F;rw[←d] at Q;have C:Hid (wr.rangeAt m (k*64) cs):=R0;have b:Hid (cs.length=64):=K;have u:Hid (∀v∈cs,v.oneCell'=true):=L2;have A:Hid ((Qp xs n k).length=n*64):=L4;have B:Hid (splice (Qp xs n k) (k*64) cs=Qp xs n (k+1)):=Q;have y:Hid (cs.toArray.size=64):=by show _=_;simpa using K
   have H:=Tryz.underlying78;have G:Hid ((Tryz.prog.info? 78).map (·.size)=some cs.toArray.size):=by show _=_;rw[y.out];kernel_rfl
   have t:Hid ((Tryz.prog.info? 78).map (·.size)=some cs.length):=by show _=_;rw[K];kernel_rfl
   clear R0 K L2 L4 Q d D z;have ad:(k:Int)<(n:Int):=zk;go_wp2_with (first
    |(refine nO rfl 78 (.tmp 15) rfl m (k*64) rfl cs _ C H rfl t.out ?_)
    |(refine rQ rfl 78 (.tmp 5) (.tmp 16) rfl wr.heap.size 0 cs.toArray rfl rfl (by rw[y.out];exact Ju wr _ _ 64 rfl) G.out (rR u) ?_))
   generalize S:World.setCells (World.alloc wr _) _ _ _=l;have Y:l.heap[wr.heap.size]?=some (zi cs.toArray 78):=by rw[←S];exact(filled (by rw[b.out];rfl)).1
   have I:zr 0 0 wr l:=by rw[←S];exact(filled (by rw[b.out];rfl)).2
   clear S;have h:l.heap[w.heap.size]?=some (zi (Qp xs n k).toArray 5):=(I.bk w.heap.size).trans J;have c:Hid (l.heap[w.heap.size]?=some (zi (Qp xs n k).toArray 5)):=h;have s: ∀j v,cs[j]?=some v→l.cell? (((zd wr.heap.size):Addr).add j)=some v:=by
    intro j v M;rw[n9,ni,pe l wr.heap.size j _ _ _ Y];simpa using M
   have q:Hid (∀j v,cs[j]?=some v→l.cell? (((zd wr.heap.size):Addr).add j)=some v):=s;have X:=o.trans I;have s7:=I.size;have e2:(0:Int)≤(k:Int)*64:=zk;have e3:(k:Int)*64≤(n:Int)*64:=zk;have ab:(k:Int)*64≤((n*64:Nat):Int):=zk;have e5: ¬n*64=k*64:=zk;have ac: ¬n=k:=zk;have e6:IntKind.i64.wrap ((k:Int)*64)=(k:Int)*64:=by rw[mS];omega
   have e7:((k:Int)*64).toNat=k*64:=zk;clear Y I h s J o C H G t y;go_region_held3 (fun _=>True) (trivial)
    ((refine XR rfl (.tmp 20) (.tmp 21) 22 22 rfl 5 Tryz.underlying22 zl w.heap.size (k*64) (n*64-k*64) (n*64-k*64) (zd wr.heap.size) 64 64 rfl rfl _ _ c.out cs (by rw[b.out];show 64=min 64 _;omega) q.out (by rw[b.out,A.out];omega) u.out ?_;intro N Z O))
   have R1:zr 0 0 w N:=(X.drew).step O (Or.inr (Or.inl nlR));have R2:Hid (N.heap[w.heap.size]?=some (zi (Qp xs n (k+1)).toArray 5)):=by
    have:=Z.out;rw[B.out] at this;exact this
   have R3:w1.heap.size≤N.heap.size:=by have h1:l.drew.heap.size≤N.heap.size:=O.size;have h2:l.drew.heap.size=l.heap.size:=rfl;omega
   clear O Z X c q b u A B;go_wp2;go_roundw
   case rel=>exact⟨k+1,zk,by go_num,R1,R3,R2.out⟩
   case measure=>simp[intOf];omega
  ·obtain rfl:k=n:=zk;have HO:Hid (zu wr w.heap.size 5 (zg w.heap.size (k*64) (k*64)) xs):=by
    have h1:=J.out;rw[NV xs k x.out] at h1;show zu _ _ _ _ _;unfold zu;rw[x.out];refine⟨by simp[x.out],Or.inr ⟨w.heap.size,_,_,rfl,mP _,h1,mP _,by unfold maxLen;omega,by simp[x.out],?_⟩⟩;exact ny (by simp[x.out])
   clear J p x P;go_wp2;go_ret;exact⟨_,rfl,HO,o⟩
abbrev mU:= @bodyPost_ret
theorem VC (w:World){d:Dsk}(h:Dev w base p d)(m:d.pN= []):
  Calls Tryz.prog 26 #[zh p] w fun e w'=> ∃v,e= .returned v∧qK w' w.heap.size w'.heap.size 100 5 v d∧zr 0 0 w w':=by
 obtain⟨x,P,cap,y,T,N,a,i,_⟩:=h.pend_ne;rw[m] at a;have a:w.heap[p]?=some (zi #[zg x (d.dR.length/64) (d.dR.length/64),zj P 0 cap] 99):=a;have D:p<w.heap.size:=(zE a);have A:x<w.heap.size:=(zE i);have M:=y.1;have B:=y.2.1;have O:=y.2.2.1;have u:zr 0 0 w (w.alloc (zi #[zc,zc] 26)):=zr.al w;have o:=zt w (zi #[zc,zc] 26);have U:(w.alloc (zi #[zc,zc] 26)).heap.size=w.heap.size+1:=zn;have j:=(u.bk x A).trans i
 have b:=(u.bk p D).trans a;obtain⟨F,G,_,_⟩:=zw b;have k:Hid (d.pN= []):=m;clear i a h y m;go_enter Tryz.func26,Tryz.ntmps26;go_wp2_with fail;generalize w.alloc (zi #[zc,zc] 26)=Z at*;refine(Yv _ x _ d.dR j zk B O).mono ?_;rintro e n ⟨g,rfl,C,s⟩;rw[show d.dR.length/64*64=d.dR.length from zk] at*;have W:=s.size;have S:=C.lt g rfl;have o:=(s.bk w.heap.size).trans o;have c:=(s.bk p).trans b;have I:=u.trans s
 clear s u j b F G;have r:zr 0 0 n (n.alloc (zi #[zg g d.dR.length d.dR.length,zc] 26)):=zr.al n;have E:=zt n (zi #[zg g d.dR.length d.dR.length,zc] 26);have o:=(r.bk w.heap.size).trans o;have f:=(r.bk p).trans c;have V:(n.alloc (zi #[zg g d.dR.length d.dR.length,zc] 26)).heap.size=n.heap.size+1:=zn;obtain⟨F,G,_,_⟩:=zw f;obtain⟨y0,y1,Q,R⟩:=zw o;obtain⟨X,Y,_,_⟩:=zw E;have t:=(C.chg r (by intro H _;omega)).base (base':=w.heap.size) (fun H l=>by cases l;show w.heap.size≤g;omega)
 have J:=I.trans r;clear I r C c f E;go_wp2;generalize n.alloc (zi #[zg g d.dR.length d.dR.length,zc] 26)=q at*;have z:g<q.heap.size:=zk;have L:Hid (qK ((q.setCell (zd w.heap.size) (zg g d.dR.length d.dR.length)).setCell ⟨w.heap.size,1,none⟩ (zc)) w.heap.size q.heap.size 100 5 (.agg #[zg g d.dR.length d.dR.length,zc]) d):=by
  have K:(zg g d.dR.length d.dR.length).ownBlock≠some w.heap.size:=by simp[Value.ownBlock];omega
  refine⟨_,_,[],fun _=>zc,rfl,(t.set (p:=(zd w.heap.size)) K _).set (p:=⟨w.heap.size,1,none⟩) K _,by rw[k.out];exact Z6.nil _ _ _ _,by rw[k.out];simp,?_,by simp[Value.ownBlock],by rw[k.out];simp⟩;intro H l
  cases l
  exact z
 have HC:Hid (zr 0 0 w ((q.setCell (zd w.heap.size) (zg g d.dR.length d.dR.length)).setCell ⟨w.heap.size,1,none⟩ (zc))):=J.step (zr.set2 _ _ _ _);have HS:Hid (((q.setCell (zd w.heap.size) (zg g d.dR.length d.dR.length)).setCell ⟨w.heap.size,1,none⟩ (zc)).heap.size=q.heap.size):=by show _=_;simp[World.setCell]
 clear t J o k;refine wp_loop_rounds 1 ?_;rw[rounds_succ];go_wp2;refine mU (v:= .agg #[zg g d.dR.length d.dR.length,zc]) (by simp[results,Tryz.results26,go_sem,y0,y1]) rfl ⟨_,rfl,?_,HC.out⟩;rw[HS.out];exact L
theorem fg (ps:List Wr)(p:Wr):flat (ps++ [p])=flat ps++j9 p:=by simp[flat]
theorem ie (A:Array Value)(c:A.size=65)(full:List Value)(h:full.length=65):
  Instr.fill (fun i=>some (i*65,65)) A [(0,.agg full.toArray)]=some full.toArray:=by
 have b:=Qz 0 full 0 A zk;have e:splice A.toList (0+0) full=full:=by
  unfold splice;have d:A.toList.length=65:=c;simp only[ni,oI,nG];rw[oZ zk,nw]
 rw[e] at b;have a:List.foldl (fun(B:Array Value) (p:Value×Nat)=>B.setIfInBounds (0+p.2) p.1) A (full.zipIdx 0)=full.toArray:=rZ (by simpa using b);simp only[ni] at a;simp[Instr.fill,Value.cells,c,h,a]
theorem qL.snoc {d:Dsk}(b:qL d)(g:d.pN.length<600){a:Nat}(f:a<d.dR.length/64){ys:List Int}(c:ys.length=64):qL ⟨d.dR,d.pN++ [((a:Int),ys)]⟩:=by
 refine⟨b.1,b.2.1,b.2.2.1,by simp;omega,fun i hi=>?_⟩;simp only[mL,m7,nH] at hi;by_cases e:i<d.pN.length
 ·have:=b.2.2.2.2 i e;simpa [nZ e] using this
 ·obtain rfl:i=d.pN.length:=zk;simp only[mV,List.getElem?_concat_length,Option.getD_some];exact⟨by show(0:Int)≤(a:Int);omega,by show(a:Int)<((d.dR.length/64:Nat):Int);omega,c⟩
theorem gl (w:World){d:Dsk}{b:Value}(a:Nat)(ys:List Int)(h:Dev w base p d)(hb:zC w lo hi .u8 b ys)(aJ:hi≤base)(hy:ys.length=64)(ha:a<d.dR.length/64)(hm:d.pN.length<600):
  Calls Tryz.prog 109 #[.pointer (some (zd p)),za a,b] w fun e w'=>e= .returned (.bool true)∧Dev w' base p ⟨d.dR,d.pN++ [((a:Int),ys)]⟩∧zr base w.heap.size w w':=by
 have Hh:Hid (Dev w base p d):=h;have an:=h.lt;obtain⟨C,pv,hv,hp,Y,ak,O⟩:=h;obtain⟨F,pn,pc,rfl⟩:=zF O;obtain⟨c0,c1,f0,f1⟩:=zw Y;have aB:pn=d.pN.length:=by
  rcases O.2 with⟨e,h0⟩|⟨g,cap,l,e,_⟩
  ·cases e;exact h0.symm
  ·simp only[ns] at e;exact e.2.1
 subst aB;obtain⟨bo,P,rfl,_,_,ah⟩:=hb;obtain⟨n,s,rfl,aL,ap⟩: ∃n s,bo=some ⟨n,s,none⟩∧n<hi∧ ∀i,i<ys.length→w.cell? ⟨n,s+i,none⟩=some (zb (ys.getD i 0)):=by
  rcases ah with e|⟨x,o,e,_,q,h⟩
  ·rw[e] at hy;simp at hy
  ·exact⟨x,o,e,q,h⟩
 clear ah;obtain⟨cs,G⟩: ∃cs,cs=ys.map (Value.int .u8):=⟨_,rfl⟩;have L1:cs.length=64:=by rw[G];simpa using hy
 have L2: ∀v∈cs,v.oneCell'=true:=by rw[G];exact nf _ _
 have R0:w.rangeAt n s cs:=by
  intro j v S;have T:j<ys.length:=by have:=(nD.1 S).1;omega
  rw[ap j T,←S,G,nU];simp only[mV];rw[mZ T];rfl
 have az:=KC a cs L1;obtain⟨full,m⟩: ∃full,full=Value.int .i64 a::cs:=⟨_,rfl⟩;rw[←m] at az;have L3:full.length=65:=by rw[m,m7,L1]
 have L4: ∀v∈full,v.oneCell'=true:=by
  intro v hv;rw[m] at hv;rcases oJ.1 hv with rfl|hv
  ·rfl
  ·exact L2 v hv
 have HW:Hid (j9 ((a:Int),ys)=full):=by show _=_;rw[m,G];rfl
 have aI:=fun w=>XI w ⟨n,s,none⟩ P;have aO:=KV;have aM: ¬Z65= #[]:=by intro e;have:=Jb;rw[e] at this;simp at this
 have aN:=Jb;obtain⟨ic,al,R,A,aj⟩:=na Tryz.infoC;have W:Hid (w.heap[p]?=some (zi #[.slice (some (zd C)) (d.dR.length/64) (d.dR.length/64),.slice F d.pN.length pc] 99)):=Y;have B:Hid (w.ownsRow base 78 64 (.slice (some (zd C)) (d.dR.length/64) (d.dR.length/64)) (d.dR.length/64) (d.dR.map (Value.int .u8))):=ak;have X:Hid (w.ownsRow base 102 65 (.slice F d.pN.length pc) d.pN.length (flat d.pN)):=O;have V:Hid (w.rangeAt n s cs):=R0
 have au:Hid (∀v∈full,v.oneCell'=true):=L4;have ag:=hv.snoc hm ha hy;have av:Hid (qL ⟨d.dR,d.pN++ [((a:Int),ys)]⟩):=ag;rw[hy];clear ap m G L2 L4 Y ak O R0 ag hv;go_enter Tryz.func109,Tryz.ntmps109;go_wp2_with fail;refine(Vn _ a Hh).mono ?_;rintro e f ⟨rfl,rfl⟩;have aK:((64:Int) !=64)=false:=zn;go_wp2;refine wRg 14 (fun w'=>w'.cell? ⟨p,1,none⟩=some (.slice F d.pN.length pc)∧w'.rangeAt n s cs) ?_;have hS:(fun w':World=>w'.cell? ⟨p,1,none⟩=some (.slice F d.pN.length pc)∧w'.rangeAt n s cs) f.drew:=⟨c1,V⟩
 have HS:Hid ((fun w':World=>w'.cell? ⟨p,1,none⟩=some (.slice F d.pN.length pc)∧w'.rangeAt n s cs) f.drew):=hS;clear hS;refine wT2 0 (.pointer (some (zd p))) rfl ?_;go_simp;refine wT2 1 (.pointer (some (zd p))) rfl ?_;go_simp;refine wT2 2 (.pointer (some (zd p))) rfl ?_;go_simp;refine wT2 3 (.pointer (some ⟨p,1,none⟩)) rfl ?_;go_simp;refine wTk 4 (.slice F d.pN.length pc) rfl (fun w' ac=>by have h4:=ac.1;go_simp) HS.out ?_
 go_simp;refine wT2 5 (za a) rfl ?_;go_simp;refine wT2 6 (.slice (some ⟨n,s,none⟩) 64 P) rfl ?_;go_simp;refine wT2 7 (.pointer (some ⟨n,s,none⟩)) rfl ?_;go_simp;refine ZP 8 (.agg cs.toArray) rfl zl zl zl zl (fun _ _ _ h=>h) (yieldsIf_load_mid zl 78 (.tmp 31) rfl n s rfl cs _ (fun w' ac=>ac.2) Tryz.underlying78 rfl (by rw[L1];kernel_rfl)) HS ?_;go_simp;refine wT2 9 (.agg full.toArray) rfl ?_;go_simp
 refine wOn 10 rfl ?_;refine wp_buildSlice 97 102 1 #[(0,.tmp 33)] rfl full.toArray ic _ Tryz.underlying97 al R (by rw[A];decide) (by rw[A];decide) (by rw[A,oh];refine ie _ ?_ full L3;simp) ?_;have U:zr 0 0 f (f.drew.alloc (zi full.toArray 102)):=(zr.drew (zr.refl 0 0 f)).alloc _;have B3:=zt f.drew (zi full.toArray 102);have I:(f.drew.alloc (zi full.toArray 102)).ownsRow base 102 65 (.slice F d.pN.length pc) d.pN.length (flat d.pN):=World.ownsRow.alloc (World.ownsRow.drew X) _
 have ai:=U.cell c1;have ao:(f.drew.alloc (zi full.toArray 102)).rangeAt n s cs:=fun j v S=>U.cell (V j v S);have s3:(f.drew.alloc (zi full.toArray 102)).heap.size=f.heap.size+1:=zn;have ay:f.drew.heap.size=f.heap.size:=rfl;rw[ay] at B3⊢;generalize f.drew.alloc (zi full.toArray 102)=w3 at*;refine⟨fun _=>⟨ai,ao⟩,?_⟩;go_simp;have H: ∀j u,full[j]?=some u→w3.cell? (((zd f.heap.size):Addr).add j)=some u:=by
  intro j u S;rw[n9,ni,pe w3 f.heap.size j _ _ _ B3];simpa using S
 refine wOn 11 rfl ?_;refine wp_append_own w3 (.tmp 28) (.tmp 34) 97 rfl base 102 ic _ 65 72 Tryz.underlying97 al R A aj rfl zp _ _ (flat d.pN) rfl I (zd f.heap.size) 1 1 full rfl (by rw[L3]) H au (by unfold maxLen;omega) zk (by have:=(np B C rfl);omega) ?_;intro v' E t c _;obtain⟨N,M,L,rfl⟩:=zF t;have y: ∀k,(Value.slice F d.pN.length pc).ownBlock=some k→base≤k∧k<f.heap.size:=fun k K=>np X k K;have J: ∀k,(Value.slice F d.pN.length pc).ownBlock=some k→k≠p∧k≠C:=by
  intro k K;obtain⟨aE,D⟩: ∃l,f.heap[k]?=some (zi l 102):=by
   rcases X.2 with⟨e,_⟩|⟨g,cap,l,e,_,q,_⟩
   ·rw[e] at K;cases K
   ·rw[e] at K;cases K;exact⟨l,q⟩
  obtain⟨aD,ax⟩: ∃l,f.heap[C]?=some (zi l 78):=by
   rcases B.2 with⟨e,_⟩|⟨g,cap,l,e,_,q,_⟩
   ·cases e
   ·simp only[ns,nS,rp,pH] at e;obtain⟨rfl,_⟩:=e;exact⟨l,q⟩
  constructor
  ·intro e;rw[e,W.out] at D;simp only[nS,oK] at D;exact absurd D.2.1 zp
  ·intro e;rw[e,ax] at D;simp only[nS,oK] at D;exact absurd D.2.1 zp
 have K4: ∀k,k<f.heap.size→(∀g,(Value.slice F d.pN.length pc).ownBlock=some g→k≠g)→E.heap[k]?=f.heap[k]?:=fun k K am=>
  (c.block k zk (fun e=>am k e.symm rfl)).trans (U.bk k K)
 have z:E.heap[p]?=some (zi #[.slice (some (zd C)) (d.dR.length/64) (d.dR.length/64),.slice F d.pN.length pc] 99):=(K4 p an (fun g Z e=>(J g Z).1 e.symm)).trans W;have aw:=np B C rfl;have aq:=K4 C aw.2 (fun g Z e=>(J g Z).2 e.symm);have aa:E.rangeAt n s cs:=by
  intro j v S;have hx:=V.out j v S;have aC:=zV hx;rw[nQ (w:=f) (a:=⟨n,s+j,none⟩) (K4 n aC (fun g Z e=>by have:=y g Z;omega))];exact hx
 have s4:=c.size;obtain⟨e0,e1,aG,aH⟩:=zw z;have ad:Hid (zr base f.heap.size f E):=by
  refine⟨c.os.trans U.os,c.tape.trans U.tape,c.output.trans U.output,zk,fun k K q=>K4 k K (fun g Z e=>?_)⟩;have:=y g Z;omega
 have HN:Hid (E.ownsRow base 102 65 (.slice N M L) (d.pN.length+1) (flat d.pN++full)):=t;refine⟨fun _=>⟨e1,aa⟩,?_⟩;go_simp;have aF:Hid ((fun w':World=>w'.cell? ⟨p,1,none⟩=some (.slice F d.pN.length pc)∧w'.rangeAt n s cs) E):=⟨e1,aa⟩;refine wOn 12 rfl ?_;go_simp;refine wOn 13 rfl ?_;go_simp;refine wOn 14 rfl ?_;have HB:Hid ((E.setCell ⟨p,1,none⟩ (.slice N M L)).heap[p]?=some (zi #[.slice (some (zd C)) (d.dR.length/64) (d.dR.length/64),.slice N M L] 99)):=by
  have:=oP E p 1 _ _ (.slice N M L) z;show _=_;simpa using this
 have ae:Hid ((E.setCell ⟨p,1,none⟩ (.slice N M L)).heap[C]?=f.heap[C]?):=by
  refine(nY _ _ _ _ ?_).trans aq;intro e;rcases B.2 with⟨Q,_⟩|⟨g,cap,l,Q,_,q,_⟩
  ·cases Q
  ·simp only[ns,nS,rp,pH] at Q;obtain⟨rfl,_⟩:=Q;have e2:C=p:=e;rw[e2,W.out] at q;simp only[nS,oK] at q;exact absurd q.2.1 zp
 have af:Hid ((E.setCell ⟨p,1,none⟩ (.slice N M L)).ownsRow base 102 65 (.slice N M L) (d.pN.length+1) (flat d.pN++full)):=by
  refine tf HN ?_ _;intro e;rcases HN.2 with⟨Q,_⟩|⟨g,cap,l,Q,_,q,_⟩
  ·rw[Q] at e;cases e
  ·rw[Q] at e;have e2:g=p:=by simpa [Value.ownBlock] using e
   rw[e2,z] at q;simp only[nS,oK] at q;exact absurd q.2.1 zp
 have HD:Hid (Dev (E.setCell ⟨p,1,none⟩ (.slice N M L)) base p ⟨d.dR,d.pN++ [((a:Int),ys)]⟩):=by
  refine⟨C,.slice N M L,av,hp,HB,?_,?_⟩
  ·refine⟨B.1,?_⟩;rcases B.2 with h2|⟨g,cap,l,ab,aA,q,r⟩
   ·exact Or.inl h2
   ·refine Or.inr ⟨g,cap,l,ab,aA,?_,r⟩;simp only[ns,nS,rp,pH] at ab;rw[←ab.1] at q⊢;exact ae.trans q
  ·have:=af.out;show(E.setCell _ _).ownsRow _ _ _ _ (d.pN++ [((a:Int),ys)]).length (flat (d.pN++ [((a:Int),ys)]));rw[fg,HW.out,mL];exact this
 have ar:Hid (zr base f.heap.size f (E.setCell ⟨p,1,none⟩ (.slice N M L))):=ad.setCell (Or.inl ⟨hp,an⟩) _;clear K4 aa t c U B3 I ai ao H J y aq HN af ae HB ad z;go_simp;refine wDn ?_;go_wp2;go_ret;exact⟨rfl,HD,ar⟩
theorem Z6.snoc {eW eB:TypeId}{v':Value}{ps:List Wr}{cells:List Value}{dvs:Nat→Value}(h:Z6 w base eW eB v ps cells dvs)(q:Int)(a:Value)(ys:List Int)
  (c:w'.ownsRow base eW 2 v' (ps.length+1) (cells++ [za q,a])) (b: ∀i,i<ps.length→zu w' base eB (dvs i) (ps.getD i (0,[])).2) (m:zu w' base eB a ys)
  (d: ∀i g,i<ps.length→(dvs i).ownBlock=some g→a.ownBlock≠some g):
  Z6 w' base eW eB v' (ps++ [(q,ys)]) (cells++ [za q,a]) (fun i=>if i=ps.length then a else dvs i):=by
 have k:=h.row.1;refine⟨by simpa using c,?_,?_,?_,?_⟩
 ·intro i hi;simp only[mL,m7,nH] at hi;by_cases e:i<ps.length
  ·rw[nZ zk,h.at0 i e,mV,mV,nZ e]
  ·obtain rfl:i=ps.length:=zk;rw[oM zk,k];simp
 ·intro i hi;simp only[mL,m7,nH] at hi;by_cases e:i<ps.length
  ·rw[nZ zk,h.at1 i e,mN zk]
  ·obtain rfl:i=ps.length:=zk;rw[oM zk,k,mM rfl,show ps.length*2+1-ps.length*2=1 by omega];rfl
 ·intro i hi;simp only[mL,m7,nH] at hi;by_cases e:i<ps.length
  ·show zu w' base eB (if i=ps.length then a else dvs i) _;rw[mN zk,mV,nZ e,←mV];exact b i e
  ·obtain rfl:i=ps.length:=zk;show zu w' base eB (if ps.length=ps.length then a else dvs ps.length) _;rw[mM rfl];simpa using m
 ·intro i j g f l;simp only[mL,m7,nH] at l;rw[mN zk];by_cases e:j<ps.length
  ·rw[mN zk];exact h.apart i j g f e
  ·rw[mM zk];exact d i g zk
theorem QJ (n:Nat)(A:Array Value)(c:A.size=n)(full:List Value)(h:full.length=n):
  Instr.fill (fun i=>some (i*n,n)) A [(0,.agg full.toArray)]=some full.toArray:=by
 have b:=Qz 0 full 0 A zk;have e:splice A.toList (0+0) full=full:=by
  unfold splice;have d:A.toList.length=n:=c;simp only[ni,oI,nG];rw[oZ zk,nw]
 rw[e] at b;have a:List.foldl (fun(B:Array Value) (p:Value×Nat)=>B.setIfInBounds (0+p.2) p.1) A (full.zipIdx 0)=full.toArray:=rZ (by simpa using b);simp only[ni] at a;simp[Instr.fill,Value.cells,c,h,a]
theorem Tryz.infoW':(Tryz.prog.info? 100).map (fun i=>(i.zero,i.size,i.bytes))=some (some (.agg #[za 0,zc]),2,32):=zl
def dx (w:World) (lo B:Nat) (dur:List Int) (g:Nat) (ps:List Wr):Prop:=
 ∃pv cells dvs,w.heap[B]?=some (zi #[zg g dur.length dur.length,pv] 26)∧zu w lo 5 (zg g dur.length dur.length) dur∧
  Z6 w lo 100 5 pv ps cells dvs∧ ∀i,i<ps.length→(dvs i).ownBlock≠some g
theorem bE (w:World){d:Dsk}(h:Dev w base p d):
  Calls Tryz.prog 26 #[zh p] w fun e w'=> ∃v,e= .returned v∧qK w' w.heap.size w'.heap.size 100 5 v d∧zr 0 0 w w':=by
 obtain⟨gD,po,cap,hv,hp,aZ,K,ab,am⟩:=h.pend_ne;have aR:=(zE K);have aP:=(zE ab);have aY:=hv.1;have aQ:=hv.2.1;have hn:=hv.2.2.1;have hm:=hv.2.2.2.1;have C0:zr 0 0 w (w.alloc (zi #[zc,zc] 26)):=zr.al w;have B0:=zt w (zi #[zc,zc] 26);have s0:(w.alloc (zi #[zc,zc] 26)).heap.size=w.heap.size+1:=zn;have ai:=(C0.bk gD aP).trans ab;have L:=(C0.bk p aR).trans K;obtain⟨b0,b1,_,_⟩:=zw L;obtain⟨v0,v1,_,_⟩:=zw K
 have HP:Hid _:=am;have HV:Hid (qL d):=hv;go_enter Tryz.func26,Tryz.ntmps26;go_wp2_with fail;generalize w.alloc (zi #[zc,zc] 26)=wa at*;refine(Yv _ gD _ d.dR ai zk aQ hn).mono ?_;rintro e wb ⟨g,rfl,ho,hb⟩;rw[show d.dR.length/64*64=d.dR.length from zk] at*;have sb:=hb.size;have gb:=ho.lt g rfl;have B0:=(hb.bk w.heap.size).trans B0;have ag:=(hb.bk p).trans L;have hB:=C0.trans hb;have C1:zr 0 0 wb (wb.alloc (zi #[zg g d.dR.length d.dR.length,zc] 26)):=zr.al wb
 have B2:=zt wb (zi #[zg g d.dR.length d.dR.length,zc] 26);have B0:=(C1.bk w.heap.size).trans B0;have ah:=(C1.bk p).trans ag;have s2:(wb.alloc (zi #[zg g d.dR.length d.dR.length,zc] 26)).heap.size=wb.heap.size+1:=zn;obtain⟨b0,b1,_,_⟩:=zw ah;obtain⟨y0,y1,aU,aV⟩:=zw B0;obtain⟨u0,u1,_,_⟩:=zw B2;have aA:=(ho.chg C1 (by intro R _;omega)).base (base':=w.heap.size) (fun R A=>by cases A;show w.heap.size≤g;omega)
 have hC:=hB.trans C1;go_wp2;generalize wb.alloc (zi #[zg g d.dR.length d.dR.length,zc] 26)=wd at*;have T0:dx wd (w.heap.size+1) wb.heap.size d.dR g []:=
  ⟨zc,[],fun _=>zc,B2,aA.base (fun R A=>by cases A;show w.heap.size+1≤g;omega),Z6.nil _ _ _ _,zn⟩
 have aK:Hid (dx wd (w.heap.size+1) wb.heap.size d.dR g []):=T0;have HC:Hid (zr 0 0 w wd):=hC;have HR:Hid (wd.heap[w.heap.size]?=some (zi #[zc,zc] 26)):=B0;clear T0 aA hC B0 B2 y0 y1 aU aV u0 u1 b0 b1;go_loopw [17] (fun i wr=> ∃k:Nat,k≤d.pN.length∧i=za k∧zr 0 0 w wr∧wd.heap.size≤wr.heap.size∧wr.heap[w.heap.size]?=some (zi #[zc,zc] 26)∧dx wr (w.heap.size+1) wb.heap.size d.dR g (d.pN.take k)) (fun i _=>d.pN.length-(intOf i).toNat)
 case atStart=>exact⟨0,mX _,rfl,HC.out,mP _,HR.out,by simpa using aK.out⟩
 case round=>
  obtain⟨k,hk,rfl,W,a2,hR,pv,o,V,hB,hD,S,hA⟩:=hrel;by_cases aj:k<d.pN.length
  ·obtain⟨gP,rfl,a1,aW,an⟩:=HP.out k aj;obtain⟨aS,aT,Q⟩:=HV.2.2.2.2 k aj;have ao:d.pN.take (k+1)=d.pN.take k++ [d.pN.getD k (0,[])]:=by
    rw[sO,mV,mZ aj];rfl
   have ay:(d.pN.take k).length=k:=by rw[mW];omega
   obtain⟨l,pl,pc,rfl⟩:=zF S.row;generalize d.pN.getD k (0,[])=pr at*;obtain⟨q,xs⟩:=pr;simp only at aS aT Q;obtain⟨cs,M⟩: ∃cs,cs=xs.map (Value.int .u8):=⟨_,rfl⟩;obtain⟨full,z⟩: ∃full,full=j9 (q,xs):=⟨_,rfl⟩;rw[←z] at an;have X:full=Value.int .i64 q::cs:=by rw[z,M];rfl
   have L1:cs.length=64:=by rw[M];simpa using Q
   have L2: ∀v∈cs,v.oneCell'=true:=by rw[M];exact nf _ _
   have L3:full.length=65:=by rw[X,m7,L1]
   have L4: ∀v∈full,v.oneCell'=true:=by
    intro v hv;rw[X] at hv;rcases oJ.1 hv with rfl|hv
    ·rfl
    ·exact L2 v hv
   have R0:wr.rangeAt gP (k*65) full:=fun j v b=>W.cell (an j v b);have ar:Hid _:=R0;have au:Hid _:=X;have aF:Hid _:=L3;have aG:Hid _:=L4;have av:Hid (full.toArray.size=65):=by show _=_;simpa using L3
   have aL:Hid _:=M;have aC:=Tryz.underlying102;have aB:Hid ((Tryz.prog.info? 102).map (·.size)=some full.toArray.size):=by show _=_;rw[av.out];kernel_rfl
   have ac:Hid ((Tryz.prog.info? 102).map (·.size)=some full.length):=by show _=_;rw[L3];kernel_rfl
   have HB:Hid _:=hB;have HD:Hid (zu wr (w.heap.size+1) 5 (zg g d.dR.length d.dR.length) d.dR):=hD;have ae:Hid _:=S;have HA:Hid _:=hA;have aH:Hid _:=hR;have aD:Hid _:=W;clear an M z X L2 L3 L4 R0 hB hD S hA hR W;have a0:(k:Int)<(d.pN.length:Int):=zk;go_wp2_with (first
    |(refine nO rfl 102 (.tmp 19) rfl gP (k*65) rfl full _ ar aC rfl ac.out ?_)
    |(refine rQ rfl 102 (.tmp 5) (.tmp 20) rfl wr.heap.size 0 full.toArray rfl rfl (by rw[av.out];exact Ju wr _ _ 65 rfl) aB.out (rR aG) ?_)
    |go_in)
   obtain⟨F1,F2⟩:=filled (w:=wr) (c:=Tryz.zeroCells102) (t:=102) (full:=full) (by rw[aF.out];rfl);generalize (wr.alloc (zi Tryz.zeroCells102 102)).setCells wr.heap.size 0 full=W7 at*;have a3:wb.heap.size<wr.heap.size:=zk;have z1:=F2.cell (zw HB).2.1;have m0:W7.cell? (zd wr.heap.size)=some (za q):=by
    rw[pe W7 wr.heap.size 0 _ _ _ F1,au.out];simp
   have R7:W7.rangeAt wr.heap.size 1 cs:=by
    intro j v b;rw[pe W7 wr.heap.size (1+j) _ _ _ F1,au.out,ru];simpa using b
   have aE:Hid _:=F2;have s7:=F2.size;have a4:=(zE F1);have HS:Hid (_∧_∧_):=⟨z1,m0,R7⟩;clear F1 F2 z1 m0 R7 ar aC aB ac;refine wRg 11 (fun w':World=>w'.cell? ⟨wb.heap.size,1,none⟩=some (zj l pl pc)∧w'.cell? (zd wr.heap.size)=some (za q)∧w'.rangeAt wr.heap.size 1 cs) ?_;refine wT2 0 (.pointer (some ⟨wb.heap.size,1,none⟩)) rfl ?_;go_simp;refine wTk 1 (zj l pl pc) rfl (fun w' G=>by have h4:=G.1;go_simp) HS.out ?_
   go_simp;refine wT2 2 (zh wr.heap.size) rfl ?_;go_simp;refine wTk 3 (za q) rfl (fun w' G=>by have h4:=G.2.1;go_simp) HS.out ?_;go_simp;refine wT2 4 (.pointer (some ⟨wr.heap.size,1,none⟩)) rfl ?_;go_simp;refine ZP 5 (.agg cs.toArray) rfl zl zl zl zl (fun _ _ _ h=>h) (yieldsIf_load_mid zl 78 (.tmp 25) rfl wr.heap.size 1 rfl cs _ (fun w' G=>G.2.2) Tryz.underlying78 rfl (by rw[L1];kernel_rfl)) HS ?_
   go_simp;refine wOn 6 rfl ?_;have af:=Zx W7.drew xs Q;rw[←aL.out] at af;refine zv 35 #[.agg cs.toArray] zq af ?_;rintro e H ⟨y,rfl,ak,F⟩;refine⟨_,rfl,?_⟩;clear af;have aO:W7.drew.heap.size=W7.heap.size:=rfl;have E:Hid (_∧_∧_):=⟨F.cell HS.1,F.cell HS.2.1,fun j v b=>F.cell (HS.2.2 j v b)⟩;have ap:Hid _:=(zr.drew aE).trans F;have s5:=F.size;have aN:=ak.lt y rfl;rw[aO] at s5 aN;have aq:Hid (zu H (w.heap.size+1) 5 (zg y 64 64) xs):=ak.base (fun R A=>by cases A;show w.heap.size+1≤y;omega)
   clear HS ak F;refine⟨fun _=>E.out,?_⟩;go_simp;refine wTk 7 (.agg #[za q,zg y 64 64]) rfl (fun w' G=>zm) E.out ?_;go_simp;obtain⟨ic,ax,aa,B,aw⟩:=na Tryz.infoW';refine wOn 8 rfl ?_;refine wp_buildSlice 24 100 1 #[(0,.tmp 28)] rfl #[za q,zg y 64 64] ic _ Tryz.underlying24 ax aa (by rw[B];decide) (by rw[B];decide) (by rw[B,oh];refine QJ 2 _ ?_ [za q,zg y 64 64] rfl;simp) ?_;have C6:zr 0 0 wr (H.alloc (zi #[za q,zg y 64 64] 100)):=ap.alloc _
   have I:zr 0 0 H (H.alloc (zi #[za q,zg y 64 64] 100)):=zr.al H;have B6:=zt H (zi #[za q,zg y 64 64] 100);have s6:(H.alloc (zi #[za q,zg y 64 64] 100)).heap.size=H.heap.size+1:=zn;generalize H.alloc (zi #[za q,zg y 64 64] 100)=Y at*;have T:=aq.chg I (by intro R _;omega);have S6:(fun w':World=>w'.cell? ⟨wb.heap.size,1,none⟩=some (zj l pl pc)∧w'.cell? (zd wr.heap.size)=some (za q)∧w'.rangeAt wr.heap.size 1 cs) Y:=⟨I.cell E.1,I.cell E.2.1,fun j v b=>I.cell (E.2.2 j v b)⟩
   refine⟨fun _=>S6,?_⟩;go_simp;have P6:=ae.chg C6 (by intro R _;omega) (by intro i R _ _;omega);have D6:=HD.chg C6 (by intro R _;omega);have ad:=(C6.bk wb.heap.size).trans HB;have R6:=(C6.bk w.heap.size).trans aH;have N: ∀j u,[Value.int .i64 q,zg y 64 64][j]?=some u→Y.cell? (((zd H.heap.size):Addr).add j)=some u:=by
    intro j u b;rw[n9,ni,pe Y H.heap.size j _ _ _ B6];simpa using b
   refine wOn 9 rfl ?_;refine wp_append_own Y (.tmp 22) (.tmp 29) 24 rfl (w.heap.size+1) 100 ic _ 2 32 Tryz.underlying24 ax aa B aw rfl zp _ _ o rfl P6.row (zd H.heap.size) 1 1 [za q,zg y 64 64] rfl rfl N (by simp[Value.oneCell']) (by rw[ay];unfold maxLen;omega) (by rw[ay];omega) zk ?_;intro v' C x m _;obtain⟨vo,vl,vc,rfl⟩:=zF x;have s8:=m.size;have U: ∀j,j<Y.heap.size→(Value.slice l pl pc).ownBlock≠some j→C.heap[j]?=Y.heap[j]?:=fun j b az=>m.block j b (fun e=>az e.symm)
   have O: ∀j,(Value.slice l pl pc).ownBlock=some j→w.heap.size+1≤j∧j<wr.heap.size:=fun j b=>np ae.row j b;have P: ∀j,(Value.slice l pl pc).ownBlock=some j→ ∃s,Y.heap[j]?=some (zi s 100):=fun j b=>zK P6.row b;have D:C.heap[wb.heap.size]?=_:=(U wb.heap.size zk (fun e=>by obtain⟨s,f⟩:=P _ e;exact qf f ad zp rfl)).trans ad;have R8:C.heap[w.heap.size]?=_:=(U w.heap.size zk (fun e=>by have:=O _ e;omega)).trans R6
   have D8:zu C (w.heap.size+1) 5 _ d.dR:=D6.same (fun j b=>U j (D6.lt j b).2 (fun e=>by obtain⟨s,f⟩:=P _ e;obtain⟨Z,n⟩:=D6.elem b;exact qf f n zp rfl));have O8:zu C (w.heap.size+1) 5 _ xs:=T.same (fun j b=>U j (T.lt j b).2 (fun e=>by obtain⟨s,f⟩:=P _ e;obtain⟨Z,n⟩:=T.elem b;exact qf f n zp rfl));have X8: ∀i,i<(d.pN.take k).length→zu C (w.heap.size+1) 5 (V i) ((d.pN.take k).getD i (0,[])).2:=fun i hi=>(P6.data i hi).same (fun j b=>U j ((P6.data i hi).lt j b).2 (fun e=>by obtain⟨s,f⟩:=P _ e;obtain⟨Z,n⟩:=(P6.data i hi).elem b;exact qf f n zp rfl))
   have J:=aD.trans C6;have C8:zr 0 0 w C:=by
    refine⟨m.os.trans J.os,m.tape.trans J.tape,m.output.trans J.output,zk,fun j b hh=>(U j zk (fun e=>?_)).trans (J.bk j b)⟩;have:=O j e;omega
   have S8:(fun w':World=>w'.cell? ⟨wb.heap.size,1,none⟩=some (zj l pl pc)∧w'.cell? (zd wr.heap.size)=some (za q)∧w'.rangeAt wr.heap.size 1 cs) C:=⟨(zw D).2.1,?_,?_⟩;rotate_left 1
   ·have:=S6.2.1;rw[nQ (w:=Y) (a:=(zd wr.heap.size)) (U wr.heap.size zk (fun e=>by have:=O _ e;omega))];exact this
   ·intro j v b;rw[nQ (w:=Y) (a:=⟨wr.heap.size,1+j,none⟩) (U wr.heap.size zk (fun e=>by have:=O _ e;omega))];exact S6.2.2 j v b
   refine⟨fun _=>S8,?_⟩;have e1:=S8.1;have aX:=(zw D).2.2.2;have aI:Hid _:=S8;have nB: ∀ {v xs},zu C (w.heap.size+1) 5 v xs→v.ownBlock≠some wb.heap.size:=fun ho e=>by obtain⟨s,f⟩:=ho.elem e;exact qf f D zp rfl
   have HC9:Hid (zr 0 0 w (C.setCell ⟨wb.heap.size,1,none⟩ (zj vo vl vc))):=C8.step (zr.setCell (lo:=wb.heap.size) (hi:=wb.heap.size+1) (zr.refl _ _ _) (Or.inl ⟨mP _,m5 _⟩) _);have HR9:Hid ((C.setCell ⟨wb.heap.size,1,none⟩ (zj vo vl vc)).heap[w.heap.size]?=some (zi #[zc,zc] 26)):=(nY _ _ _ _ (by show w.heap.size≠wb.heap.size;omega)).trans R8;have HT9:Hid (dx (C.setCell ⟨wb.heap.size,1,none⟩ (zj vo vl vc)) (w.heap.size+1) wb.heap.size d.dR g (d.pN.take (k+1))):=by
    refine⟨zj vo vl vc,o++ [za q,zg y 64 64],fun i=>if i=(d.pN.take k).length then zg y 64 64 else V i,?_,D8.set (nB D8) _,?_,?_⟩
    ·have:=oP C wb.heap.size 1 _ _ (zj vo vl vc) D;simpa using this
    ·rw[ao];refine P6.snoc q _ xs (tf x (fun e=>?_) _) (fun i hi=>(X8 i hi).set (nB (X8 i hi)) _) (O8.set (nB O8) _) (fun i R hi A e=>?_)
     ·obtain⟨s,f⟩:=zK x e;exact qf f D zp rfl
     ·have:=((ae.data i hi).lt R A).2;have e2:y=R:=by simpa [Value.ownBlock] using e
      omega
    ·intro i hi;rw[ao,mL,m7,nH] at hi;by_cases e:i=(d.pN.take k).length
     ·simp only[mM e];have:=(HD.lt g rfl).2;simp[Value.ownBlock];omega
     ·simp only[mN e];exact HA i zk
   have HS9:Hid (wd.heap.size≤(C.setCell ⟨wb.heap.size,1,none⟩ (zj vo vl vc)).heap.size):=by show _≤_;simp[World.setCell];omega
   clear S8 S6 X8 O8 D8 R8 P O U m x N P6 D6 ad R6 T C6 I J C8 B6 nB D aq ap E ao;go_simp;refine wOn 10 rfl ?_;go_simp;refine⟨aI.2,?_⟩;refine wOn 11 rfl ?_;go_simp;refine wDn ?_;go_wp2;go_roundw
   case rel=>exact⟨k+1,zk,by go_num,HC9.out,HS9.out,HR9.out,HT9.out⟩
   case measure=>simp[intOf];omega
  ·obtain rfl:k=d.pN.length:=zk;rw[nV] at S hA;obtain⟨l,pl,pc,rfl⟩:=zF S.row;obtain⟨z0,z1,a7,a8⟩:=zw hR;obtain⟨t0,t1,a5,a6⟩:=zw hB;have HO:Hid (qK ((wr.setCell (zd w.heap.size) (zg g d.dR.length d.dR.length)).setCell ⟨w.heap.size,1,none⟩ (zj l pl pc)) w.heap.size wr.heap.size 100 5 (.agg #[zg g d.dR.length d.dR.length,zj l pl pc]) d):=by
    have c2:zr w.heap.size (w.heap.size+1) wr ((wr.setCell (zd w.heap.size) (zg g d.dR.length d.dR.length)).setCell ⟨w.heap.size,1,none⟩ (zj l pl pc)):=zr.set2 _ _ _ _;have P9:=S.chg c2 (fun j b=>Or.inr (np S.row j b).1) (fun i j hi b=>Or.inr ((S.data i hi).lt j b).1);have aM:Z6 ((wr.setCell (zd w.heap.size) (zg g d.dR.length d.dR.length)).setCell ⟨w.heap.size,1,none⟩ (zj l pl pc)) w.heap.size 100 5 (zj l pl pc) d.pN o V:=by
     refine⟨?_,P9.at0,P9.at1,fun i hi=>(P9.data i hi).base (fun j b=>by have:=((P9.data i hi).lt j b).1;omega),P9.apart⟩;obtain⟨h1,h2⟩:=P9.row;refine⟨h1,?_⟩;rcases h2 with h2|⟨j,cap,s,hv,hg,hh,r⟩
     ·exact Or.inl h2
     ·exact Or.inr ⟨j,cap,s,hv,zk,hh,r⟩
    refine⟨_,_,o,V,rfl,(hD.chg c2 (fun j b=>Or.inr (hD.lt j b).1)).base (fun j b=>by have:=(hD.lt j b).1;omega),aM,fun i j hi b e=>hA i hi (by cases b;exact e),fun j b=>(hD.lt j b).2,fun j b=>(np S.row j b).2,fun i j hi b=>((S.data i hi).lt j b).2⟩
   have HCf:Hid (zr 0 0 w ((wr.setCell (zd w.heap.size) (zg g d.dR.length d.dR.length)).setCell ⟨w.heap.size,1,none⟩ (zj l pl pc))):=W.step (zr.set2 _ _ _ _);have aJ:Hid (((wr.setCell (zd w.heap.size) (zg g d.dR.length d.dR.length)).setCell ⟨w.heap.size,1,none⟩ (zj l pl pc)).heap.size=wr.heap.size):=by show _=_;simp[World.setCell]
   go_wp2;refine mU (v:= .agg #[zg g d.dR.length d.dR.length,zj l pl pc]) (by simp[results,Tryz.results26,go_sem,z0,z1]) rfl ⟨_,rfl,?_,HCf.out⟩;rw[aJ.out];exact HO
theorem AwV.head {t:Int×Bool}{r:List (Int×Bool)}(h:AwV w base av (t::r)): ∃g a cap,av=zj (some ⟨g,a,none⟩) (r.length+1) cap∧r.length+1≤cap∧cap≤17∧base≤g∧g<w.heap.size∧w.cell? ⟨g,a,none⟩=some (za t.1)∧w.cell? ⟨g,a+1,none⟩=some (.bool t.2)∧ ∀b,r.length≤b→b≤17→AwV w base (zj (some ⟨g,a+2,none⟩) r.length b) r:=by
 obtain⟨m,cap,rfl,h1,h2,h3⟩:=h;obtain⟨g,a,e,rfl,j,c,f⟩:=h3 zn;have d:=f 0 zn;simp only[List.getD_cons_zero,pZ,oF] at d;refine⟨g,a,cap,rfl,by simpa using h1,h2,j,(zE c),?_,?_,fun b k l=>⟨_,b,rfl,k,l,fun _=>⟨g,a+2,e,rfl,j,c,fun i hi=>?_⟩⟩⟩
 ·simp only[World.cell?,c];exact d.1
 ·simp only[World.cell?,c];exact d.2
 ·have:=f (i+1) (by simpa using hi);rw[sP] at this;rw[show a+2+i*2=a+(i+1)*2 by omega];exact this
theorem aL (w:World){s:RS}{es:List Hv}{t:Int×Bool}{r:List (Int×Bool)}(n:w.heap[R]?=some (rdO sv s.seq hv rv av))(hb:base≤R)(hP:Pts w base s sv hv rv av es)(hG:Za w tL tM tK vL vM vK)(hx:xs.length=64)(hB:Byt xs)(aA:s.aw=t::r)(aP:es.length≤20000)(ax:8≤R:=by omega):
  Calls Tryz.prog 153 #[zh R,.agg (xs.map (Value.int .u8)).toArray] w fun e w'=>e= .returned (.bool (Zp xs t.2))∧jj base w w'∧XV w' base R {s with homes:=if Zp xs t.2=true then s.homes++ [(t.1,jA xs t.2)] else s.homes,aw:=r}:=by
 obtain⟨cs,k⟩: ∃cs,cs=xs.map (Value.int .u8):=⟨_,rfl⟩;have L1:cs.length=64:=by rw[k];simpa using hx
 have L2: ∀v∈cs,v.oneCell'=true:=by rw[k];exact nf _ _
 have hU:=fun(W:World) (hG:Za W tL tM tK vL vM vK)=>XG W xs t.2 hx hB hG;have aa:((jA xs t.2).map (Value.int .u8)).length=64:=by rw[mO];exact XT hx _
 rw[←k] at hU⊢;have aO:=(zE n);have b:=hP.aw;rw[aA] at b;obtain⟨g,ac,cap,rfl,k1,k2,k3,k4,a0,a1,ab⟩:=b.head;obtain⟨_,_,_,_,x4,fr⟩:=q9 n;have f4:=fr 4;have aC:g≠R:=by
  intro e;obtain⟨ao,aF,e2,_,_,h3⟩:=b;obtain⟨g2,aJ,aM,e3,_,hh,_⟩:=h3 zn
  cases e2;cases e3
  rw[e,n] at hh;simp only[nS,oK] at hh;exact absurd hh.2.1 zp
 obtain⟨a,u⟩: ∃a,a=Value.slice (if cap=1 then some ⟨g,ac,none⟩ else some ⟨g,ac+2,none⟩) r.length (cap-1):=⟨_,rfl⟩;have M:AwV w base a r:=by
  rw[u];by_cases x:cap=1
  ·have:r= []:=nT zk;subst this;rw[mM x];exact⟨_,_,rfl,zn,zk,fun h=>absurd h zn⟩
  ·rw[mN x];exact ab (cap-1) zk zk
 have T:=dV n a;have Q:Pts (w.setCell ⟨R,4,none⟩ a) base {s with aw:=r} sv hv rv a es:=by
  have:=hP.set (i:=4) a n;exact⟨this.seen,this.homes,this.hs,this.rV,M.keep (qh.set _ n zp)⟩
 have V:jj base w (w.setCell ⟨R,4,none⟩ a):=jj.set _ n hb;have O:Za (w.setCell ⟨R,4,none⟩ a) tL tM tK vL vM vK:=hG.chg (zr.setCell (p:=⟨R,4,none⟩) (lo:=R) (hi:=R+1) (zr.refl _ _ _) (Or.inl ⟨mP _,m5 _⟩) _) (by right;exact ax);have sw:(w.setCell ⟨R,4,none⟩ a).heap.size=w.heap.size:=zn;have E:zr 0 0 (w.setCell ⟨R,4,none⟩ a) (((w.setCell ⟨R,4,none⟩ a).alloc (.cells cs.toArray 78)).alloc (.cells #[za t.1,.bool t.2] 174)):=(zr.al _).alloc _
 obtain⟨z1,z2,z3⟩:=zU (w.setCell ⟨R,4,none⟩ a) (.cells cs.toArray 78) (.cells #[za t.1,.bool t.2] 174);rw[sw] at z1 z2 z3;have H3:Hid (((w.setCell ⟨R,4,none⟩ a).alloc (.cells cs.toArray 78)).alloc (.cells #[za t.1,.bool t.2] 174)=((w.setCell ⟨R,4,none⟩ a).alloc (.cells cs.toArray 78)).alloc (.cells #[za t.1,.bool t.2] 174)):=rfl;have aK:Hid _:=k;clear hP n hG fr hx hB b ab M k;go_enter Tryz.func153,Tryz.ntmps153
 go_upto_region 3 with fail;rw[←u];generalize ((w.setCell ⟨R,4,none⟩ a).alloc (.cells cs.toArray 78)).alloc (.cells #[za t.1,.bool t.2] 174)=W3 at*;have U:=(E.bk R).trans T;have S:=Q.chg E zk;have X:=V.trans (jj.chg E);have P:=O.chg E zk;clear T Q V O E H3 sw a0 a1 x4 f4 aC u;obtain⟨b0,b1,_,_⟩:=zw z3;have hN:=hU W3 P;have hi28:(Tryz.prog.info? 78).map (·.size)=some cs.length:=by rw[L1];kernel_rfl
 have HRg:Hid _:=zy z2;have u28:=Tryz.underlying78;have af:Hid _:=S;have ag:Hid _:=U;have aj:Hid _:=X;have ad:Hid _:=z3;have aR:=z1.symm;have f:Hid _:=aa;clear hU U S X P z1 z2 z3 aa;obtain⟨D,A⟩: ∃D,D=jA xs t.2:=⟨_,rfl⟩;rw[←A] at f hN;have an:Hid _:=A;clear A;obtain⟨vs,m⟩: ∃vs,vs=D.map (Value.int .u8):=⟨_,rfl⟩;rw[←m] at f hN;have J:Hid _:=m;have ae:Hid (∀v∈vs,v.oneCell'=true):=by rw[m];exact nf _ _
 have Z:(Tryz.prog.info? 78).map (·.size)=some vs.length:=by rw[f.out];kernel_rfl
 clear m;go_wp2_with (refine nM rfl 78 (.tmp 3) rfl w.heap.size 0 rfl cs _ HRg.out u28 rfl hi28 ?_);refine hN.mono ?_;rintro e W4 ⟨rfl,c4⟩;have s4:=c4.size;have zA:=zt W4 (.cells Z64.toArray 78);have cA:zr 0 0 W4 (W4.alloc (.cells Z64.toArray 78)):=zr.al W4;have sA:=cA.size;have ap:Hid _:=zA;have am:Hid _:=c4.trans cA;go_upto_region 4 with(refine wpList_store_row rfl 78 (.tmp 6) (.tmp 27) rfl rfl W4.heap.size rfl vs Z64 78 rfl (by simp only[qd];exact ap.out) (by rw[zN];exact f.out) Z ae.out ?_;intro B aB y)
 simp only[qd] at y;have s5:=y.size;have c5:=am.step y;have o:Hid _:=af.chg c5 zk;have q:Hid _:=(c5.bk R).trans ag;have H:Hid _:=aj.trans (jj.chg c5);have F:Hid _:=c5.bt ad;have I:Hid _:=aB;by_cases aE:Zp xs t.2=true
 case neg=>
  have aI:Zp xs t.2=false:=by simpa using aE
  go_wp2
  all_goals
   go_ret
   exact⟨rfl,H,sv,hv,rv,a,es,q,o⟩
 obtain⟨ha,hn,x,rfl⟩:=o.homes.slice;obtain⟨_,_,q2,_,_,aN⟩:=q9 q;obtain⟨b0,b1,_,_⟩:=zw F;have HS:Hid ((fun w':World=>w'.heap[R]?=some (rdO sv s.seq (zj ha hn x) rv a)∧w'.heap[w.heap.size+1]?=some (.cells #[za t.1,.bool t.2] 174 (0,0))∧w'.heap[W4.heap.size]?=some (.cells vs.toArray 78 (0,0))) B.drew):=⟨q,F,I⟩;go_wp2;refine wRg 16 (fun w':World=>w'.heap[R]?=some (rdO sv s.seq (zj ha hn x) rv a)∧w'.heap[w.heap.size+1]?=some (.cells #[za t.1,.bool t.2] 174 (0,0))∧w'.heap[W4.heap.size]?=some (.cells vs.toArray 78 (0,0))) ?_
 have G:Hid _:=o.chg (zr.drew (zr.refl 0 0 B)) zk;have ak:Hid _:=H.trans (jj.chg (zr.drew (zr.refl 0 0 B)));have aQ:B.heap.size≤B.drew.heap.size:=mP _;have aH:=(zE I);generalize B.drew=wd at*;refine wT2 0 (zh R) rfl ?_;go_simp;refine wT2 1 (zh R) rfl ?_;go_simp;refine wT2 2 (zh R) rfl ?_;go_simp;refine wT2 3 (.pointer (some ⟨R,1,none⟩)) rfl ?_;go_simp;refine wT2 4 (.pointer (some ⟨R,2,none⟩)) rfl ?_
 go_simp;refine wTk 5 (zj ha hn x) rfl (fun w' c=>by obtain⟨_,_,h4,_⟩:=q9 c.1;go_simp) HS.out ?_;go_simp;refine wT2 6 (zh (w.heap.size+1)) rfl ?_;go_simp;refine wTk 7 (za t.1) rfl (fun w' c=>by have h4:=(zw c.2.1).1;go_simp) HS.out ?_;go_simp;refine ZP 8 (.agg vs.toArray) rfl zl zl zl zl (fun _ _ _ h=>h) (nl zl 78 (.tmp 6) rfl W4.heap.size 0 rfl vs _ (fun w' c=>zy c.2.2) Tryz.underlying78 rfl Z) HS ?_
 go_simp;have N:=Zx wd D (by have:=f.out;rw[J.out,mO] at this;exact this);rw[←J.out] at N;refine wOn 9 rfl ?_;refine zv 35 #[.agg vs.toArray] zq N ?_;rintro e W6 ⟨L,rfl,o6,C⟩;have s6:=C.size;have d:Hid (_∧_∧_):=⟨C.bt HS.1,C.bt HS.2.1,C.bt HS.2.2⟩;refine⟨_,rfl,fun _=>d.out,?_⟩;go_simp;refine wTk 10 (.agg #[za t.1,zg L 64 64]) rfl (fun w' c=>zm) d.out ?_;go_simp;refine wOn 11 rfl ?_;obtain⟨ic,aD,Y,l,aG⟩:=na Tryz.infoH
 refine oe 32 68 1 #[(0,.tmp 41)] rfl #[za t.1,zg L 64 64] ic _ Tryz.underlying32 aD Y (by rw[l];decide) (by rw[l];decide) (by rw[l,oh];refine QJ 2 _ ?_ [za t.1,zg L 64 64] rfl;simp) ?_;have c7:zr 0 0 W6 (W6.alloc (.cells #[za t.1,zg L 64 64] 68)):=zr.al W6;have ah:Hid (_∧_∧_):=⟨c7.bt d.1,c7.bt d.2.1,c7.bt d.2.2⟩;refine⟨fun _=>ah.out,?_⟩;go_simp;refine wOn 12 rfl ?_;refine Xw D (.tmp 36) (.tmp 42) rfl base (zj ha hn x) es rfl ((G.homes.row.chg C zk)) zk rfl zk ⟨_,_,_,rfl⟩ ?_
 intro g8 K W8 o8 ar;obtain⟨au,az,z⟩:=G.homes_app zk o6 C o8 ar;have j:=z R _ _ zp HS.1;have ay:W8.heap[w.heap.size+1]?=some (.cells #[za t.1,.bool t.2] 174 (0,0))∧W8.heap[W4.heap.size]?=some (.cells vs.toArray 78 (0,0)):=⟨z _ _ _ zp HS.2.1,z _ _ _ zp HS.2.2⟩;have ai:Hid (_∧_∧_):=⟨j,ay⟩;obtain⟨_,_,e2,_,_,aq⟩:=q9 j;have f2:=aq 2;refine⟨fun _=>ai.out,?_⟩;have HF:Hid (jj base w (W8.setCell ⟨R,2,none⟩ (zg g8 (es.length+1) K))∧XV (W8.setCell ⟨R,2,none⟩ (zg g8 (es.length+1) K)) base R {s with homes:=s.homes++ [(t.1,jA xs t.2)],aw:=r}):=by
  refine⟨(ak.trans az).trans (jj.set _ j hb),_,_,_,_,es++ [(t.1,zg L 64 64,D)],lm j _,?_⟩;rw[←an.out];exact au.set _ j
 go_simp;refine wOn 13 rfl ?_;go_simp;refine wOn 14 rfl ?_;go_simp;refine wOn 15 rfl ?_;go_simp;refine wOn 16 rfl ?_;go_simp;refine wDn ?_;go_wp2;go_ret;exact⟨rfl,HF⟩
theorem YO (w:World){s:RS}{es:List Hv}{ts:List (Int×Bool)}(E:w.heap[R]?=some (rdO sv s.seq hv rv av))(Q:base≤R)(O:Pts w base s sv hv rv av es)(N:Za w tL tM tK vL vM vK)(h:(FB.des q ts).ok):
  Calls Tryz.prog 156 #[zh R,.agg ((FB.des q ts).bs.map (Value.int .u8)).toArray] w fun e w'=>e= .returned (.bool true)∧jj base w w'∧ ∃l,w'.heap[R]?=some (rdO sv s.seq hv rv l)∧Pts w' base {s with aw:=ts} sv hv rv l es:=by
 have H:=FB.len h;obtain⟨xs,j⟩: ∃xs,xs=(FB.des q ts).bs:=⟨_,rfl⟩;have k:zr 0 0 w (w.alloc (zi (xs.map (Value.int .u8)).toArray 78)):=zr.al w;have L:=zt w (zi (xs.map (Value.int .u8)).toArray 78);rw[←j] at H⊢;have P:=J0 L H;have M:=iQ _ h (by rw[←j];exact P) (N.chg k zk);have S:1≤ts.length∧ts.length≤17:=h.2.2;have F:=(zE E);have u:=(k.bk R F).trans E;have p:=O.chg k zk;have Z:=k.size;clear L P O E h H j N
 generalize (xs.map (Value.int .u8)).toArray=cs at*;go_enter Tryz.func156,Tryz.ntmps156;go_wp2_with fail;generalize w.alloc (zi cs 78)=T at*;refine M.mono ?_;rintro e w1 ⟨g,rfl,V,G,C⟩;have W:=C.size;have z:=zt w1 (zi #[zb 0,zb 0,zb 0,zb 0,za 0,za 0,za 0,zc] 235);have o:zr 0 0 w1 (w1.alloc (zi #[zb 0,zb 0,zb 0,zb 0,za 0,za 0,za 0,zc] 235)):=zr.al w1;have sZ:=o.size;go_upto_region 2 with(refine wpList_store_row rfl 235 (.tmp 5) (.tmp 10) rfl rfl w1.heap.size rfl [zb 106,zb 108,zb 111,zb 103,za 2,za (ts.length:Int),za q,zg g ts.length ts.length] [zb 0,zb 0,zb 0,zb 0,za 0,za 0,za 0,zc] 235 rfl z rfl zl (by simp[Value.oneCell']) ?_;intro B f b)
 have J:zr 0 0 w B:=((k.trans C).trans o).step b;have X:=b.size;have c:zr 0 0 T B:=(C.trans o).step b;have m:zr 0 0 w1 B:=o.step b;have v:=(c.bk R).trans u;have r:=p.chg c zk;have A:=(zE f);have hT2:qR B g 174 (jo ts):=(m.bk g (zE G)).trans G;clear M C z o b c u p k m G;go_wp2_with fail;refine(Qe B).mono ?_;rintro e D ⟨rfl,d⟩;have y:=(d.bk _ A).trans f;have a:=(d.bk R).trans v;have t:=r.chg d zk;have n:=J.trans d
 have Y:=d.size;have x:qR D g 174 (jo ts):=(d.bk g (zE hT2)).trans hT2;obtain⟨_,_,_,_,_,_,_,y7⟩:=eight y;obtain⟨_,_,_,_,x4,K⟩:=q9 a;have U:=K 4;have I:Hid (jj base w (D.setCell ⟨R,4,none⟩ (zg g ts.length ts.length))∧(D.setCell ⟨R,4,none⟩ (zg g ts.length ts.length)).heap[R]?=some (rdO sv s.seq hv rv (zg g ts.length ts.length))∧Pts (D.setCell ⟨R,4,none⟩ (zg g ts.length ts.length)) base {s with aw:=ts} sv hv rv (zg g ts.length ts.length) es):=by
  refine⟨(jj.chg n).trans (jj.set _ a Q),dV a _,?_⟩;have:=t.set (i:=4) (zg g ts.length ts.length) a;refine⟨this.seen,this.homes,this.hs,this.rV,⟨_,_,rfl,mP _,S.2,fun _=>⟨g,0,(jo ts).toArray,rfl,zk,(qh.set (base:=0) _ a zp) g _ (mX _) x,fun i hi=>?_⟩⟩⟩;have:=YM ts i hi;rw[ni];exact⟨by simpa using this.1,by simpa using this.2⟩
 clear K a t n x hT2 r v f y d J;go_wp2;go_ret;exact⟨rfl,I.1,_,I.2⟩
theorem jj.cell (h:jj base w w'){o:Nat}{x:Value}(d:w.cell? ⟨b,o,none⟩=some x)(c:b<base:=by omega):w'.cell? ⟨b,o,none⟩=some x:=
 (nQ (a:=⟨b,o,none⟩) (h.low b c)).trans d
theorem Za.tk (h:Za w tL tM tK vL vM vK)(c:jj base w w')(a:8≤base):Za w' tL tM tK vL vM vK:=
 ⟨c.cell h.eL,c.cell h.eM,c.cell h.eK,c.cell h.m0,c.cell h.m1,c.cell h.m2,c.cell h.m3⟩
theorem ZY.tk (h:ZY w)(c:jj base w w')(a:8≤base):ZY w':=c.cell h
theorem Pts.hlen {s:RS}{es:List Hv}(h:Pts w base s sv hv rv av es):es.length=s.homes.length:=by rw[←h.hs,mO]
theorem lB (w:World){s:RS}{x:FB}(hR:XV w base R s)(hb:base≤R)(hG:Za w tL tM tK vL vM vK)(hE:ZY w)(h:x.ok)(af:8≤base:=by omega)(aU:s.seen.length≤600:=by omega)(aT:s.homes.length≤10000:=by omega)(aN:s.rV.length≤20000:=by omega):
  Calls Tryz.prog 129 #[zh R,.agg (x.bs.map (Value.int .u8)).toArray] w fun e w'=>e= .returned (.bool (zJ s x).2)∧jj base w w'∧XV w' base R (zJ s x).1:=by
 obtain⟨sv,hv,rv,av,es,hR,hP⟩:=hR;have hx:=FB.len h;have hB:=FB.byt h;obtain⟨cs,H⟩: ∃cs,cs=x.bs.map (Value.int .u8):=⟨_,rfl⟩;have L1:cs.length=64:=by rw[H];simpa using hx
 have L2: ∀v∈cs,v.oneCell'=true:=by rw[H];exact nf _ _
 have C:Hid _:=H;rw[←H];clear H;have aH:=(zE hR);have cA:zr 0 0 w (w.alloc (zi cs.toArray 78)):=zr.al w;have zA:=zt w (zi cs.toArray 78);have sA:=cA.size;have ax:Hid _:=(cA.bk R aH).trans hR;have ar:Hid _:=hP.chg cA zk;have aA:Hid (jj base w (w.alloc (zi cs.toArray 78))):=jj.chg cA;have ac:Hid _:=zA;have ab:Hid _:=L1;have ap:Hid _:=L2;have an:Hid _:=hG;have am:Hid (ZY w):=hE;have hi28:(Tryz.prog.info? 78).map (·.size)=some cs.length:=by rw[L1];kernel_rfl
 obtain⟨sa,sn,sc,rfl⟩:=zF hP.seen;have aj: ∀k,(Value.slice sa sn sc).ownBlock=some k→k<w.heap.size:=fun k hk=>(np hP.seen k hk).2;have aC:Hid _:=aj;clear aj;clear hR hP zA cA L1 L2 hG hE hB;go_enter Tryz.func129,Tryz.ntmps129;go_wp2;generalize w.alloc (zi cs.toArray 78)=wA at*;have HS:Hid ((fun w':World=>w'.heap[R]?=some (rdO (zj sa sn sc) s.seq hv rv av)∧w'.heap[w.heap.size]?=some (zi cs.toArray 78)) wA.drew):=⟨ax,ac⟩
 refine wRg 10 (fun w':World=>w'.heap[R]?=some (rdO (zj sa sn sc) s.seq hv rv av)∧w'.heap[w.heap.size]?=some (zi cs.toArray 78)) ?_;have au:Hid _:=ar.chg (zr.drew (zr.refl 0 0 wA)) zk;have aB:Hid _:=aA.trans (jj.chg (zr.drew (zr.refl 0 0 wA)));have aW:wA.heap.size≤wA.drew.heap.size:=mP _;have aS:=(zE ac);generalize wA.drew=Q at*;refine wT2 0 (zh R) rfl ?_;go_simp;refine wT2 1 (zh R) rfl ?_;go_simp
 refine wT2 2 (zh R) rfl ?_;go_simp;refine wT2 3 (zh R) rfl ?_;go_simp;refine wTk 4 (zj sa sn sc) rfl (fun w' aa=>by obtain⟨h4,_⟩:=q9 aa.1;go_simp) HS.out ?_;go_simp;refine ZP 5 (.agg cs.toArray) rfl zl zl zl zl (fun _ _ _ h=>h) (nl zl 78 (.tmp 3) rfl w.heap.size 0 rfl cs _ (fun w' aa=>zy aa.2) Tryz.underlying78 rfl hi28) HS ?_;go_simp;refine wOn 6 rfl ?_;obtain⟨ic,ai,S,B,ah⟩:=na Tryz.infoK;refine oe 96 78 1 #[(0,.tmp 10)] rfl cs.toArray ic _ Tryz.underlying96 ai S (by rw[B];decide) (by rw[B];decide) (by rw[B,oh];refine QJ 64 _ ?_ cs ab.out;simp) ?_
 have c7:zr 0 0 Q (Q.alloc (zi cs.toArray 78)):=zr.al Q;have z7:=zt Q (zi cs.toArray 78);have s7:=c7.size;have X:Hid (_∧_):=⟨c7.bt HS.1,c7.bt HS.2⟩;have L:Hid _:=au.chg c7 zk;have az:Hid _:=aB.trans (jj.chg c7);have Z: ∀j u,cs[j]?=some u→(Q.alloc (zi cs.toArray 78)).cell? (((zd Q.heap.size):Addr).add j)=some u:=by
  intro j u hj;rw[n9,ni,pe _ Q.heap.size j _ _ _ z7];simpa using hj
 refine⟨fun _=>X.out,?_⟩;generalize Q.alloc (zi cs.toArray 78)=w7 at*;go_simp;refine wOn 7 rfl ?_;refine oS w7 (.tmp 9) (.tmp 11) 96 rfl base 78 ic _ 64 64 Tryz.underlying96 ai S B ah rfl zp _ _ (s.seen.flatten.map (Value.int .u8)) rfl L.seen (zd Q.heap.size) 1 1 cs rfl (by rw[ab.out]) Z ap (by unfold maxLen;omega) zk zk ?_;intro v' P o8 g8 _;obtain⟨I,K,J,rfl⟩:=zF o8;have G:=aq X.1 g8 L.seen zp;rw[C.out] at o8
 have aG:=L.seen_app g8 o8;have aI:=az.trans (jj.grown g8 L.seen);have ad:P.heap[w.heap.size]?=some (zi cs.toArray 78):=(g8.block _ zk (fun e=>by have:=aC.out _ e.symm;omega)).trans X.2;obtain⟨e0,_,_,_,_,aD⟩:=q9 G;have f0:=aD 0;have ay:Hid (_∧_):=⟨G,ad⟩;have aX:=g8.size;have cR:zr R (R+1) P (P.setCell (zd R) (zj I K J)):=zr.setCell (p:=(zd R)) (zr.refl _ _ _) (Or.inl ⟨mP _,m5 _⟩) _;have W:Hid ((P.setCell (zd R) (zj I K J)).heap[R]?=some (rdO (zj I K J) s.seq hv rv av)):=lj G _
 have M:Hid (Pts (P.setCell (zd R) (zj I K J)) base {s with seen:=s.seen++ [x.bs]} (zj I K J) hv rv av es):=aG.set _ G;have N:Hid (jj base w (P.setCell (zd R) (zj I K J))):=aI.trans (jj.set _ G hb);have U:Hid _:=cR.bt ad;have aV:(P.setCell (zd R) (zj I K J)).heap.size=P.heap.size:=zn;refine⟨fun _=>ay.out,?_⟩;go_simp;refine wOn 8 rfl ?_;go_simp;refine wOn 9 rfl ?_;go_simp;refine wOn 10 rfl ?_;go_simp
 refine wDn ?_;generalize P.setCell (zd R) (zj I K J)=w9 at*;have aR:w.heap.size<w9.heap.size:=zk;obtain⟨y0,y1,y2,y3,y4,aQ⟩:=q9 W;have aF:=an.tk N af;have aE:=am.tk N af;have V:Hid _:=aF;have ak:Hid (ZY w9):=aE;have HRg:Hid _:=zy U;have u28:=Tryz.underlying78;have aM:=M.hlen;have O:=M.aw
 cases hA:s.aw with
 |cons t r=>
  rw[show({s with seen:=s.seen++ [x.bs]}:RS).aw=t::r from hA] at O;obtain⟨ao,cap,rfl,aJ,aK,_⟩:=O;have F:=aL w9 (s:= {s with seen:=s.seen++ [x.bs]}) W.out hb M.out V.out hx (FB.byt h) hA (by rw[aM];show s.homes.length≤20000;omega);rw[←C.out] at F;have A:Hid ((zJ s x).2=Zp x.bs t.2∧(zJ s x).1= {s with seen:=s.seen++ [x.bs],homes:=if Zp x.bs t.2=true then s.homes++ [(t.1,jA x.bs t.2)] else s.homes,aw:=r}):=by
   show _∧_;unfold zJ;rw[hA]
   cases hu:Zp x.bs t.2<;>simp[hu]
  go_wp2_with (refine nM rfl 78 (.tmp 3) rfl w.heap.size 0 rfl cs _ HRg.out u28 rfl hi28 ?_);refine F.mono ?_;rintro e o ⟨rfl,ag,ae⟩;have f:Hid (XV o base R (zJ s x).1):=by rw[A.out.2];exact ae
  have g:Hid _:=N.trans ag;go_wp2
  all_goals
   go_ret
   exact⟨by rw[A.out.1];rfl,g,f⟩
 |nil=>
  rw[show({s with seen:=s.seen++ [x.bs]}:RS).aw= [] from hA] at O;obtain⟨ao,cap,rfl,aJ,aK,_⟩:=O;have hK:=VI w9 (J0 (xs:=x.bs) (by rw[←C.out];exact U) hx) (FB.byt h) V ak;rw[(FB.head h).1] at hK;go_wp2_with fail;refine hK.mono ?_;rintro e o ⟨rfl,E⟩;have f:Hid _:=E.bt W;have z:Hid _:=M.chg E zk;have g:Hid _:=N.trans (jj.chg E);have D:Hid _:=V.chg E zk;have HRg10:Hid _:=zy (E.bt U);have T:Hid (s.aw= []):=hA
  cases x using FB.el with
  |rev q rs=>
   have F:=U8 o (s:= {s with seen:=s.seen++ [(FB.rev q rs).bs]}) f hb z D h aN;rw[←C.out] at F;have A:Hid (zJ s (.rev q rs)=(⟨s.seen++ [(FB.rev q rs).bs],s.seq,s.homes,s.rV++rs,[]⟩,true)):=by show _=_;unfold zJ;rw[T.out]
   have Y:(FB.rev q rs).kind=3:=rfl;go_wp2_with (refine nM rfl 78 (.tmp 3) rfl w.heap.size 0 rfl cs _ HRg10.out u28 rfl hi28 ?_);refine F.mono ?_;rintro e y ⟨rfl,n,aO,l,a⟩;have d:Hid (XV y base R (zJ s (.rev q rs)).1):=by
    rw[A.out];have hp:Pts y base ⟨s.seen++ [(FB.rev q rs).bs],s.seq,s.homes,s.rV++rs,[]⟩ (zj I K J) hv aO _ es:=⟨a.seen,a.homes,a.hs,a.rV,by have:=a.aw;rw[show({s with seen:=s.seen++ [(FB.rev q rs).bs],rV:=s.rV++rs}:RS).aw= [] from T.out] at this;exact this⟩;exact⟨_,_,_,_,_,l,hp⟩
   have i:Hid _:=g.trans n;go_wp2;go_ret;exact⟨by rw[A.out];rfl,i,d⟩
  |des q ts=>
   have F:=YO o (s:= {s with seen:=s.seen++ [(FB.des q ts).bs]}) f hb z D h;rw[←C.out] at F;have A:Hid (zJ s (.des q ts)=(⟨s.seen++ [(FB.des q ts).bs],s.seq,s.homes,s.rV,ts⟩,true)):=by show _=_;unfold zJ;rw[T.out]
   have Y:(FB.des q ts).kind=2:=rfl;go_wp2_with (refine nM rfl 78 (.tmp 3) rfl w.heap.size 0 rfl cs _ HRg10.out u28 rfl hi28 ?_);refine F.mono ?_;rintro e y ⟨rfl,n,aP,l,a⟩;have d:Hid (XV y base R (zJ s (.des q ts)).1):=by
    rw[A.out];exact⟨_,_,_,_,_,l,a⟩
   have i:Hid _:=g.trans n;go_wp2;go_ret;exact⟨by rw[A.out];rfl,i,d⟩
  |com q c m=>
   have F:=U7 o (s:= {s with seen:=s.seen++ [(FB.com q c m).bs]}) f hb z D h;rw[←C.out] at F;have A:Hid (zJ s (.com q c m)=(⟨s.seen++ [(FB.com q c m).bs],q,s.homes,s.rV,[]⟩,false)):=by show _=_;unfold zJ;rw[T.out]
   have Y:(FB.com q c m).kind=4:=rfl;go_wp2_with (refine nM rfl 78 (.tmp 3) rfl w.heap.size 0 rfl cs _ HRg10.out u28 rfl hi28 ?_);refine F.mono ?_;rintro e y ⟨⟨vv,rfl⟩,l,a,n⟩;have d:Hid (XV y base R (zJ s (.com q c m)).1):=by
    rw[A.out];have hp:Pts y base ⟨s.seen++ [(FB.com q c m).bs],q,s.homes,s.rV,[]⟩ (zj I K J) hv rv _ es:=⟨a.seen,a.homes,a.hs,a.rV,by have:=a.aw;rw[show({s with seen:=s.seen++ [(FB.com q c m).bs],seq:=q}:RS).aw= [] from T.out] at this;exact this⟩;exact⟨_,_,_,_,_,l,hp⟩
   have i:Hid _:=g.trans n;go_wp2;go_ret;exact⟨by rw[A.out];rfl,i,d⟩
  |raw b=>
   have A:Hid (zJ s (.raw b)=(⟨s.seen++ [(FB.raw b).bs],s.seq,s.homes,s.rV,[]⟩,false)):=by show _=_;unfold zJ;rw[T.out]
   have Y:(FB.raw b).kind=0:=rfl;have d:Hid (XV o base R (zJ s (.raw b)).1):=by
    rw[A.out];have a:=z.out;have hp:Pts o base ⟨s.seen++ [(FB.raw b).bs],s.seq,s.homes,s.rV,[]⟩ (zj I K J) hv rv _ es:=⟨a.seen,a.homes,a.hs,a.rV,by have:=a.aw;rw[show({s with seen:=s.seen++ [(FB.raw b).bs]}:RS).aw= [] from T.out] at this;exact this⟩;exact⟨_,_,_,_,_,f,hp⟩
   go_wp2;go_ret;exact⟨by rw[A.out];rfl,g,d⟩
end Go.Proofs.YthdeofoleiiibaaGreatDoor
