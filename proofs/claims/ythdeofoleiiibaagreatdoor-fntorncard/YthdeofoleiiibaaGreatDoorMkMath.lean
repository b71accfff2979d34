import Derived.Test.YthdeofoleiiibaaGreatDoorJTxn
import Derived.Lib.BitFns
namespace Go.Proofs.YthdeofoleiiibaaGreatDoor
open Go.RowKit
set_option maxRecDepth 100000
set_option maxHeartbeats 16000000
variable {w w0 w':World}{rv hv v dv a:Value}{base A n r C g B cap hi lo A' l x D L:Nat}{rs xs ys:List Int}{q b:Int}{cc:Array Value}{e:TypeId}{on:Bool}
theorem kK {S:ScW}(h:EnW S w0 w A)(l:A≤1000000000):
  Calls Tryz.prog 138 #[.pointer (some ⟨S.p,0,none⟩)] w fun e w'=> ∃g cap ys,e= .returned (.slice (some ⟨g,0,none⟩) 64 cap)∧(Byt ys∧ys.length=64)∧zu w' w.heap.size 5 (.slice (some ⟨g,0,none⟩) 64 cap) ys∧EnW S w0 w' (A+5):=by
 obtain⟨a,m,hs⟩:=h.src;refine(UH w S.p a S.sz h.byt h.len zk hs h.view h.out).mono ?_;rintro e w' ⟨g,cap,ys,k,rfl,d,f,i,n,b,c⟩;have j:=h.top;refine⟨g,cap,ys,rfl,⟨d,f⟩,i,⟨a+k,zk,b⟩,h.view.chg c ?_,h.out,h.byt,h.len,h.chg.trans c,j⟩;have:=h.out;omega
structure DT (S:ScW)(w0 w:World)(A:Nat)(q:Int)(t:Tx)(hv rv:Value):Prop where
 en:EnW S w0 w A
 rs:w.heap[w0.heap.size]?=some (.cells #[.int .i64 0,.slice none 0 0,.slice none 0 0] 35 (0,0))
 tb:w.heap[w0.heap.size+1]?=some (.cells #[.int .i64 q,hv,rv] 35 (0,0))
 ow:qB w w0.heap.size hv rv t
theorem qB.chg {t:Tx}(h:qB w base hv rv t)(c:zr l r w w')(d:r≤base∨r≤l∨w.heap.size≤l):qB w' base hv rv t:=
 h.keep (fun j b T e _ a=>(c.block j (zE a) (by have:=(zE a);omega)).trans a)
theorem DT.step {S:ScW}{t:Tx}(h:DT S w0 w A q t hv rv)(e:EnW S w w' A'):DT S w0 w' A' q t hv rv:=by
 have a:=h.en.top;have c:=e.chg;have h1:=(zE h.tb);exact⟨h.en.join e,c.bt h.rs,c.bt h.tb,h.ow.chg c zk⟩
theorem DT.next {S:ScW}{t:Tx}(h:DT S w0 w A q t hv rv)(a:A≤1000000000)(n:Int)(b:n≤9223372036854775807):
  Calls Tryz.prog 106 #[.pointer (some ⟨S.p,0,none⟩),.int .i64 n] w fun e w'=> ∃r:Int,e= .returned (.int .i64 r)∧0≤r∧(1≤n→r<n)∧DT S w0 w' (A+1) q t hv rv:=by
 refine(Vo h.en.self a n b).mono ?_;rintro e w' ⟨r,rfl,h1,h2,h3⟩;exact⟨r,rfl,h1,h2,h.step h3⟩
theorem DT.chance {S:ScW}{t:Tx}(h:DT S w0 w A q t hv rv)(a:A≤1000000000)(n:Int)(c:n≤9223372036854775807):
  Calls Tryz.prog 107 #[.pointer (some ⟨S.p,0,none⟩),.int .i64 n] w fun e w'=> ∃b:Bool,e= .returned (.bool b)∧DT S w0 w' (A+1) q t hv rv:=by
 refine(Ej h.en.self a n c).mono ?_;rintro e w' ⟨r,rfl,h3⟩;exact⟨r,rfl,h.step h3⟩
theorem qD.more2 {w1 w2:World}{cp:Nat}{es:List Hv}(h:qD w base v es)(x:base≤w.heap.size)(i:zu w1 w.heap.size 5 dv xs)(c:zr l r w w1)(y:r≤base)
  (u:QQ w2 base (.slice (some ⟨g,0,none⟩) n cp) (es++ [(q,dv,xs)]))
  (o: ∀(j:Nat) (d:Array Value) (t:TypeId),t≠68→(w1.alloc (.cells #[.int .i64 q,dv] 68)).heap[j]?=some (.cells d t (0,0))→w2.heap[j]?=some (.cells d t (0,0))):
  qD w2 base (.slice (some ⟨g,0,none⟩) n cp) (es++ [(q,dv,xs)]):=by
 have m:zr 0 0 w1 (w1.alloc (.cells #[.int .i64 q,dv] 68)):=zr.al w1;refine⟨u,fun e s=>?_,?_⟩
 ·rcases nu.1 s with r'|r'
  ·exact zu.keepH (((h.data e r').chg c (fun g k=>by have:=((h.data e r').lt g k).1;omega)).chg m (fun g _=>zk)) o
  ·obtain rfl:=nx.1 r';exact zu.keepH ((i.base (fun g k=>by have:=(i.lt g k).1;omega)).chg m (fun g _=>zk)) o
 ·refine List.pairwise_append.2 ⟨h.apart,List.pairwise_singleton _ _,fun a p b f g h1 h2=>?_⟩;obtain rfl:=nx.1 f;have:=((h.data a p).lt g h1).2;have:=(i.lt g h2).1;omega
theorem qB.homes_app {w1 w2:World}{cp:Nat}{t:Tx}{es:List Hv}(b:qD w base hv es)(h:es.map (fun e=>(e.1,e.2.2))=t.homes)(i: ∀e∈es,e.2.2.length=64∧Byt e.2.2)(m:zM w base 2 rv t.rV)(k:t.rV.length≤20000)(z:es.length<10000)(v:base≤w.heap.size)(x:zu w1 w.heap.size 5 dv xs)(p:Byt xs∧xs.length=64)(c:zr l r w w1)(C:r≤base)
  (B:QQ w2 base (.slice (some ⟨g,0,none⟩) (es.length+1) cp) (es++ [(q,dv,xs)])) (A:(w1.alloc (.cells #[.int .i64 q,dv] 68)).grownBy w2 hv.ownBlock):
  qB w2 base (.slice (some ⟨g,0,none⟩) (es.length+1) cp) rv ⟨t.seq,t.homes++ [(q,xs)],t.rV⟩∧(∀(j:Nat) (a:Array Value) (T:TypeId),T≠68→w1.heap[j]?=some (.cells a T (0,0))→w2.heap[j]?=some (.cells a T (0,0))):=by
 have n:zr 0 0 w1 (w1.alloc (.cells #[.int .i64 q,dv] 68)):=zr.al w1;have s:=(b.row.chg c zk).chg n zk;have o:=qh.grownE A s;have f: ∀(j:Nat) (a:Array Value) (T:TypeId),T≠68→w1.heap[j]?=some (.cells a T (0,0))→w2.heap[j]?=some (.cells a T (0,0)):=fun j a T u d=>o j a T u ((n.bk j (zE d)).trans d);refine⟨⟨es++ [(q,dv,xs)],qD.more2 b v x c C B o,?_,?_,?_,k,?_⟩,f⟩
 ·rw[m6,h];rfl
 ·intro e y;rcases nu.1 y with r'|r'
  ·exact i e r'
  ·rw[nx.1 r'];exact⟨p.2,p.1⟩
 ·refine zR m (fun j a D d=>f j a _ zp ((c.bk j (zE d)).trans d))
 ·rw[mL,nJ];omega
structure C8 (S:ScW)(w:World)(A M:Nat)(q:Int)(x:Value)(wx:World):Prop where
 ex: ∃a:Nat,x= .int .i64 a∧a≤M∧DT S w wx A q ⟨q,[],[]⟩ (.slice none 0 0) (.slice none 0 0)
structure D50 (S:ScW)(w:World)(A:Nat)(q:Int)(x:Value)(wx:World):Prop where
 ex: ∃b:Bool,x= .bool b∧DT S w wx A q ⟨q,[],[]⟩ (.slice none 0 0) (.slice none 0 0)
theorem DT.up {S:ScW}{t:Tx}(h:DT S w0 w A q t hv rv)(a:A≤A'):DT S w0 w A' q t hv rv:=⟨h.en.mono a,h.rs,h.tb,h.ow⟩
structure DrI (S:ScW)(w0:World)(A:Nat)(q:Int)(x8 x9 x11:Value)(w:World):Prop where
 ex: ∃(a b:Nat) (m:Int) (t:Tx) (hv rv:Value),x8= .int .i64 a∧x9= .int .i64 b∧x11= .int .i64 m∧DT S w0 w (A+9+8*(300-(a+b))) q t hv rv∧t.homes.length+a≤200∧t.rV.length+b≤100
structure D81 (S:ScW)(w:World)(A a b:Nat)(q:Int)(t:Tx)(hv rv:Value)(x:Value)(wx:World):Prop where
 ex: ∃c:Bool,x= .bool c∧(c=true→0<b)∧(c=false→0<a)∧DT S w wx A q t hv rv
structure D67 (S:ScW)(w:World)(A:Nat)(q:Int)(t:Tx)(hv rv:Value)(x:Value)(wx:World):Prop where
 ex: ∃b:Bool,x= .bool b∧DT S w wx A q t hv rv
structure D11 (S:ScW)(w:World)(A:Nat)(q:Int)(t:Tx)(hv rv:Value)(x:Value)(wx:World):Prop where
 ex: ∃m:Int,x= .int .i64 m∧DT S w wx A q t hv rv
def lN (S:ScW) (w w':World) (A:Nat) (q:Int) (e:Ending):Prop:= ∃hv rv t,e= .returned (.agg #[.int .i64 q,hv,rv])∧qB w' w.heap.size hv rv t∧(t.homes.length≤200∧t.rV.length≤100)∧EnW S w w' A
theorem UD {S:ScW}(h:EnW S w w A)(hA:A≤100000000)(q fr:Int):
  Calls Tryz.prog 105 #[.pointer (some ⟨S.p,0,none⟩),.int .i64 q,.int .i64 fr] w fun e w'=>lN S w w' (A+10000) q e:=by
 have ht:=h.top;obtain⟨z1,z2,z3⟩:=zU w (.cells #[.int .i64 0,.slice none 0 0,.slice none 0 0] 35) (.cells #[.int .i64 q,.slice none 0 0,.slice none 0 0] 35);have cA:zr 0 0 w ((w.alloc (.cells #[.int .i64 0,.slice none 0 0,.slice none 0 0] 35)).alloc (.cells #[.int .i64 q,.slice none 0 0,.slice none 0 0] 35)):=(zr.al w).alloc _;have aL:DT S w ((w.alloc (.cells #[.int .i64 0,.slice none 0 0,.slice none 0 0] 35)).alloc (.cells #[.int .i64 q,.slice none 0 0,.slice none 0 0] 35)) A q ⟨q,[],[]⟩ (.slice none 0 0) (.slice none 0 0):=
  ⟨h.keep cA,z2,z3,[],qD.zero _ _,rfl,zn,⟨rfl,Or.inl ⟨rfl,rfl⟩⟩,zn,zn⟩
 clear z1 z2 z3 cA h;go_enter Tryz.func105,Tryz.ntmps105;go_wp2_with fail;generalize (w.alloc (.cells #[.int .i64 0,.slice none 0 0,.slice none 0 0] 35)).alloc (.cells #[.int .i64 q,.slice none 0 0,.slice none 0 0] 35)=w1 at*;refine(aL.next zk 5 zk).mono ?_;rintro e w2 ⟨r1,rfl,bn,bo,aM⟩;clear aL;go_wp2_with fail;refine(aM.next zk 4 zk).mono ?_;rintro e w3 ⟨r2,rfl,bp,bq,aN⟩;clear aM;go_wp2_with fail
 refine(aN.next zk 24 zk).mono ?_;rintro e w4 ⟨k,rfl,k0,k1,aO⟩;clear aN;obtain⟨a,rfl⟩: ∃a:Nat,r1=(a:Int):=⟨r1.toNat,zk⟩;obtain⟨b,rfl⟩: ∃b:Nat,r2=(b:Int):=⟨r2.toNat,zk⟩;have an:Hid (DT S w w4 (A+1+1+1) q ⟨q,[],[]⟩ (.slice none 0 0) (.slice none 0 0)):=aO;have be:a≤4∧b≤3:=zk;clear aO bn bo bp bq;go_upto_if 21 with fail;go_cut [8] (fun x wx=>C8 S w (A+4) 200 q x wx)
 case first=>
  by_cases G:k=0
  ·subst G;go_wp2_with fail;refine(an.next zk 4 zk).mono ?_;rintro e wx ⟨r,rfl,r0,r1,F⟩;obtain⟨r',rfl⟩: ∃r':Nat,r=(r':Int):=⟨r.toNat,zk⟩;have J:Hid (DT S w wx (A+3+1) q ⟨q,[],[]⟩ (.slice none 0 0) (.slice none 0 0)):=F;have hw:IntKind.i64.wrap (16+(r':Int))=((16+r':Nat):Int):=by rw[mS];omega
   clear F;go_wp2;go_meet;exact⟨⟨16+r',by congr 1,zk,J⟩⟩
  ·have aE:(k==0)=false:=by simpa using G
   go_wp2;go_meet;exact⟨⟨a,rfl,zk,an.up zk⟩⟩
 case rest=>
  obtain⟨a,rfl,bA,aP⟩:=hcut.ex;generalize wc=R at*;have ao:Hid (DT S w R (A+4) q ⟨q,[],[]⟩ (.slice none 0 0) (.slice none 0 0)):=aP;clear hcut aP an;have bD:b≤100:=zk;clear be;go_upto_if 26 with fail;go_cut [9] (fun x wx=>C8 S w (A+5) 100 q x wx)
  case first=>
   by_cases G:k=1
   ·subst G;go_wp2_with fail;refine(ao.next zk 4 zk).mono ?_;rintro e wx ⟨r,rfl,r0,r1,F⟩;obtain⟨r',rfl⟩: ∃r':Nat,r=(r':Int):=⟨r.toNat,zk⟩;have J:Hid (DT S w wx (A+4+1) q ⟨q,[],[]⟩ (.slice none 0 0) (.slice none 0 0)):=F;have hw:IntKind.i64.wrap (25+(r':Int))=((25+r':Nat):Int):=by rw[mS];omega
    clear F;go_wp2;go_meet;exact⟨⟨25+r',by congr 1,zk,J⟩⟩
   ·have aE:(k==1)=false:=by simpa using G
    go_wp2;go_meet;exact⟨⟨b,rfl,zk,ao.up zk⟩⟩
  case rest=>
   obtain⟨b,rfl,bE,aQ⟩:=hcut.ex;generalize wc=R at*;have ap:Hid (DT S w R (A+5) q ⟨q,[],[]⟩ (.slice none 0 0) (.slice none 0 0)):=aQ;clear hcut aQ ao;go_upto_if 31 with fail;go_cut [8] (fun x wx=>C8 S w (A+6) 200 q x wx)
   case first=>
    by_cases G:k=2
    ·subst G;go_wp2_with fail;refine(ap.next zk 3 zk).mono ?_;rintro e wx ⟨r,rfl,r0,r1,F⟩;obtain⟨r',rfl⟩: ∃r':Nat,r=(r':Int):=⟨r.toNat,zk⟩;have J:Hid (DT S w wx (A+5+1) q ⟨q,[],[]⟩ (.slice none 0 0) (.slice none 0 0)):=F;have hw:IntKind.i64.wrap (33+(r':Int))=((33+r':Nat):Int):=by rw[mS];omega
     clear F;go_wp2;go_meet;exact⟨⟨33+r',by congr 1,zk,J⟩⟩
    ·have aE:(k==2)=false:=by simpa using G
     go_wp2;go_meet;exact⟨⟨a,rfl,zk,ap.up zk⟩⟩
   case rest=>
    obtain⟨a,rfl,bB,L⟩:=hcut.ex;generalize wc=R at*;have aq:Hid (DT S w R (A+6) q ⟨q,[],[]⟩ (.slice none 0 0) (.slice none 0 0)):=L;clear hcut L ap;go_upto_if 36 with fail;go_cut [8] (fun x wx=>C8 S w (A+7) 200 q x wx)
    case first=>
     by_cases G:k=3
     ·subst G;go_wp2_with fail;refine(aq.next zk 2 zk).mono ?_;rintro e wx ⟨r,rfl,r0,r1,F⟩;obtain⟨r',rfl⟩: ∃r':Nat,r=(r':Int):=⟨r.toNat,zk⟩;have J:Hid (DT S w wx (A+6+1) q ⟨q,[],[]⟩ (.slice none 0 0) (.slice none 0 0)):=F;have hw:IntKind.i64.wrap (128-(b:Int))=((128-b:Nat):Int):=by rw[mS];omega
      have bK:IntKind.i64.wrap (((128-b:Nat):Int)+(r':Int))=((128-b+r':Nat):Int):=by rw[mS];omega
      clear F;go_wp2;go_meet;exact⟨⟨128-b+r',by congr 1;omega,zk,J⟩⟩
     ·have aE:(k==3)=false:=by simpa using G
      go_wp2;go_meet;exact⟨⟨a,rfl,zk,aq.up zk⟩⟩
    case rest=>
     obtain⟨a,rfl,bC,aR⟩:=hcut.ex;generalize wc=R at*;have ar:Hid (DT S w R (A+7) q ⟨q,[],[]⟩ (.slice none 0 0) (.slice none 0 0)):=aR;clear hcut aR aq;go_upto_region 13 with fail;go_cut [50] (fun x wx=>D50 S w (A+8) q x wx)
     case first=>
      have a4:IntKind.i64.wrap ((a:Int)+(b:Int))=((a+b:Nat):Int):=by rw[mS];omega
      by_cases h0:a+b=0
      ·have a9:(((a+b:Nat):Int)==0)=true:=by simp;omega
       go_wp2_with (go_at_call 107;refine(ar.out.chance zk 20 zk).mono ?_;rintro e wx ⟨bb,rfl,M⟩);go_meet;exact⟨⟨_,rfl,M⟩⟩
      ·have a9:(((a+b:Nat):Int)==0)=false:=by simp;omega
       have a1:=ar.out.up (show A+7≤A+8 by omega);have a6:Hid (DT S w R (A+8) q ⟨q,[],[]⟩ (.slice none 0 0) (.slice none 0 0)):=a1;clear a1;go_wp2;go_meet;exact⟨⟨_,rfl,a6⟩⟩
     case rest=>
      obtain⟨bb,rfl,aS⟩:=hcut.ex;generalize wc=R at*;have au:Hid (DT S w R (A+8) q ⟨q,[],[]⟩ (.slice none 0 0) (.slice none 0 0)):=aS;clear hcut aS ar;go_upto_if 50 with fail;go_cut [8] (fun x wx=>C8 S w (A+8) 200 q x wx)
      case first=>
       cases bb
       ·go_wp2;go_meet;exact⟨⟨a,rfl,zk,au⟩⟩
       ·go_wp2;go_meet;exact⟨⟨1,rfl,zk,au⟩⟩
      case rest=>
       obtain⟨a,rfl,aV,aT⟩:=hcut.ex;generalize wc=R at*;have aG:Hid (DT S w R (A+8) q ⟨q,[],[]⟩ (.slice none 0 0) (.slice none 0 0)):=aT;have aX:b≤100:=zk;clear hcut aT au;go_wp2;go_loopw [8,9,11] (fun x8 x9 x11 wr=>DrI S w A q x8 x9 x11 wr) (fun x8 x9 _ _=>(intOf x8).toNat+(intOf x9).toNat)
       case atStart=>exact⟨⟨a,b,fr,⟨q,[],[]⟩,_,_,rfl,rfl,rfl,aG.out.up zk,by simpa using aV,by simpa using aX⟩⟩
       case round=>
        clear aG aV aX;obtain⟨a,b,m,t,hv,rv,rfl,rfl,rfl,F,ba,bc⟩:=hrel.ex;obtain⟨u,E,D,H,I,N,Q⟩:=F.ow;obtain⟨ha,hn,hc,rfl⟩:=E.slice;obtain⟨ra,rc,rfl⟩:=I.shape;have v:u.length=t.homes.length:=by rw[←D,mO]
        have a5:Hid (qD wr w.heap.size (.slice ha hn hc) u):=E;have ax:Hid (u.map (fun e=>(e.1,e.2.2))=t.homes):=D;have bw:Hid (∀e∈u,e.2.2.length=64∧Byt e.2.2):=H;obtain⟨rn,aF⟩: ∃rn,rn=t.rV.length:=⟨_,rfl⟩;have ae:Hid (rn=t.rV.length):=aF;rw[←aF] at F bc;have HD:Hid (DT S w wr (A+9+8*(300-(a+b))) q t (.slice ha hn hc) (.slice ra rn rc)):=F;have bz:u.length+a≤200:=zk;obtain⟨⟨t0,t1,t2⟩,_⟩:=tri F.tb;have bJ:=(zE F.tb)
        clear F E D H I N Q aF v ba;by_cases h0:a+b=0
        ·obtain rfl:a=0:=zk;obtain rfl:b=0:=zk;go_wp2_with (refine wpList_store_row rfl 35 (.tmp 6) (.tmp 101) rfl rfl w.heap.size rfl [.int .i64 q,.slice ha hn hc,.slice ra rn rc] [.int .i64 0,.slice none 0 0,.slice none 0 0] 35 rfl HD.out.rs rfl zl (by simp[Value.oneCell']) ?_;intro wf bg aY);have bi:(loadVar 35 ⟨w.heap.size,0,none⟩).run Tryz.prog wf= .ok (.agg (List.toArray [.int .i64 q,.slice ha hn hc,.slice ra rn rc])) wf:=nd _ _ _ _ [.int .i64 q,.slice ha hn hc,.slice ra rn rc] _ (zy bg) Tryz.underlying35 rfl zl
         refine mT (zH Tryz.results105 rfl bi) rfl ⟨_,_,t,rfl,?_,?_,?_⟩
         ·exact HD.ow.keep (fun j z T _ hT C=>(aY.block j (zE C) (by
           have:j≠w.heap.size:=fun e=>by rw[e,HD.out.rs] at C;cases C;exact hT rfl
           omega)).trans C)
         ·exact⟨by rw[←ax.out,mO];omega,by rw[←ae.out];omega⟩
         ·exact(HD.en.own aY nlR).mono zk
        ·have bx:((0:Int)<(a:Int))∨((0:Int)<(b:Int)):=zk;go_upto_region 16 with fail;go_cut [57] from 52 to 100 (fun x wx=>x= .bool true∧wx=wr)
         case first=>
          by_cases aC:(0:Int)<(a:Int)
          ·have bF:decide ((0:Int)<(a:Int))=true:=mR aC;go_wp2;go_meet;exact⟨rfl,rfl⟩
          ·obtain rfl:a=0:=zk;have aW:(0:Int)<(b:Int):=zk;go_wp2;go_meet;exact⟨by congr 1;simp;omega,rfl⟩
         case rest=>
          obtain⟨rfl,rfl⟩:=hcut;have a4:IntKind.i64.wrap ((a:Int)+(b:Int))=((a+b:Nat):Int):=by rw[mS];omega
          have aZ:A+9+8*(300-(a+b))≤999999000:=zk;obtain⟨A0,am⟩: ∃A0,Hid (A0=A+9+8*(300-(a+b))):=⟨_,rfl⟩;rw[←am.out] at HD aZ;go_upto_region 18 with fail;go_cut [67] from 52 to 100 (fun x wx=>D67 S w (A0+1) q t (.slice ha hn hc) (.slice ra rn rc) x wx)
          case first=>
           go_wp2_with (go_at_call 107;refine(HD.out.chance zk 3 zk).mono ?_;rintro e wx ⟨bb,rfl,M⟩;cases bb)
           all_goals go_meet
           all_goals exact⟨⟨_,rfl,M⟩⟩
          case rest=>
           obtain⟨a7,rfl,ak⟩:=hcut.ex;generalize wc=bs at*;have U:Hid (DT S w bs (A0+1) q t (.slice ha hn hc) (.slice ra rn rc)):=ak;clear hcut ak HD a5 t0 t1 t2;go_upto_if 67 with fail;go_cut [11] from 52 to 100 (fun x wx=>D11 S w (A0+2) q t (.slice ha hn hc) (.slice ra rn rc) x wx)
           case first=>
            cases a7
            ·go_wp2;go_meet;exact⟨⟨_,rfl,U.up zk⟩⟩
            ·go_wp2_with (go_at_call 106;refine(U.out.next zk 3 zk).mono ?_;rintro e wx ⟨r,rfl,r0,r1,M⟩);go_meet;exact⟨⟨_,rfl,M⟩⟩
           case rest=>
            obtain⟨f,rfl,aj⟩:=hcut.ex;generalize wc=br at*;have O:Hid (DT S w br (A0+2) q t (.slice ha hn hc) (.slice ra rn rc)):=aj;clear hcut aj U;go_upto_region 20 with fail;go_cut [81] from 52 to 100 (fun x wx=>D81 S w (A0+3) a b q t (.slice ha hn hc) (.slice ra rn rc) x wx)
            case first=>
             by_cases aW:b=0
             ·subst aW;go_wp2;go_meet;exact⟨⟨_,rfl,zn,fun _=>zk,O.up zk⟩⟩
             ·have bf:decide ((0:Int)<(b:Int))=true:=mR zk;by_cases aC:a=0
              ·subst aC;go_wp2;go_meet;exact⟨⟨_,rfl,fun _=>zk,zn,O.up zk⟩⟩
              ·have bd:((a:Int)==0)=false:=by simp;omega
               go_wp2_with (go_at_call 107;refine(O.out.chance zk 3 zk).mono ?_;rintro e wx ⟨bb,rfl,M⟩;cases bb)
               all_goals go_meet
               all_goals exact⟨⟨_,rfl,fun _=>zk,fun _=>zk,M⟩⟩
            case rest=>
             obtain⟨a8,rfl,Z,W,aa⟩:=hcut.ex;generalize wc=d at*;have l:Hid (DT S w d (A0+3) q t (.slice ha hn hc) (.slice ra rn rc)):=aa;obtain⟨⟨t0,t1,t2⟩,ft⟩:=tri aa.tb;clear hcut aa O;have bl:=(zE l.tb);have bv:=l.en.top
             cases a8
             ·have bd:=W rfl;clear W Z t0 t1 t2 ft;obtain⟨u,E,D,H,I,N,Q⟩:=l.ow;have v:u.length=t.homes.length:=by rw[←D,mO]
              have n:Hid (((qD d w.heap.size (.slice ha hn hc) u∧u.map (fun e=>(e.1,e.2.2))=t.homes)∧(∀e∈u,e.2.2.length=64∧Byt e.2.2)∧zM d w.heap.size 2 (.slice ra rn rc) t.rV)∧t.rV.length≤20000∧u.length=t.homes.length):=⟨⟨⟨E,D⟩,H,I⟩,N,v⟩;clear E D H I N Q v;have bG:u.length+a≤200:=by rw[n.out.2.2,←ax.out,mO];omega
              have HS:Hid ((fun w':World=>w'.heap[w.heap.size+1]?=some (.cells #[.int .i64 q,.slice ha hn hc,.slice ra rn rc] 35 (0,0))) d.drew):=l.tb;go_wp2;refine wRg 9 (fun w':World=>w'.heap[w.heap.size+1]?=some (.cells #[.int .i64 q,.slice ha hn hc,.slice ra rn rc] 35 (0,0))) ?_;have cd:zr 0 0 d d.drew:=zr.drew (zr.refl 0 0 d);have aH:Hid (DT S w d.drew (A0+3) q t (.slice ha hn hc) (.slice ra rn rc)):=⟨l.en.keep cd,l.rs,l.tb,l.ow.chg cd zk⟩
              have ad:Hid (qD d.drew w.heap.size (.slice ha hn hc) u∧zM d.drew w.heap.size 2 (.slice ra rn rc) t.rV):=⟨n.1.1.1.chg cd zk,n.1.2.2⟩;have bI:d.heap.size≤d.drew.heap.size:=mP _;clear cd;generalize d.drew=X at*;refine wT2 0 (.pointer (some ⟨w.heap.size+1,1,none⟩)) rfl ?_;go_simp;refine wTk 1 (.slice ha hn hc) rfl (fun w' a3=>by obtain⟨⟨h0,h1,h2⟩,_⟩:=tri a3;go_simp) HS.out ?_;go_simp;refine wT2 2 (.int .i64 f) rfl ?_
              go_simp;refine wT2 3 (.pointer (some ⟨S.p,0,none⟩)) rfl ?_;go_simp;refine wOn 4 rfl ?_;refine zv 138 #[.pointer (some ⟨S.p,0,none⟩)] zq (kK aH.out.en.self zk) ?_;rintro e X2 ⟨g6,y,ys,rfl,bm,o6,P⟩;have L:=aH.step P;have V:Hid ((fun w':World=>w'.heap[w.heap.size+1]?=some (.cells #[.int .i64 q,.slice ha hn hc,.slice ra rn rc] 35 (0,0))) X2):=L.tb;have s6:=P.chg.size;refine⟨_,rfl,fun _=>V.out,?_⟩
              go_simp;refine wTk 5 (.agg #[.int .i64 f,.slice (some ⟨g6,0,none⟩) 64 y]) rfl (fun w' a3=>zm) V.out ?_;go_simp;refine wOn 6 rfl ?_;obtain⟨ic,bh,a0,ab,bu⟩:=na Tryz.infoH;refine oe 32 68 1 #[(0,.tmp 95)] rfl #[.int .i64 f,.slice (some ⟨g6,0,none⟩) 64 y] ic _ Tryz.underlying32 bh a0 (by rw[ab];decide) (by rw[ab];decide) (by rw[ab,oh];refine QJ 2 _ ?_ [.int .i64 f,.slice (some ⟨g6,0,none⟩) 64 y] rfl;simp) ?_
              have c7:zr 0 0 X2 (X2.alloc (.cells #[.int .i64 f,.slice (some ⟨g6,0,none⟩) 64 y] 68)):=zr.al X2;have aI:Hid ((fun w':World=>w'.heap[w.heap.size+1]?=some (.cells #[.int .i64 q,.slice ha hn hc,.slice ra rn rc] 35 (0,0))) (X2.alloc (.cells #[.int .i64 f,.slice (some ⟨g6,0,none⟩) 64 y] 68))):=c7.bt V;refine⟨fun _=>aI.out,?_⟩;go_simp;refine wOn 7 rfl ?_;refine Xw ys (.tmp 91) (.tmp 96) rfl w.heap.size (.slice ha hn hc) u rfl (ad.1.row.chg P.chg zk) zk rfl zk ⟨_,_,_,rfl⟩ ?_
              intro g8 af o o8 B;obtain⟨ag,aD⟩:=qB.homes_app ad.1 n.1.1.2 n.1.2.1 ad.2 n.2.1 zk zk o6 bm P.chg zk o8 B;have s:=aD _ _ _ zp V;have av:Hid ((fun w':World=>w'.heap[w.heap.size+1]?=some (.cells #[.int .i64 q,.slice ha hn hc,.slice ra rn rc] 35 (0,0))) o):=s;obtain⟨⟨u0,u1,u2⟩,ay,az,aA⟩:=tri s;have s8:(X2.alloc (.cells #[.int .i64 f,.slice (some ⟨g6,0,none⟩) 64 y] 68)).heap.size≤o.heap.size:=B.size
              have s7:=c7.size;have ai:=aD _ _ _ zp L.rs;have cY:zr (w.heap.size+1) (w.heap.size+2) o (o.setCell ⟨w.heap.size+1,1,none⟩ (.slice (some ⟨g8,0,none⟩) (u.length+1) af)):=(zr.refl _ _ o).setCell (p:=⟨w.heap.size+1,1,none⟩) (Or.inl zn) _;have HF:Hid (DT S w (o.setCell ⟨w.heap.size+1,1,none⟩ (.slice (some ⟨g8,0,none⟩) (u.length+1) af)) (A0+8) q ⟨t.seq,t.homes++ [(f,ys)],t.rV⟩ (.slice (some ⟨g8,0,none⟩) (u.length+1) af) (.slice ra rn rc)):=by
               have cg:zr w.heap.size o.heap.size X2 o:=(zr.ofGrown (w:=X2.alloc (.cells #[.int .i64 f,.slice (some ⟨g6,0,none⟩) 64 y] 68)) B (fun k G bj=>⟨(np ((ad.1.row.chg P.chg zk).chg c7 zk) k G).1,zk⟩))|>fun c=>(c7.widen zk zk).trans c;refine⟨((L.en.own cg nlR).own cY zk).mono zk,cY.bt ai,jS s _,ag.keep (fun j z T _ hT C=>(cY.block j (zE C) (by
                have:j≠w.heap.size+1:=fun e=>by rw[e,s] at C;cases C;exact hT rfl
                omega)).trans C)⟩
              refine⟨fun _=>av.out,?_⟩;clear ag aD B o8 c7 o6 P ai cY L;have aU:=av.out;go_simp;refine wOn 8 rfl ?_;go_simp;refine wOn 9 rfl ?_;go_simp;refine wDn ?_;have bL:IntKind.i64.wrap ((a:Int)-1)=((a-1:Nat):Int):=by rw[mS];omega
              clear u0 u1 u2 ay az aA s aU HS V aI av;generalize o.setCell ⟨w.heap.size+1,1,none⟩ (.slice (some ⟨g8,0,none⟩) (u.length+1) af)=Y at*;go_wp2;go_roundw
              case rel=>
               refine⟨⟨a-1,b,f,_,_,_,rfl,rfl,rfl,HF.up (by have:=am.out;omega),?_,by rw[←ae.out];omega⟩⟩;rw[mL,nJ,←n.out.2.2];omega
              case measure=>simp[intOf];omega
             ·have bf:=Z rfl;clear W Z;obtain⟨u,E,D,H,I,N,Q⟩:=l.ow;have n:Hid ((((qD d w.heap.size (.slice ha hn hc) u∧u.map (fun e=>(e.1,e.2.2))=t.homes)∧(∀e∈u,e.2.2.length=64∧Byt e.2.2)∧zM d w.heap.size 2 (.slice ra rn rc) t.rV)∧t.rV.length≤20000)∧u.length≤10000):=⟨⟨⟨⟨E,D⟩,H,I⟩,N⟩,Q⟩;clear E D H I N Q;have cz:zr 0 0 d (d.alloc (.cells #[.int .i64 f] 2)):=zr.al d;have zz:=zt d (.cells #[.int .i64 f] 2)
              have bN:=cz.size;have a2:zC (d.alloc (.cells #[.int .i64 f] 2)) 0 (d.heap.size+1) .i64 (.slice (some ⟨d.heap.size,0,none⟩) 1 1) [f]:=⟨_,1,rfl,zn,⟨zn,zn⟩,Or.inr ⟨d.heap.size,0,rfl,mX _,m5 _,fun i hi=>by
               obtain rfl:i=0:=by simpa using hi
               exact ng zz⟩⟩
              have aK:Hid (zC (d.alloc (.cells #[.int .i64 f] 2)) 0 (d.heap.size+1) .i64 (.slice (some ⟨d.heap.size,0,none⟩) 1 1) [f]):=a2;have ac:Hid (zM (d.alloc (.cells #[.int .i64 f] 2)) w.heap.size 2 (.slice ra rn rc) t.rV):=n.1.1.2.2.chg cz (fun g _=>zk);have aw:Hid (zr 0 0 d (d.alloc (.cells #[.int .i64 f] 2))):=cz;have bH:t.rV.length≤100:=by rw[←ae.out];omega
              have aJ:Hid (∀(o:World) (v':Value),zM o w.heap.size 2 v' (t.rV++ [f])→(d.alloc (.cells #[.int .i64 f] 2)).grownBy o (Value.slice ra rn rc).ownBlock→o.heap[w.heap.size+1]?=some (.cells #[.int .i64 q,.slice ha hn hc,.slice ra rn rc] 35 (0,0))∧DT S w (o.setCell ⟨w.heap.size+1,2,none⟩ v') (A0+3) q ⟨t.seq,t.homes,t.rV++ [f]⟩ (.slice ha hn hc) v'):=by
               intro o v' o8 B;have G:=qh.grownE B ac;have ah: ∀(j:Nat) (z:Array Value) (T:TypeId),T≠2→d.heap[j]?=some (.cells z T (0,0))→o.heap[j]?=some (.cells z T (0,0)):=fun j z T hT C=>G j z T hT ((aw.bk j (zE C)).trans C);have s:=ah _ _ _ zp l.tb;have ai:=ah _ _ _ zp l.rs;have s8:=B.size;have cY:zr (w.heap.size+1) (w.heap.size+2) o (o.setCell ⟨w.heap.size+1,2,none⟩ v'):=(zr.refl _ _ o).setCell (p:=⟨w.heap.size+1,2,none⟩) (Or.inl zn) _
               have cg:zr w.heap.size o.heap.size d o:=(aw.widen zk zk).trans (zr.ofGrown B (fun k G bj=>⟨(np ac k G).1,zk⟩));have ag:qB o w.heap.size (.slice ha hn hc) v' ⟨t.seq,t.homes,t.rV++ [f]⟩:=⟨u,n.1.1.1.1.keep (fun j z _ C=>ah j z _ zp C) (fun j z _ C=>ah j z _ zp C),n.1.1.1.2,n.1.1.2.1,o8,by rw[mL,nJ];omega,n.2⟩;refine⟨s,((l.en.own cg nlR).own cY zk),cY.bt ai,jS s _,ag.keep (fun j z T _ hT C=>(cY.block j (zE C) (by
                have:j≠w.heap.size+1:=fun e=>by rw[e,s] at C;cases C;exact hT rfl
                omega)).trans C)⟩
              clear cz zz a2;go_upto_region 22 with(refine oV rfl fun K hK=>?_;refine ZX (.tmp 83) (.tmp 85) rfl w.heap.size (.slice ra rn rc) t.rV rfl ac.out zk 0 (d.heap.size+1) (.slice (some ⟨d.heap.size,0,none⟩) 1 1) [f] rfl aK.out zn (by simp;omega) ?_;intro v' o o8 B;obtain⟨va,vc,rfl⟩:=o8.shape;obtain⟨s,aB⟩:=aJ.out o _ o8 B;obtain⟨⟨u0,u1,u2⟩,ay,az,aA⟩:=tri s;clear o8 B s;refine hK _ _ ?_);rw[mL,nJ] at aB
              have HF:Hid (DT S w (o.setCell ⟨w.heap.size+1,2,none⟩ (.slice va (t.rV.length+1) vc)) (A0+3) q ⟨t.seq,t.homes,t.rV++ [f]⟩ (.slice ha hn hc) (.slice va (t.rV.length+1) vc)):=aB;have bM:IntKind.i64.wrap ((b:Int)-1)=((b-1:Nat):Int):=by rw[mS];omega
              clear u0 u1 u2 ay az aA aB aJ ac aK aw;generalize o.setCell ⟨w.heap.size+1,2,none⟩ (.slice va (t.rV.length+1) vc)=Y at*;go_wp2;go_roundw
              case rel=>
               refine⟨⟨a,b-1,f,_,_,_,rfl,rfl,rfl,HF.up (by have:=am.out;omega),?_,?_⟩⟩
               ·show t.homes.length+a≤200;rw[←ax.out,mO];omega
               ·show(t.rV++ [f]).length+(b-1)≤100;rw[mL,nJ,←ae.out];omega
              case measure=>simp[intOf];omega
def Xy (w:World) (base:Nat) (dv:Value) (ys:List Int):Prop:= ∃g off cap cur,dv=zj (some ⟨g,off,none⟩) ys.length cap∧ys.length≤cap∧base≤g∧w.heap[g]?=some (.cells cur 5 (0,0))∧ ∀i,i<ys.length→cur[off+i]?=some (zb (ys.getD i 0))
theorem Xy.keep (h:Xy w base dv ys)(k:qh 5 base w w'):Xy w' base dv ys:=by
 obtain⟨g,b,cap,a,h1,h2,h3,c,d⟩:=h;exact⟨g,b,cap,a,h1,h2,h3,k g a h3 c,d⟩
theorem Xy.view (h:Xy w base dv ys)(e:ys.length≤64):zC w base w.heap.size .u8 dv ys:=by
 obtain⟨g,a,cap,c,rfl,h2,h3,b,d⟩:=h;refine⟨_,cap,rfl,zk,⟨h2,zn⟩,Or.inr ⟨g,a,rfl,h3,(zE b),fun i hi=>?_⟩⟩;simp only[World.cell?,b];exact d i hi
theorem Xy.of (h:zu w base 5 dv ys)(h0:0<ys.length):Xy w base dv ys:=by
 have c:=h;rcases h.2 with⟨_,e⟩|⟨g,cap,a,rfl,f,b,d,_,_,_⟩
 ·omega
 ·refine⟨g,0,cap,a,rfl,d,f,b,fun i hi=>?_⟩;have:=nA c i (by simpa using hi);have h2:w.cell? ⟨g,0+i,none⟩=a[0+i]?:=by simp[World.cell?,b]
  rw[←h2,ni,this];simp[hi]
theorem Xy.tail {off:Nat}(h:Xy w base (zj (some ⟨g,off,none⟩) n cap) ys)(h0:1<ys.length):n=ys.length∧Xy w base (zj (some ⟨g,off+1,none⟩) (n-1) (cap-1)) (ys.drop 1):=by
 obtain⟨j,c,b,a,e,h2,h3,d,f⟩:=h;simp only[ns,nS,rp,pH] at e;obtain⟨⟨rfl,rfl⟩,rfl,rfl⟩:=e;refine⟨rfl,g,off+1,cap-1,a,by rw[m8],by rw[m8];omega,h3,d,fun i hi=>?_⟩;rw[m8] at hi;have:=f (i+1) zk;rw[show off+1+i=off+(i+1) by omega,this];simp
structure SpT (w:World)(base:Nat)(hv rv:Value)(ps:List Wr)(rs:List Int):Prop where
 hm: ∃cells,w.ownsRow base 68 2 hv ps.length cells∧ ∀i,i<ps.length→cells[i*2]?=some (za (ps.getD i (0,[])).1)∧ ∃dv,cells[i*2+1]?=some dv∧Xy w base dv (ps.getD i (0,[])).2
 fine: ∀p∈ps,Byt p.2∧0<p.2.length∧p.2.length≤64
 rv':zM w base 2 rv rs
theorem SpT.of {t:Tx}(h:qB w base hv rv t):SpT w base hv rv t.homes t.rV:=by
 obtain⟨a,h1,h2,h3,d,j,k⟩:=h;have g:a.length=t.homes.length:=by rw[←h2,mO]
 refine⟨⟨ZH a,by rw[←g];exact h1.row,fun i hi=>?_⟩,fun p c=>?_,d⟩
 ·have hi':i<a.length:=zk;have e:t.homes.getD i (0,[])=(a[i].1,a[i].2.2):=by rw[←h2];simp[hi']
  rw[e];have b:=nj hi';exact⟨(YV a i hi').1,_,(YV a i hi').2,Xy.of (h1.data _ b) (by rw[(h3 _ b).1];omega)⟩
 ·rw[←h2] at c;obtain⟨e,f,rfl⟩:=m9.1 c;have:=h3 e f;exact⟨this.2,by simp only;omega,by simp only;omega⟩
theorem SpT.keep {ps:List Wr}(h:SpT w base hv rv ps rs)(k: ∀(j:Nat) (d:Array Value) (T:TypeId),base≤j→T≠35→w.heap[j]?=some (.cells d T (0,0))→w'.heap[j]?=some (.cells d T (0,0))):SpT w' base hv rv ps rs:=by
 obtain⟨⟨e,h1,h2⟩,h3,m⟩:=h;refine⟨⟨e,zR h1 (fun j d g f=>k j d _ g zp f),fun i hi=>?_⟩,h3,zR m (fun j d g f=>k j d _ g zp f)⟩;obtain⟨a,l,b,c⟩:=h2 i hi;exact⟨a,l,b,c.keep (fun j d g f=>k j d _ g zp f)⟩
theorem SpT.low {base':Nat}{ps:List Wr}(h:SpT w base hv rv ps rs)(o:base'≤base):SpT w base' hv rv ps rs:=by
 obtain⟨⟨c,h1,h2⟩,h3,n⟩:=h;refine⟨⟨c,⟨h1.1,?_⟩,fun i hi=>?_⟩,h3,n.lowI o⟩
 ·rcases h1.2 with e|⟨g,cap,d,e,q,r⟩
  ·exact Or.inl e
  ·exact Or.inr ⟨g,cap,d,e,zk,r⟩
 ·obtain⟨a,j,b,g,f,cap,d,k,l,p,m⟩:=h2 i hi;exact⟨a,j,b,g,f,cap,d,k,l,zk,m⟩
theorem SpT.setB {ps:List Wr}(h:SpT w base (zg g n cap) rv ps rs)(j:Nat)(l:j<ps.length)(q:Int):SpT (w.setCell ⟨g,j*2,none⟩ (za q)) base (zg g n cap) rv (ps.set j (q,(ps.getD j (0,[])).2)) rs:=by
 obtain⟨⟨d,h1,h2⟩,h3,x⟩:=h;obtain rfl:n=ps.length:=by
  rcases h1.2 with⟨e,_⟩|⟨A,s,m,e,_⟩
  ·cases e
  ·simp only[ns] at e;exact e.2.1
 obtain⟨m,k⟩:=zK h1 (show(zg g ps.length cap).ownBlock=some g from rfl);have o:=(pT h1 (j*2) (za q)).1;have r: ∀ {T:TypeId},68≠T→qh T base w (w.setCell ⟨g,j*2,none⟩ (za q)):=fun y=>qh.set _ k y;have u:=h1.1;have z:ps.getD j (0,[])∈ps:=by rw[mV,mZ l];exact nj l
 refine⟨⟨d.set (j*2) (za q),by rw[ou];exact o,fun i hi=>?_⟩,fun p f=>?_,zR x (r zp)⟩
 ·rw[ou] at hi;obtain⟨a,t,b,c⟩:=h2 i hi;by_cases e:i=j
  ·subst e;refine⟨?_,t,?_,?_⟩
   ·rw[tG zk];simp[l]
   ·rw[pS zk];exact b
   ·have:=c.keep (r zp);simpa [l] using this
  ·have v:(ps.set j (q,(ps.getD j (0,[])).2)).getD i (0,[])=ps.getD i (0,[]):=by simp[pS (Ne.symm e)]
   rw[v];exact⟨by rw[pS zk];exact a,t,by rw[pS zk];exact b,c.keep (r zp)⟩
 ·rcases su f with f|rfl
  ·exact h3 p f
  ·have:=h3 _ z;exact this
theorem SpT.setD {dv':Value}{ps:List Wr}(h:SpT w base (zg g n cap) rv ps rs)(j:Nat)(r:j<ps.length)(y:Xy w base dv' ys)(z:Byt ys∧0<ys.length∧ys.length≤64):SpT (w.setCell ⟨g,j*2+1,none⟩ dv') base (zg g n cap) rv (ps.set j ((ps.getD j (0,[])).1,ys)) rs:=by
 obtain⟨⟨d,h1,h2⟩,h3,v⟩:=h;obtain rfl:n=ps.length:=by
  rcases h1.2 with⟨e,_⟩|⟨A,q,l,e,_⟩
  ·cases e
  ·simp only[ns] at e;exact e.2.1
 obtain⟨l,k⟩:=zK h1 (show(zg g ps.length cap).ownBlock=some g from rfl);have m:=(pT h1 (j*2+1) dv').1;have o: ∀ {T:TypeId},68≠T→qh T base w (w.setCell ⟨g,j*2+1,none⟩ dv'):=fun x=>qh.set _ k x;have s:=h1.1;refine⟨⟨d.set (j*2+1) dv',by rw[ou];exact m,fun i hi=>?_⟩,fun p f=>?_,zR v (o zp)⟩
 ·rw[ou] at hi;obtain⟨a,t,b,c⟩:=h2 i hi;by_cases e:i=j
  ·subst e;refine⟨?_,dv',?_,?_⟩
   ·rw[pS zk,a];simp[r]
   ·rw[tG zk]
   ·have:=y.keep (o zp);simpa [r] using this
  ·have u:(ps.set j ((ps.getD j (0,[])).1,ys)).getD i (0,[])=ps.getD i (0,[]):=by simp[pS (Ne.symm e)]
   rw[u];exact⟨by rw[pS zk];exact a,t,by rw[pS zk];exact b,c.keep (o zp)⟩
 ·rcases su f with f|rfl
  ·exact h3 p f
  ·exact z
structure SpS (C:Nat)(cc:Array Value)(S:ScW)(w0:World)(B:Nat)(w:World)(A:Nat)(q:Int)(hv rv:Value)(ps:List Wr)(rs:List Int):Prop where
 en:EnW S w0 w A
 up:w0.heap.size≤B
 tb:w.heap[B]?=some (.cells #[za q,hv,rv] 35 (0,0))
 re:w.heap[B+1]?=some (.cells #[za 0,zc,zc] 35 (0,0))
 ow:SpT w w0.heap.size hv rv ps rs
 few:ps.length≤200∧rs.length≤101
 kc:w0.heap.size≤C∧C<B∧w.heap[C]?=some (.cells cc 35 (0,0))
def gA (C:Nat) (cc:Array Value) (S:ScW) (w0 w':World) (A:Nat) (e:Ending):Prop:= ∃q hv rv ps rs,e= .returned (.agg #[za q,hv,rv])∧SpT w' w0.heap.size hv rv ps rs∧(ps.length≤200∧rs.length≤101)∧EnW S w0 w' A∧w'.heap[C]?=some (.cells cc 35 (0,0))
theorem SpT.chg {ps:List Wr}(h:SpT w base hv rv ps rs)(c:zr l r w w')(d:r≤base∨r≤l∨w.heap.size≤l):SpT w' base hv rv ps rs:=
 h.keep (fun j b T e _ a=>(c.block j (zE a) (by have:=(zE a);omega)).trans a)
theorem SpS.step {S:ScW}{ps:List Wr}(h:SpS C cc S w0 B w A q hv rv ps rs)(e:EnW S w w' A'):SpS C cc S w0 B w' A' q hv rv ps rs:=by
 have a:=h.en.top;have c:=e.chg;have b:=h.up;have h1:=(zE h.re);exact⟨h.en.join e,h.up,c.bt h.tb,c.bt h.re,h.ow.chg c zk,h.few,h.kc.1,h.kc.2.1,(c.block _ (by have:=h.kc;omega) (by have:=h.kc;omega)).trans h.kc.2.2⟩
theorem SpS.next {S:ScW}{ps:List Wr}(h:SpS C cc S w0 B w A q hv rv ps rs)(a:A≤1000000000)(n:Int)(b:n≤9223372036854775807):
  Calls Tryz.prog 106 #[zh S.p,za n] w fun e w'=> ∃r:Int,e= .returned (za r)∧0≤r∧(1≤n→r<n)∧SpS C cc S w0 B w' (A+1) q hv rv ps rs:=by
 refine(Vo h.en.self a n b).mono ?_;rintro e w' ⟨r,rfl,h1,h2,h3⟩;exact⟨r,rfl,h1,h2,h.step h3⟩
theorem SpS.seq {S:ScW}{ps:List Wr}(h:SpS C cc S w0 B w A q hv rv ps rs)(c:Int):SpS C cc S w0 B (w.setCell (zd B) (za c)) A c hv rv ps rs:=by
 have g:=h.up;have a:zr B (B+1) w (w.setCell (zd B) (za c)):=(zr.refl _ _ w).setCell (p:=(zd B)) (Or.inl zn) _;have h1:=(zE h.re);refine⟨h.en.own a zk,h.up,jS h.tb _,a.bt h.re,h.ow.keep (fun j d T _ f b=>(a.block j (zE b) (by
  have:j≠B:=fun e=>by rw[e,h.tb] at b;cases b;exact f rfl
  omega)).trans b),h.few,h.kc.1,h.kc.2.1,(a.block _ (by have:=h.kc;omega) (by have:=h.kc;omega)).trans h.kc.2.2⟩
theorem SpS.put {S:ScW}{ps ps':List Wr}{rs':List Int}(h:SpS C cc S w0 B w A q hv rv ps rs){k:Nat}{cur:Array Value}{T:TypeId}(f:w0.heap.size≤g)(a:w.heap[g]?=some (.cells cur T (0,0)))(c:T≠35)(i:SpT (w.setCell ⟨g,k,none⟩ v) w0.heap.size hv rv ps' rs')(d:ps'.length=ps.length∧rs'.length=rs.length):
  SpS C cc S w0 B (w.setCell ⟨g,k,none⟩ v) A q hv rv ps' rs':=by
 have b:zr g (g+1) w (w.setCell ⟨g,k,none⟩ v):=(zr.refl _ _ w).setCell (p:=⟨g,k,none⟩) (Or.inl zn) _;have h1:=(zE h.re);have j:g≠B:=fun e=>by rw[e,h.tb] at a;cases a;exact c rfl
 have m:g≠C:=fun e=>by rw[e,h.kc.2.2] at a;cases a;exact c rfl
 have l:g≠B+1:=fun e=>by rw[e,h.re] at a;cases a;exact c rfl
 exact⟨h.en.own b f,h.up,b.bt h.tb,b.bt h.re,i,by rw[d.1,d.2];exact h.few,h.kc.1,h.kc.2.1,(b.block _ (by have:=h.kc;omega) (by have:=h.kc;omega)).trans h.kc.2.2⟩
theorem SpS.fin {S:ScW}{wf:World}{ps:List Wr}(h:SpS C cc S w0 B w A q hv rv ps rs)(a:zr (B+1) (B+2) w wf)(d:A≤A'):gA C cc S w0 wf A' (.returned (.agg #[za q,hv,rv])):=by
 have g:=h.up;refine⟨q,hv,rv,ps,rs,rfl,h.ow.keep (fun j c T _ f b=>(a.block j (zE b) (by
  have:j≠B+1:=fun e=>by rw[e,h.re] at b;cases b;exact f rfl
  omega)).trans b),h.few,(h.en.own a zk).mono d,(a.block _ (zE h.kc.2.2) (by have:=h.kc;omega)).trans h.kc.2.2⟩
theorem SpS.drew {S:ScW}{ps:List Wr}(h:SpS C cc S w0 B w A q hv rv ps rs):SpS C cc S w0 B w.drew A q hv rv ps rs:=
 ⟨h.en.keep (zr.drew (zr.refl 0 0 w)),h.up,h.tb,h.re,h.ow.chg (zr.drew (zr.refl 0 0 w)) zk,h.few,h.kc⟩
theorem JC {ps:List Wr}(h:SpT w base (zg g n cap) rv ps rs): ∃b,w.heap[g]?=some (.cells b 68 (0,0)):=by
 obtain⟨⟨a,h1,h2⟩,h3,c⟩:=h;exact zK h1 (show(zg g n cap).ownBlock=some g from rfl)
theorem SpT.setR {ra:Option Addr}{ps:List Wr}(h:SpT w base hv (zj ra n cap) ps rs)(h0:0<rs.length): ∃g,ra=some (zd g)∧base≤g∧ ∃f,w.heap[g]?=some (.cells f 2 (0,0))∧w.frozen? (zd g)=false∧(w.cell? (zd g)=some (za (rs.getD 0 0)))∧SpT (w.setCell (zd g) (za (-1))) base hv (zg g n cap) ps (rs.set 0 (-1)):=by
 obtain⟨⟨d,h1,h2⟩,h3,m⟩:=h;have j:=m;rcases m.2 with⟨e,h⟩|⟨g,l,f,e,r,k,s,t,u,v⟩
 ·omega
 ·simp only[ns] at e;obtain⟨rfl,rfl,rfl⟩:=e;have o: ∀ {T:TypeId},2≠T→qh T base w (w.setCell (zd g) (za (-1))):=fun q=>qh.set _ k q;refine⟨g,rfl,r,f,k,by simp[World.frozen?,k],by rw[nA j 0 (by simpa using h0)];simp[h0],⟨⟨d,zR h1 (o zp),fun i hi=>?_⟩,h3,?_⟩⟩
  ·obtain⟨a,p,b,c⟩:=h2 i hi;exact⟨a,p,b,c.keep (o zp)⟩
  ·have:=(pT j 0 (za (-1))).1;unfold zM;rw[ou,rT];exact this
structure mD (S:ScW)(w0:World)(B:Nat)(w:World)(A:Nat)(q:Int)(hv rv rv':Value)(ps:List Wr)(rs:List Int):Prop where
 tb:w.heap[B]?=some (.cells #[za q,hv,rv] 35 (0,0))
 ow:SpT w w0.heap.size hv rv' ps rs
theorem Ur {S:ScW}{ps:List Wr}(h:SpS C cc S w0 B w A q hv rv ps rs)(a:Int):zM (w.alloc (.cells #[za a] 2)) w0.heap.size 2 rv rs∧zC (w.alloc (.cells #[za a] 2)) 0 (w.heap.size+1) .i64 (zg w.heap.size 1 1) [a]∧w0.heap.size≤w.heap.size∧rs.length≤101∧w.heap.size≤(w.alloc (.cells #[za a] 2)).heap.size:=by
 have b:zr 0 0 w (w.alloc (.cells #[za a] 2)):=zr.al w;have c:=zt w (.cells #[za a] 2);refine⟨h.ow.rv'.chg b (fun g _=>zk),⟨_,1,rfl,zn,⟨zn,zn⟩,Or.inr ⟨w.heap.size,0,rfl,mX _,m5 _,fun i hi=>?_⟩⟩,h.en.size,h.few.2,b.size⟩;obtain rfl:i=0:=by simpa using hi
 exact ng c
theorem fW {S:ScW}{ps:List Wr}(h:SpS C cc S w0 B w A q hv rv ps rs)(N:rs.length≤100)(m:Int)(l:World)(s:Value)(L:zM l w0.heap.size 2 s (rs++ [m]))(o:(w.alloc (.cells #[za m] 2)).grownBy l rv.ownBlock):
  mD S w0 B l A q hv rv s ps (rs++ [m])∧SpS C cc S w0 B (l.setCell ⟨B,2,none⟩ s) A q hv s ps (rs++ [m]):=by
 have K:=h.up;have D:zr 0 0 w (w.alloc (.cells #[za m] 2)):=zr.al w;have t:=(Ur h m).1;have z:=qh.grownE o t;have f: ∀(j:Nat) (d:Array Value) (T:TypeId),T≠2→w.heap[j]?=some (.cells d T (0,0))→l.heap[j]?=some (.cells d T (0,0)):=fun j d T y g=>z j d T y ((D.bk j (zE g)).trans g);have r:=f _ _ _ zp h.tb;have v:=f _ _ _ zp h.re;have O:=o.size;have x:zr B (B+1) l (l.setCell ⟨B,2,none⟩ s):=(zr.refl _ _ l).setCell (p:=⟨B,2,none⟩) (Or.inl zn) _
 have H:=(D.widen).trans (zr.ofGrown o (fun k z J=>⟨(np t k z).1,zk⟩));have h1:=(zE v);have u:SpT l w0.heap.size hv s ps (rs++ [m]):=by
  obtain⟨⟨n,E,F⟩,G,M⟩:=h.ow;refine⟨⟨n,zR E (fun j d _ g=>f j d _ zp g),fun i hi=>?_⟩,G,L⟩;obtain⟨a,I,b,c⟩:=F i hi;exact⟨a,I,b,c.keep (fun j d _ g=>f j d _ zp g)⟩
 refine⟨⟨r,u⟩,((h.en.own H nlR).own x zk),K,jS r _,x.bt v,u.keep (fun j d T _ y g=>(x.block j (zE g) (by
  have:j≠B:=fun e=>by rw[e,r] at g;cases g;exact y rfl
  omega)).trans g),⟨h.few.1,by rw[mL,nJ];omega⟩,h.kc.1,h.kc.2.1,(x.block _ (by have:=(rF.1 (f _ _ _ zp h.kc.2.2)).1;omega) (by have:=h.kc;omega)).trans (f _ _ _ zp h.kc.2.2)⟩
theorem SpT.rows {ps:List Wr}(h:SpT w base hv rv ps rs): ∃a c,hv=zj a ps.length c∧(0<ps.length→ ∃g b,a=some (zd g)∧base≤g∧w.heap[g]?=some (.cells b 68 (0,0))∧ps.length≤c):=by
 obtain⟨⟨d,h1,h2⟩,h3,j⟩:=h;rcases h1.2 with⟨rfl,h0⟩|⟨g,cap,b,rfl,f,i,e,k,_⟩
 ·exact⟨none,0,by rw[h0],fun h=>zk⟩
 ·exact⟨_,_,rfl,fun _=>⟨g,b,rfl,f,i,e⟩⟩
theorem SpT.at {ps:List Wr}(h:SpT w base (zg g n cap) rv ps rs)(j:Nat)(m:j<ps.length):w.cell? ⟨g,j*2,none⟩=some (za (ps.getD j (0,[])).1)∧(∃f,w.cell? ⟨g,j*2+1,none⟩=some f∧Xy w base f (ps.getD j (0,[])).2)∧w.frozen? ⟨g,j*2,none⟩=false∧w.frozen? ⟨g,j*2+1,none⟩=false:=by
 obtain⟨⟨i,h1,h2⟩,h3,p⟩:=h;obtain⟨a,f,b,c⟩:=h2 j m;obtain⟨k,d⟩:=zK h1 (show(zg g n cap).ownBlock=some g from rfl);obtain rfl:n=ps.length:=by
  rcases h1.2 with⟨e,_⟩|⟨o,l,k,e,_⟩
  ·cases e
  ·simp only[ns] at e;exact e.2.1
 refine⟨by rw[nA h1 (j*2) zk];exact a,⟨f,by rw[nA h1 (j*2+1) zk];exact b,c⟩,by simp[World.frozen?,d],by simp[World.frozen?,d]⟩
theorem aF {S:ScW}(h:EnW S w0 w A)(hA:A≤100000000){t:Tx}(ho:qB w w0.heap.size hv rv t)(hl:t.homes.length≤200∧t.rV.length≤100)(hC:w0.heap.size≤C∧w.heap[C]?=some (.cells cc 35 (0,0))):
  Calls Tryz.prog 108 #[zh S.p,.agg #[za q,hv,rv]] w fun e w'=>gA C cc S w0 w' (A+2) e:=by
 obtain⟨z1,z2,z3⟩:=zU w (.cells #[za q,hv,rv] 35) (.cells #[za 0,zc,zc] 35);have cA:zr 0 0 w ((w.alloc (.cells #[za q,hv,rv] 35)).alloc (.cells #[za 0,zc,zc] 35)):=(zr.al w).alloc _;have U:SpS C cc S w0 w.heap.size ((w.alloc (.cells #[za q,hv,rv] 35)).alloc (.cells #[za 0,zc,zc] 35)) A q hv rv t.homes t.rV:=⟨h.keep cA,h.size,z2,z3,(SpT.of ho).chg cA zk,⟨hl.1,zk⟩,hC.1,(zE hC.2),(cA.bk _ (zE hC.2)).trans hC.2⟩
 have M: ∀p∈t.homes,p.2.length=64:=by
  obtain⟨es,h1,h2,h3,h4,h5,h6⟩:=ho;intro p L;rw[←h2] at L;obtain⟨e,he,rfl⟩:=m9.1 L;exact(h3 e he).1
 have N:t.rV.length≤100:=hl.2;clear z1 z2 z3 cA h ho hl hC;obtain⟨ps,am⟩: ∃ps,ps=t.homes:=⟨_,rfl⟩;obtain⟨rs,an⟩: ∃rs,rs=t.rV:=⟨_,rfl⟩;rw[←am,←an] at U;rw[←an] at N;have ao:Hid (rs.length≤100):=N;clear N;rw[←am] at M;have aC:Hid (∀p∈ps,p.2.length=64):=M;clear M;clear am an t;obtain⟨ha,hc,rfl,f⟩:=U.ow.rows;obtain⟨ra,rc,rfl⟩:=U.ow.rv'.shape;go_enter Tryz.func108,Tryz.ntmps108;go_wp2_with fail;generalize (w.alloc (.cells #[za q,zj ha ps.length hc,zj ra rs.length rc] 35)).alloc (.cells #[za 0,zc,zc] 35)=w1 at*
 refine(U.next zk 8 zk).mono ?_;rintro e O ⟨k,rfl,k0,k1,ah⟩;have HD1:Hid (SpS C cc S w0 w.heap.size O (A+1) q (zj ha ps.length hc) (zj ra rs.length rc) ps rs):=ah;obtain⟨⟨y,z,B⟩,s,u,v⟩:=tri ah.tb;clear U ah;have hk:k=0∨k=1∨k=2∨k=3∨k=4∨k=5∨k=6∨k=7:=zk;clear k0 k1;rcases hk with rfl|rfl|rfl|rfl|rfl|rfl|rfl|rfl
 ·by_cases L:ps.length=0
  ·have E:decide ((0:Int)<(ps.length:Int))=false:=mY zk;have F:decide (0<ps.length)=false:=mY zk;clear L f;go_wp2_with (refine wpList_store_row rfl 35 (.tmp 4) (.tmp 100) rfl rfl (w.heap.size+1) rfl [za q,zj ha ps.length hc,zj ra rs.length rc] [za 0,zc,zc] 35 rfl HD1.out.re rfl zl (by simp[Value.oneCell']) ?_;intro i c d);have b:(loadVar 35 (zd (w.heap.size+1))).run Tryz.prog i= .ok (.agg (List.toArray [za q,zj ha ps.length hc,zj ra rs.length rc])) i:=nd _ _ _ _ [za q,zj ha ps.length hc,zj ra rs.length rc] _ (zy c) Tryz.underlying35 rfl zl
   refine mT (zH Tryz.results108 rfl b) rfl ?_;exact HD1.fin d zk
  ·have F:decide (0<ps.length)=true:=mR zk;have E:decide ((0:Int)<(ps.length:Int))=true:=mR zk;obtain⟨g,aa,rfl,hg,j,V⟩:=f zk;obtain⟨m,Hm⟩: ∃m,Hid (ps.length=m+1):=⟨ps.length-1,(zk:ps.length=ps.length-1+1)⟩;have aB:IntKind.i64.wrap ((ps.length:Int)-1)=(m:Int):=by rw[mS];have:=HD1.few;have:=Hm.out;omega
   have o:m<ps.length:=by have:=Hm.out;omega
   have ae:(m:Int)<(ps.length:Int):=zk;clear L f;go_wp2;have HX:Hid (SpS C cc S w0 w.heap.size O.drew (A+1) q (zg g ps.length hc) (zj ra rs.length rc) ps rs):=HD1.drew;refine wRg 14 (fun w':World=>w'=O.drew) ?_;clear HD1 y z B s u v j;generalize O.drew=X at*;obtain⟨⟨y,z,B⟩,s,u,v⟩:=tri HX.tb;obtain⟨T,⟨dv,c1,aj⟩,I,ab⟩:=HX.ow.at m o;obtain⟨ys,ar⟩: ∃ys,Hid (ys=(ps.getD m (0,[])).2):=⟨_,rfl⟩;have ak:=HX.ow.fine (ps.getD m (0,[])) (by rw[mV,mZ o];exact nj _)
   rw[←ar.out] at ak aj;have ag:Hid (Xy X w0.heap.size dv ys):=aj;obtain⟨dg,H,l,aS,rfl,aK,aL,aM,aN⟩:=aj;have aD:Hid (Byt ys∧0<ys.length∧ys.length≤64):=ak;have M:ys.length=64:=by rw[ar.out];exact aC _ (by rw[mV,mZ o];exact nj _)
   have P:Hid (ys.length=64):=M;rw[M] at c1 aK ag;have aU: ¬l=1∧1≤l∧64≤l:=zk;clear M;clear aN aM aL ak;refine wTk 0 (.pointer (some ⟨w.heap.size,1,none⟩)) rfl (fun w' a=>by obtain rfl:=a;go_simp) rfl ?_;go_simp;refine wTk 1 (zg g ps.length hc) rfl (fun w' a=>by obtain rfl:=a;go_simp) rfl ?_;go_simp;refine wTk 2 (za (ps.length:Int)) rfl (fun w' a=>by obtain rfl:=a;go_simp) rfl ?_;go_simp;refine wTk 3 (za m) rfl (fun w' a=>by obtain rfl:=a;go_simp) rfl ?_
   go_simp;refine wTk 4 (.pointer (some ⟨w.heap.size,1,none⟩)) rfl (fun w' a=>by obtain rfl:=a;go_simp) rfl ?_;go_simp;refine wTk 5 (zg g ps.length hc) rfl (fun w' a=>by obtain rfl:=a;go_simp) rfl ?_;go_simp;refine wTk 6 (za (ps.length:Int)) rfl (fun w' a=>by obtain rfl:=a;go_simp) rfl ?_;go_simp;refine wTk 7 (za m) rfl (fun w' a=>by obtain rfl:=a;go_simp) rfl ?_;go_simp;refine wTk 8 (.pointer (some ⟨g,m*2,none⟩)) rfl (fun w' a=>by obtain rfl:=a;go_simp) rfl ?_
   go_simp;refine wTk 9 (.pointer (some ⟨g,m*2+1,none⟩)) rfl (fun w' a=>by obtain rfl:=a;go_simp) rfl ?_;go_simp;refine wTk 10 (zj (some ⟨dg,H,none⟩) 64 l) rfl (fun w' a=>by obtain rfl:=a;go_simp) rfl ?_;go_simp;refine wTk 11 (zj (some ⟨dg,H+1,none⟩) 63 (l-1)) rfl (fun w' a=>by obtain rfl:=a;go_simp) rfl ?_;go_simp;refine wOn 12 rfl ?_;go_simp;refine wOn 13 rfl ?_;go_simp;refine wOn 14 rfl ?_;go_simp
   refine wDn ?_;have az:=(Xy.tail ag (by have:=P.out;omega)).2;have n:Hid (SpT (X.setCell ⟨g,m*2+1,none⟩ (zj (some ⟨dg,H+1,none⟩) 63 (l-1))) w0.heap.size (zg g ps.length hc) (zj ra rs.length rc) (ps.set m ((ps.getD m (0,[])).1,ys.drop 1)) rs):=HX.ow.setD m o az ⟨fun x hx=>aD.1 x (rj hx),by rw[m8,P.out];omega,by rw[m8,P.out];omega⟩;clear az;obtain⟨cu,K⟩:=JC HX.ow;have HY:Hid (SpS C cc S w0 w.heap.size (X.setCell ⟨g,m*2+1,none⟩ (zj (some ⟨dg,H+1,none⟩) 63 (l-1))) (A+1) q (zg g ps.length hc) (zj ra rs.length rc) (ps.set m ((ps.getD m (0,[])).1,ys.drop 1)) (rs)):=HX.put hg K zp n ⟨ou ..,rfl⟩
   clear y z B s u v HX n K c1 T I ab ag;generalize X.setCell ⟨g,m*2+1,none⟩ (zj (some ⟨dg,H+1,none⟩) 63 (l-1))=Y at*;obtain⟨⟨y,z,B⟩,s,u,v⟩:=tri HY.tb;go_wp2_with (refine wpList_store_row rfl 35 (.tmp 4) (.tmp 100) rfl rfl (w.heap.size+1) rfl [za q,zg g ps.length hc,zj ra rs.length rc] [za 0,zc,zc] 35 rfl HY.out.re rfl zl (by simp[Value.oneCell']) ?_;intro i c d);have b:(loadVar 35 (zd (w.heap.size+1))).run Tryz.prog i= .ok (.agg (List.toArray [za q,zg g ps.length hc,zj ra rs.length rc])) i:=nd _ _ _ _ [za q,zg g ps.length hc,zj ra rs.length rc] _ (zy c) Tryz.underlying35 rfl zl
   refine mT (zH Tryz.results108 rfl b) rfl ?_;exact HY.fin d zk
 ·by_cases L: ¬1<ps.length
  ·have E:decide ((1:Int)<(ps.length:Int))=false:=mY zk;have F:decide (1<ps.length)=false:=mY zk;clear L f;go_wp2_with (refine wpList_store_row rfl 35 (.tmp 4) (.tmp 100) rfl rfl (w.heap.size+1) rfl [za q,zj ha ps.length hc,zj ra rs.length rc] [za 0,zc,zc] 35 rfl HD1.out.re rfl zl (by simp[Value.oneCell']) ?_;intro i c d);have b:(loadVar 35 (zd (w.heap.size+1))).run Tryz.prog i= .ok (.agg (List.toArray [za q,zj ha ps.length hc,zj ra rs.length rc])) i:=nd _ _ _ _ [za q,zj ha ps.length hc,zj ra rs.length rc] _ (zy c) Tryz.underlying35 rfl zl
   refine mT (zH Tryz.results108 rfl b) rfl ?_;exact HD1.fin d zk
  ·have Z:Hid (1<ps.length):=(zk:1<ps.length);have F:decide (1<ps.length)=true:=mR zk;have E:decide ((1:Int)<(ps.length:Int))=true:=mR zk;obtain⟨g,aa,rfl,hg,j,V⟩:=f zk;clear L f;go_wp2;have HX:Hid (SpS C cc S w0 w.heap.size O.drew (A+1) q (zg g ps.length hc) (zj ra rs.length rc) ps rs):=HD1.drew;refine wRg 9 (fun w':World=>w'=O.drew) ?_;clear HD1 y z B s u v j;generalize O.drew=X at*;obtain⟨⟨y,z,B⟩,s,u,v⟩:=tri HX.tb
   obtain⟨T,_,I,_⟩:=HX.ow.at 1 (by have:=Z.out;omega);obtain⟨_,_,ab,_⟩:=HX.ow.at 0 (by have:=Z.out;omega);simp only[pZ,Nat.one_mul] at T I ab;have b:1<ps.length∧0<ps.length:=⟨Z,by have:=Z.out;omega⟩;have aV: ¬((ps.length:Int)≤1):=zk;obtain⟨D,R⟩: ∃D,Hid (D=(ps.getD 1 (0,[])).1):=⟨_,rfl⟩;rw[←R.out] at T;refine wTk 0 (.pointer (some ⟨w.heap.size,1,none⟩)) rfl (fun w' a=>by obtain rfl:=a;go_simp) rfl ?_
   go_simp;refine wTk 1 (zg g ps.length hc) rfl (fun w' a=>by obtain rfl:=a;go_simp) rfl ?_;go_simp;refine wTk 2 (.pointer (some ⟨w.heap.size,1,none⟩)) rfl (fun w' a=>by obtain rfl:=a;go_simp) rfl ?_;go_simp;refine wTk 3 (zg g ps.length hc) rfl (fun w' a=>by obtain rfl:=a;go_simp) rfl ?_;go_simp;refine wTk 4 (.pointer (some ⟨g,2,none⟩)) rfl (fun w' a=>by obtain rfl:=a;go_simp) rfl ?_;go_simp;refine wTk 5 (.pointer (some ⟨g,2,none⟩)) rfl (fun w' a=>by obtain rfl:=a;go_simp) rfl ?_
   go_simp;refine wTk 6 (za D) rfl (fun w' a=>by obtain rfl:=a;go_simp) rfl ?_;go_simp;refine wOn 7 rfl ?_;go_simp;refine wOn 8 rfl ?_;go_simp;refine wOn 9 rfl ?_;go_simp;refine wDn ?_;have n:Hid (SpT (X.setCell (zd g) (za D)) w0.heap.size (zg g ps.length hc) (zj ra rs.length rc) (ps.set 0 (D,(ps.getD 0 (0,[])).2)) rs):=HX.ow.setB 0 b.2 _;obtain⟨cu,K⟩:=JC HX.ow;have HY:Hid (SpS C cc S w0 w.heap.size (X.setCell (zd g) (za D)) (A+1) q (zg g ps.length hc) (zj ra rs.length rc) (ps.set 0 (D,(ps.getD 0 (0,[])).2)) (rs)):=HX.put hg K zp n ⟨ou ..,rfl⟩
   clear y z B s u v HX n K T I ab;generalize X.setCell (zd g) (za D)=Y at*;obtain⟨⟨y,z,B⟩,s,u,v⟩:=tri HY.tb;go_wp2_with (refine wpList_store_row rfl 35 (.tmp 4) (.tmp 100) rfl rfl (w.heap.size+1) rfl [za q,zg g ps.length hc,zj ra rs.length rc] [za 0,zc,zc] 35 rfl HY.out.re rfl zl (by simp[Value.oneCell']) ?_;intro i c d);have b:(loadVar 35 (zd (w.heap.size+1))).run Tryz.prog i= .ok (.agg (List.toArray [za q,zg g ps.length hc,zj ra rs.length rc])) i:=nd _ _ _ _ [za q,zg g ps.length hc,zj ra rs.length rc] _ (zy c) Tryz.underlying35 rfl zl
   refine mT (zH Tryz.results108 rfl b) rfl ?_;exact HY.fin d zk
 ·by_cases L:ps.length=0
  ·have E:decide ((0:Int)<(ps.length:Int))=false:=mY zk;have F:decide (0<ps.length)=false:=mY zk;clear L f;go_wp2_with (refine wpList_store_row rfl 35 (.tmp 4) (.tmp 100) rfl rfl (w.heap.size+1) rfl [za q,zj ha ps.length hc,zj ra rs.length rc] [za 0,zc,zc] 35 rfl HD1.out.re rfl zl (by simp[Value.oneCell']) ?_;intro i c d);have b:(loadVar 35 (zd (w.heap.size+1))).run Tryz.prog i= .ok (.agg (List.toArray [za q,zj ha ps.length hc,zj ra rs.length rc])) i:=nd _ _ _ _ [za q,zj ha ps.length hc,zj ra rs.length rc] _ (zy c) Tryz.underlying35 rfl zl
   refine mT (zH Tryz.results108 rfl b) rfl ?_;exact HD1.fin d zk
  ·have F:decide (0<ps.length)=true:=mR zk;have E:decide ((0:Int)<(ps.length:Int))=true:=mR zk;obtain⟨g,aa,rfl,hg,j,V⟩:=f zk;obtain⟨m,Hm⟩: ∃m,Hid (ps.length=m+1):=⟨ps.length-1,(zk:ps.length=ps.length-1+1)⟩;have aB:IntKind.i64.wrap ((ps.length:Int)-1)=(m:Int):=by rw[mS];have:=HD1.few;have:=Hm.out;omega
   have o:m<ps.length:=by have:=Hm.out;omega
   have ae:(m:Int)<(ps.length:Int):=zk;clear L f;go_wp2;have HX:Hid (SpS C cc S w0 w.heap.size O.drew (A+1) q (zg g ps.length hc) (zj ra rs.length rc) ps rs):=HD1.drew;refine wRg 9 (fun w':World=>w'.heap[w.heap.size]?=some (.cells #[za q,zg g ps.length hc,zj ra rs.length rc] 35 (0,0))) ?_;clear HD1 y z B s u v j;generalize O.drew=X at*;refine wTk 0 (.pointer (some ⟨w.heap.size,1,none⟩)) rfl (fun w' a=>by obtain⟨⟨h0,h1,h2⟩,_⟩:=tri a;go_simp) HX.out.tb ?_
   go_simp;refine wTk 1 (zg g ps.length hc) rfl (fun w' a=>by obtain⟨⟨h0,h1,h2⟩,_⟩:=tri a;go_simp) HX.out.tb ?_;go_simp;refine wTk 2 (za (ps.length:Int)) rfl (fun w' a=>by obtain⟨⟨h0,h1,h2⟩,_⟩:=tri a;go_simp) HX.out.tb ?_;go_simp;refine wTk 3 (za m) rfl (fun w' a=>by obtain⟨⟨h0,h1,h2⟩,_⟩:=tri a;go_simp) HX.out.tb ?_;go_simp;refine wTk 4 (zh S.p) rfl (fun w' a=>by obtain⟨⟨h0,h1,h2⟩,_⟩:=tri a;go_simp) HX.out.tb ?_
   go_simp;refine wOn 5 rfl ?_;refine zv 106 #[zh S.p,za 2] zq (HX.out.next zk 2 zk) ?_;rintro e X2 ⟨r,rfl,r0,r1,aw⟩;have G:Hid (SpS C cc S w0 w.heap.size X2 (A+1+1) q (zg g ps.length hc) (zj ra rs.length rc) ps rs):=aw;clear aw HX;refine⟨_,rfl,fun _=>G.tb,?_⟩;have aR:=G.tb;obtain⟨⟨y,z,B⟩,s,u,v⟩:=tri G.tb;obtain⟨T,_,I,_⟩:=G.ow.at m o;go_simp;refine wOn 6 rfl ?_;go_simp;refine wOn 7 rfl ?_;go_simp;refine wOn 8 rfl ?_
   go_simp;refine wOn 9 rfl ?_;go_simp;refine wDn ?_;have n:Hid (SpT (X2.setCell ⟨g,m*2,none⟩ (za (IntKind.i64.wrap (2048-r)))) w0.heap.size (zg g ps.length hc) (zj ra rs.length rc) (ps.set m (IntKind.i64.wrap (2048-r),(ps.getD m (0,[])).2)) rs):=G.ow.setB m o _;obtain⟨cu,K⟩:=JC G.ow;have HY:Hid (SpS C cc S w0 w.heap.size (X2.setCell ⟨g,m*2,none⟩ (za (IntKind.i64.wrap (2048-r)))) (A+2) q (zg g ps.length hc) (zj ra rs.length rc) (ps.set m (IntKind.i64.wrap (2048-r),(ps.getD m (0,[])).2)) (rs)):=G.put hg K zp n ⟨ou ..,rfl⟩
   clear y z B s u v G n K T I aR;generalize X2.setCell ⟨g,m*2,none⟩ (za (IntKind.i64.wrap (2048-r)))=Y at*;obtain⟨⟨y,z,B⟩,s,u,v⟩:=tri HY.tb;go_wp2_with (refine wpList_store_row rfl 35 (.tmp 4) (.tmp 100) rfl rfl (w.heap.size+1) rfl [za q,zg g ps.length hc,zj ra rs.length rc] [za 0,zc,zc] 35 rfl HY.out.re rfl zl (by simp[Value.oneCell']) ?_;intro i c d);have b:(loadVar 35 (zd (w.heap.size+1))).run Tryz.prog i= .ok (.agg (List.toArray [za q,zg g ps.length hc,zj ra rs.length rc])) i:=nd _ _ _ _ [za q,zg g ps.length hc,zj ra rs.length rc] _ (zy c) Tryz.underlying35 rfl zl
   refine mT (zH Tryz.results108 rfl b) rfl ?_;exact HY.fin d zk
 ·by_cases L:ps.length=0
  ·have E:decide ((0:Int)<(ps.length:Int))=false:=mY zk;have F:decide (0<ps.length)=false:=mY zk;clear L f;go_wp2_with (refine wpList_store_row rfl 35 (.tmp 4) (.tmp 100) rfl rfl (w.heap.size+1) rfl [za q,zj ha ps.length hc,zj ra rs.length rc] [za 0,zc,zc] 35 rfl HD1.out.re rfl zl (by simp[Value.oneCell']) ?_;intro i c d);have b:(loadVar 35 (zd (w.heap.size+1))).run Tryz.prog i= .ok (.agg (List.toArray [za q,zj ha ps.length hc,zj ra rs.length rc])) i:=nd _ _ _ _ [za q,zj ha ps.length hc,zj ra rs.length rc] _ (zy c) Tryz.underlying35 rfl zl
   refine mT (zH Tryz.results108 rfl b) rfl ?_;exact HD1.fin d zk
  ·have F:=mR zk;have E:=mR zk;obtain⟨g,aa,rfl,hg,j,V⟩:=f zk;obtain⟨m,Hm⟩: ∃m,Hid (ps.length=m+1):=⟨ps.length-1,(zk:ps.length=ps.length-1+1)⟩;have aB:IntKind.i64.wrap ((ps.length:Int)-1)=(m:Int):=by rw[mS];have:=HD1.few;have:=Hm.out;omega
   have o:m<ps.length:=by have:=Hm.out;omega
   have ae:(m:Int)<(ps.length:Int):=zk;clear L f;go_wp2;have HX:Hid _:=HD1.drew;refine wRg 12 (fun w':World=>w'.heap[w.heap.size]?=some (.cells #[za q,zg g ps.length hc,zj ra rs.length rc] 35 (0,0))∧w'.cell? ⟨g,m*2,none⟩=some (za (ps.getD m (0,[])).1)) ?_;clear HD1 y z B s u v j;generalize O.drew=X at*;obtain⟨T,_,I,_⟩:=HX.ow.at m o;obtain⟨D,R⟩: ∃D,Hid (D=(ps.getD m (0,[])).1):=⟨_,rfl⟩;rw[←R.out] at T⊢
   have HS:Hid (_∧_):=⟨HX.tb,T⟩;clear T I;refine wTk 0 (.pointer (some ⟨w.heap.size,2,none⟩)) rfl (fun w' a=>by obtain⟨a,J⟩:=a;obtain⟨⟨h0,h1,h2⟩,_⟩:=tri a;go_simp) HS.out ?_;go_simp;refine wTk 1 (zj ra rs.length rc) rfl (fun w' a=>by obtain⟨a,J⟩:=a;obtain⟨⟨h0,h1,h2⟩,_⟩:=tri a;go_simp) HS.out ?_;go_simp;refine wTk 2 (.pointer (some ⟨w.heap.size,1,none⟩)) rfl (fun w' a=>by obtain⟨a,J⟩:=a;obtain⟨⟨h0,h1,h2⟩,_⟩:=tri a;go_simp) HS.out ?_
   go_simp;refine wTk 3 (zg g ps.length hc) rfl (fun w' a=>by obtain⟨a,J⟩:=a;obtain⟨⟨h0,h1,h2⟩,_⟩:=tri a;go_simp) HS.out ?_;go_simp;refine wTk 4 (za (ps.length:Int)) rfl (fun w' a=>by obtain⟨a,J⟩:=a;obtain⟨⟨h0,h1,h2⟩,_⟩:=tri a;go_simp) HS.out ?_;go_simp;refine wTk 5 (za m) rfl (fun w' a=>by obtain⟨a,J⟩:=a;obtain⟨⟨h0,h1,h2⟩,_⟩:=tri a;go_simp) HS.out ?_;go_simp;refine wTk 6 (.pointer (some ⟨g,m*2,none⟩)) rfl (fun w' a=>by obtain⟨a,J⟩:=a;obtain⟨⟨h0,h1,h2⟩,_⟩:=tri a;go_simp) HS.out ?_
   go_simp;refine wTk 7 (.pointer (some ⟨g,m*2,none⟩)) rfl (fun w' a=>by obtain⟨a,J⟩:=a;obtain⟨⟨h0,h1,h2⟩,_⟩:=tri a;go_simp) HS.out ?_;go_simp;refine wTk 8 (za D) rfl (fun w' a=>by obtain⟨a,J⟩:=a;obtain⟨⟨h0,h1,h2⟩,_⟩:=tri a;go_simp) HS.out ?_;go_simp;have aA:=fW HX ao D;have af:Hid (zr 0 0 X (X.alloc (.cells #[za D] 2))):=zr.al X;have aq:Hid _:=aA;clear aA;have HO:Hid _:=Ur HX D;refine wOn 9 rfl ?_
   obtain⟨ic,aP,ay,W,aT⟩:=na Tryz.infoI;refine oe 33 2 1 #[(0,.tmp 76)] rfl #[za D] ic _ Tryz.underlying33 aP ay (by rw[W];decide) (by rw[W];decide) (by rw[W,oh];refine QJ 1 _ ?_ [za D] rfl;simp) ?_;have ap:Hid ((fun w':World=>w'.heap[w.heap.size]?=some (.cells #[za q,zg g ps.length hc,zj ra rs.length rc] 35 (0,0))∧w'.cell? ⟨g,m*2,none⟩=some (za D)) (X.alloc (.cells #[za D] 2))):=⟨(af.bk _ (zE HX.tb)).trans HX.tb,by have h9:=((HX.ow.chg af zk).at m o).1;rw[←R.out] at h9;exact h9⟩
   refine⟨fun _=>ap.out,?_⟩;go_simp;refine wOn 10 rfl ?_;refine ZX (.tmp 69) (.tmp 77) rfl w0.heap.size (zj ra rs.length rc) rs rfl HO.1 (by have:=HO.2.2;omega) 0 (X.heap.size+1) (zg X.heap.size 1 1) [D] rfl HO.2.1 zn (by have:=HO.2.2.2;simp;omega) ?_;intro v' X8 o8 au;obtain⟨va,vc,rfl⟩:=o8.shape;obtain⟨ac,ai⟩:=aq.out X8 _ o8 au;have Q:Hid ((fun w':World=>w'.heap[w.heap.size]?=some (.cells #[za q,zg g ps.length hc,zj ra rs.length rc] 35 (0,0))∧w'.cell? ⟨g,m*2,none⟩=some (za D)) X8):=⟨ac.tb,by have h9:=(ac.ow.at m o).1;rw[←R.out] at h9;exact h9⟩
   have ad:=ac.tb;obtain⟨⟨u0,u1,u2⟩,aE,aG,aH⟩:=tri ad;rw[mL,nJ] at ai;have HF:Hid _:=ai;rw[mL,nJ];refine⟨fun _=>Q.out,?_⟩;have aI:=Q.2;clear ac ai au o8 HO aq af;go_simp;refine wOn 11 rfl ?_;go_simp;refine wOn 12 rfl ?_;go_simp;refine wDn ?_;have HY:Hid _:=HF.out;clear HX HF u0 u1 u2 aE aG aH ad aI HS ap Q;generalize X8.setCell ⟨w.heap.size,2,none⟩ (zj va (rs.length+1) vc)=Y at*;obtain⟨⟨y,z,B⟩,s,u,v⟩:=tri HY.tb
   go_wp2_with (refine wpList_store_row rfl 35 (.tmp 4) (.tmp 100) rfl rfl (w.heap.size+1) rfl [za q,zg g ps.length hc,zj va (rs.length+1) vc] [za 0,zc,zc] 35 rfl HY.out.re rfl zl (by simp[Value.oneCell']) ?_;intro i c d);have b:(loadVar 35 (zd (w.heap.size+1))).run Tryz.prog i= .ok (.agg (List.toArray [za q,zg g ps.length hc,zj va (rs.length+1) vc])) i:=nd _ _ _ _ [za q,zg g ps.length hc,zj va (rs.length+1) vc] _ (zy c) Tryz.underlying35 rfl zl
   refine mT (zH Tryz.results108 rfl b) rfl ?_;exact HY.fin d zk
 ·by_cases L:rs.length=0
  ·have E:decide ((0:Int)<(rs.length:Int))=false:=mY zk;have F:decide (0<rs.length)=false:=mY zk;clear L f;go_wp2_with (refine wpList_store_row rfl 35 (.tmp 4) (.tmp 100) rfl rfl (w.heap.size+1) rfl [za q,zj ha ps.length hc,zj ra rs.length rc] [za 0,zc,zc] 35 rfl HD1.out.re rfl zl (by simp[Value.oneCell']) ?_;intro i c d);have b:(loadVar 35 (zd (w.heap.size+1))).run Tryz.prog i= .ok (.agg (List.toArray [za q,zj ha ps.length hc,zj ra rs.length rc])) i:=nd _ _ _ _ [za q,zj ha ps.length hc,zj ra rs.length rc] _ (zy c) Tryz.underlying35 rfl zl
   refine mT (zH Tryz.results108 rfl b) rfl ?_;exact HD1.fin d zk
  ·have E:=mR zk;have F:=mR zk;have aQ:0<rs.length:=zk;clear L f;obtain⟨g,rfl,hg,aa,j,aO,aJ,ax⟩:=HD1.ow.setR aQ;have n:Hid _:=ax;clear ax;go_upto_region 13 with fail;have HY:Hid (SpS C cc S w0 w.heap.size (O.setCell (zd g) (za (-1))) (A+1) q (zj ha ps.length hc) (zg g rs.length rc) (ps) (rs.set 0 (-1))):=HD1.put hg j zp n ⟨rfl,ou ..⟩;clear HD1 y z B s u v n j aO aJ;generalize O.setCell (zd g) (za (-1))=Y at*
   obtain⟨⟨y,z,B⟩,s,u,v⟩:=tri HY.tb;go_wp2_with (refine wpList_store_row rfl 35 (.tmp 4) (.tmp 100) rfl rfl (w.heap.size+1) rfl [za q,zj ha ps.length hc,zg g rs.length rc] [za 0,zc,zc] 35 rfl HY.out.re rfl zl (by simp[Value.oneCell']) ?_;intro i c d);have b:(loadVar 35 (zd (w.heap.size+1))).run Tryz.prog i= .ok (.agg (List.toArray [za q,zj ha ps.length hc,zg g rs.length rc])) i:=nd _ _ _ _ [za q,zj ha ps.length hc,zg g rs.length rc] _ (zy c) Tryz.underlying35 rfl zl
   refine mT (zH Tryz.results108 rfl b) rfl ?_;exact HY.fin d zk
 ·clear f;go_upto_region 15 with(go_at_call 106;refine(HD1.out.next zk 2 zk).mono ?_;rintro e wx ⟨r,rfl,r0,r1,av⟩;have HX:Hid (SpS C cc S w0 w.heap.size wx (A+1+1) q (zj ha ps.length hc) (zj ra rs.length rc) ps rs):=av;clear av y z B s u v;obtain⟨⟨y,z,B⟩,s,u,v⟩:=tri HX.out.tb;obtain⟨q5,aW⟩: ∃q5,IntKind.i64.wrap (4294967295+r)=q5:=⟨_,rfl⟩);have HY:Hid (SpS C cc S w0 w.heap.size (wx.setCell (zd w.heap.size) (za q5)) (A+2) q5 (zj ha ps.length hc) (zj ra rs.length rc) (ps) (rs)):=HX.seq _
  clear y z B s u v HX;generalize wx.setCell (zd w.heap.size) (za q5)=Y at*;obtain⟨⟨y,z,B⟩,s,u,v⟩:=tri HY.tb;go_wp2_with (refine wpList_store_row rfl 35 (.tmp 4) (.tmp 100) rfl rfl (w.heap.size+1) rfl [za q5,zj ha ps.length hc,zj ra rs.length rc] [za 0,zc,zc] 35 rfl HY.out.re rfl zl (by simp[Value.oneCell']) ?_;intro i c d);have b:(loadVar 35 (zd (w.heap.size+1))).run Tryz.prog i= .ok (.agg (List.toArray [za q5,zj ha ps.length hc,zj ra rs.length rc])) i:=nd _ _ _ _ [za q5,zj ha ps.length hc,zj ra rs.length rc] _ (zy c) Tryz.underlying35 rfl zl
  refine mT (zH Tryz.results108 rfl b) rfl ?_;exact HY.fin d zk
 ·go_upto_region 17 with fail;have HY:Hid _:=HD1.seq 0;clear HD1 y z B s u v;generalize O.setCell (zd w.heap.size) (za 0)=Y at*;obtain⟨⟨y,z,B⟩,s,u,v⟩:=tri HY.tb;go_wp2_with (refine wpList_store_row rfl 35 (.tmp 4) (.tmp 100) rfl rfl (w.heap.size+1) rfl [za 0,zj ha ps.length hc,zj ra rs.length rc] [za 0,zc,zc] 35 rfl HY.out.re rfl zl (by simp[Value.oneCell']) ?_;intro i c d);have b:(loadVar 35 (zd (w.heap.size+1))).run Tryz.prog i= .ok (.agg (List.toArray [za 0,zj ha ps.length hc,zj ra rs.length rc])) i:=nd _ _ _ _ [za 0,zj ha ps.length hc,zj ra rs.length rc] _ (zy c) Tryz.underlying35 rfl zl
  refine mT (zH Tryz.results108 rfl b) rfl ?_;exact HY.fin d zk
 ·go_wp2_with (refine wpList_store_row rfl 35 (.tmp 4) (.tmp 100) rfl rfl (w.heap.size+1) rfl [za q,zj ha ps.length hc,zj ra rs.length rc] [za 0,zc,zc] 35 rfl HD1.out.re rfl zl (by simp[Value.oneCell']) ?_;intro i c d);have b:(loadVar 35 (zd (w.heap.size+1))).run Tryz.prog i= .ok (.agg (List.toArray [za q,zj ha ps.length hc,zj ra rs.length rc])) i:=nd _ _ _ _ [za q,zj ha ps.length hc,zj ra rs.length rc] _ (zy c) Tryz.underlying35 rfl zl
  refine mT (zH Tryz.results108 rfl b) rfl ?_;exact HD1.fin d zk
def gv (S:ScW) (w0 w':World) (A:Nat) (e:Ending):Prop:= ∃q hv rv ps rs,e= .returned (.agg #[za q,hv,rv])∧SpT w' w0.heap.size hv rv ps rs∧(ps.length≤200∧rs.length≤101)∧EnW S w0 w' A
structure DA (S:ScW)(B C:Nat)(w3 w:World)(A:Nat)(q:Int)(hv rv:Value)(ps:List Wr)(rs:List Int):Prop where
 en:EnW S w3 w A
 lt:B<w3.heap.size∧w3.heap.size≤C
 rb:w.heap[B]?=some (zi #[za 0,zc,zc] 35)
 tb:w.heap[C]?=some (zi #[za q,hv,rv] 35)
 ow:SpT w w3.heap.size hv rv ps rs
 few:ps.length≤200∧rs.length≤101
theorem DA.step {S:ScW}{w3:World}{ps:List Wr}(h:DA S B C w3 w A q hv rv ps rs)(a:S.p<B)(e:EnW S w w' A':=by omega):DA S B C w3 w' A' q hv rv ps rs:=by
 have d:=h.en.top;have b:=h.lt;have c:=e.chg;have h1:=(zE h.tb);exact⟨h.en.join e,h.lt,c.bt h.rb,c.bt h.tb,h.ow.chg c zk,h.few⟩
theorem DA.fin {S:ScW}{w3 wf:World}{ps:List Wr}(h:DA S B C w3 w A q hv rv ps rs)(h0:EnW S w0 w3 A)(c:w0.heap.size≤B)(a:zr B (B+1) w wf)(b:A≤A'):gv S w0 wf A' (.returned (.agg #[za q,hv,rv])):=by
 have d:=h.lt;have hs:=h0.size;exact⟨q,hv,rv,ps,rs,rfl,(h.ow.chg a zk).low hs,h.few,(((h0.join h.en).own a c)).mono b⟩
theorem UC {S:ScW}(h:EnW S w w A)(hA:A≤1000000):
  Calls Tryz.prog 66 #[zh S.p] w fun e w'=>gv S w w' (A+10010) e:=by
 have R:=zt w (zi #[za 0,zc,zc] 35);have g:EnW S w (w.alloc (zi #[za 0,zc,zc] 35)) A:=h.alloc _;have ab:=(zE R);have ht:=h.top;clear h;go_enter Tryz.func66,Tryz.ntmps66;go_wp2_with fail;generalize w.alloc (zi #[za 0,zc,zc] 35)=w1 at*;refine(Vo g.self zk 300 zk).mono ?_;rintro e w2 ⟨r1,rfl,ag,ah,a⟩;obtain⟨q,hq⟩: ∃q,IntKind.i64.wrap (1+r1)=q:=⟨_,rfl⟩;go_wp2_with fail;refine(Vo a.self zk 90 zk).mono ?_
 rintro e Q ⟨r2,rfl,ai,aj,c⟩;have ac:=a.size;have ad:=c.size;have l:=c.chg.bt ((a.chg.bk _).trans R);have x:Hid _:=(g.join a).join c;clear R g a;go_wp2_with fail;refine(UD c.self zk q r2).mono ?_;rintro e u ⟨O,P,t,rfl,N,J,d⟩;have ae:=d.size;have B:=(d.chg.bk _ (show w.heap.size<Q.heap.size by omega)).trans l;have z:zr 0 0 u (u.alloc (zi #[za q,O,P] 35)):=zr.al u;have K:Hid (_∧_):=⟨N.chg z zk,J⟩;have v:Hid (DA S w.heap.size u.heap.size Q (u.alloc (zi #[za q,O,P] 35)) (A+1+1+10000) q O P t.homes t.rV):=⟨d.keep z,⟨zk,zk⟩,z.bt B,zt _ _,(SpT.of N).chg z zk,J.1,zk⟩
 have L:Hid _:=l;have HL:Hid _:=J;clear c d l B N J z;obtain⟨ha,hc,rfl,-⟩:=v.ow.rows;obtain⟨ra,rc,rfl⟩:=v.ow.rv'.shape;obtain⟨nh,E⟩: ∃n,t.homes.length=n:=⟨_,rfl⟩;obtain⟨nr,F⟩: ∃n,t.rV.length=n:=⟨_,rfl⟩;rw[E,F] at v K⊢;clear E F;go_wp2_with fail;generalize u.alloc (zi #[za q,zj ha nh hc,zj ra nr rc] 35)=w5 at*;generalize u.heap.size=C at*;refine(Ej v.en.self zk 5 zk).mono ?_;rintro e w6 ⟨b,rfl,i⟩;have HD6:Hid _:=v.step ht.2 i
 have y:Hid (_∧_):=⟨K.1.chg i.chg zk,HL⟩;clear v K i;obtain⟨⟨Y,Z,t2⟩,U,V,W⟩:=tri HD6.tb
 cases b
 ·go_wp2_with (refine wpList_store_row rfl 35 (.tmp 2) (.tmp 16) rfl rfl w.heap.size rfl [za q,zj ha nh hc,zj ra nr rc] [za 0,zc,zc] 35 rfl HD6.out.rb rfl zl (by simp[Value.oneCell']) ?_;intro G m o);have r:(loadVar 35 (zd w.heap.size)).run Tryz.prog G= .ok (.agg (List.toArray [za q,zj ha nh hc,zj ra nr rc])) G:=nd _ _ _ _ [za q,zj ha nh hc,zj ra nr rc] _ (zy m) Tryz.underlying35 rfl zl;refine mT (zH Tryz.results66 rfl r) rfl ?_
  exact HD6.fin (x.mono zk) nlR o zk
 ·go_wp2_with fail;refine(aF HD6.en zk y.1 y.2 ⟨HD6.lt.2,HD6.tb⟩).mono ?_;rintro e w7 ⟨q',af,ak,ps,rs,rfl,H,X,k,hC7⟩;have M:=HD6.lt;have s:=k.chg.bt L;obtain⟨ha',hc',rfl,-⟩:=H.rows;obtain⟨ra',rc',rfl⟩:=H.rv'.shape;clear Y Z t2 U V W HD6;go_upto_region 4 with(refine wpList_store_row rfl 35 (.tmp 3) (.tmp 15) rfl rfl C rfl [za q',zj ha' ps.length hc',zj ra' rs.length rc'] [za q,zj ha nh hc,zj ra nr rc] 35 rfl hC7 rfl zl (by simp[Value.oneCell']) ?_;intro w8 D f)
  have HY:Hid (DA S w.heap.size C Q w8 (A+10005) q' (zj ha' ps.length hc') (zj ra' rs.length rc') ps rs):=⟨(k.own f zk).mono zk,M,(f.bk _ (zE s)).trans s,D,H.keep (fun j aa T _ hT I=>(f.block j (zE I) (by
   have:j≠C:=fun e=>by rw[e,hC7] at I;cases I;exact hT rfl
   omega)).trans I),X⟩
  clear H X k hC7 s D f;obtain⟨⟨Y,Z,t2⟩,U,V,W⟩:=tri HY.tb;go_wp2_with (refine wpList_store_row rfl 35 (.tmp 2) (.tmp 16) rfl rfl w.heap.size rfl [za q',zj ha' ps.length hc',zj ra' rs.length rc'] [za 0,zc,zc] 35 rfl HY.out.rb rfl zl (by simp[Value.oneCell']) ?_;intro G m o);have r:(loadVar 35 (zd w.heap.size)).run Tryz.prog G= .ok (.agg (List.toArray [za q',zj ha' ps.length hc',zj ra' rs.length rc'])) G:=nd _ _ _ _ [za q',zj ha' ps.length hc',zj ra' rs.length rc'] _ (zy m) Tryz.underlying35 rfl zl
  refine mT (zH Tryz.results66 rfl r) rfl ?_;exact HY.fin (x.mono zk) nlR o zk
def lM (w w':World) (e:Ending):Prop:= ∃q hv rv ps rs,e= .returned (.agg #[za q,hv,rv])∧SpT w' w.heap.size hv rv ps rs∧(ps.length≤200∧rs.length≤101)∧zr 0 0 w w'
theorem XA {cv:Value}{code:List Int}(u:Byt code)(y:code.length≤1048600)(d:zC w 0 hi .u8 cv code)(x:hi≤w.heap.size):
  Calls Tryz.prog 28 #[cv] w fun e w'=>lM w w' e:=by
 obtain⟨f,cap,rfl,l⟩:=id d;have s:=zt w (zi #[za 0,zc,zc] 35);have n:zr 0 0 w (w.alloc (zi #[za 0,zc,zc] 35)):=zr.al w;have z:=(zE s);have Hv:Hid (zC w 0 hi .u8 (zj f code.length cap) code):=d;clear d l;go_enter Tryz.func28,Tryz.ntmps28;go_wp2_with fail;generalize w.alloc (zi #[za 0,zc,zc] 35)=p at*;refine(VN p f code.length cap zk).mono ?_;rintro e m ⟨rfl,hs,c⟩;have o:=(zE hs);have t:EnW ⟨p.heap.size,zj f code.length cap,code,0,hi,min (code.length/16) 12⟩ m m 0:=⟨⟨0,mP _,hs⟩,(Hv.chg n zk).chg c zk,Or.inr (by simp only;omega),u,y,zr.refl _ _ _,by simp only;omega⟩
 go_wp2_with fail;refine(UC t zk).mono ?_;rintro e D ⟨q,d,C,ps,rs,rfl,i,v,h⟩;have a:=h.chg;simp only at a;have A:=c.size;have B:=a.size;have hb3:=a.bt ((c.bk _).trans s);obtain⟨ha',hc',rfl,-⟩:=i.rows;obtain⟨ra',rc',rfl⟩:=i.rv'.shape;go_wp2_with (refine wpList_store_row rfl 35 (.tmp 2) (.tmp 5) rfl rfl w.heap.size rfl [za q,zj ha' ps.length hc',zj ra' rs.length rc'] [za 0,zc,zc] 35 rfl hb3 rfl zl (by simp[Value.oneCell']) ?_;intro r j b)
 have k:(loadVar 35 (zd w.heap.size)).run Tryz.prog r= .ok (.agg (List.toArray [za q,zj ha' ps.length hc',zj ra' rs.length rc'])) r:=nd _ _ _ _ [za q,zj ha' ps.length hc',zj ra' rs.length rc'] _ (zy j) Tryz.underlying35 rfl zl;refine mT (zH Tryz.results28 rfl k) rfl ?_;refine⟨q,_,_,ps,rs,rfl,(i.chg b zk).low zk,v,?_⟩;have g:zr 0 0 w m:=n.trans c;exact((g.step a (Or.inr (Or.inl zk)))).step b (Or.inr (Or.inl nlR))
def YN (sz st sq hd us:Int):Value:=if zQ sz st sq hd us then(if 0<us then Zl sz hd sq hd 0 else Zl sz st sq hd us) else Zl 0 0 0 0 0
theorem U9 {sz st sq hd us:Int}(h:zQ sz st sq hd us=true):0≤us:=by
 unfold zQ at h;rw[Bool.and_eq_true,pJ] at h;exact h.1.2.2.2.2.1
theorem Yu (w:World)(sz d b a c:Int):
  Calls Tryz.prog 13 #[Zl sz d b a c] w fun e w'=>e= .returned (YN sz d b a c)∧zr 0 0 w w':=by
 have i:zr 0 0 w ((w.alloc (Zb 30 sz d b a c)).alloc (Zb 30 0 0 0 0 0)):=(zr.al w).alloc _;obtain⟨z,l,m⟩:=zU w (Zb 30 sz d b a c) (Zb 30 0 0 0 0 0);go_enter Tryz.func13,Tryz.ntmps13;go_wp2_with fail;generalize (w.alloc (Zb 30 sz d b a c)).alloc (Zb 30 0 0 0 0 0)=w0 at*;refine(ZI _ sz d b a c).mono ?_;rintro e o ⟨rfl,h1⟩;have j:=(h1.bk w.heap.size).trans l;have k:=(h1.bk (w.heap.size+1)).trans m;have i:=i.trans h1
 have hs:=h1.size;clear h1 l m;obtain⟨⟨D,E,F,G,H⟩,p,q,r,s,t⟩:=Yr j;obtain⟨⟨I,J,K,L,M⟩,u,x,y,A,B⟩:=Yr k;have HA:Hid (zr 0 0 w o):=i;clear i j k;by_cases f:zQ sz d b a c=true
 case neg=>
  have g:Hid (YN sz d b a c=Zl 0 0 0 0 0):=by show _=_;unfold YN;rw[mN f]
  rw[pk] at f;rw[f];clear f;go_wp2;rw[g.out];exact bodyPost_ret (v:=Zl 0 0 0 0 0) (by simp[results,Tryz.results13,go_sem, *]) rfl ⟨rfl,by refine zr.setCell (zr.setCell (zr.setCell (zr.setCell (zr.setCell HA.out ?_ _) ?_ _) ?_ _) ?_ _) ?_ _<;>exact Or.inr (oH _)⟩
 have C:=U9 f;by_cases h:0<c
 ·have g:Hid (YN sz d b a c=Zl sz a b a 0):=by show _=_;unfold YN;rw[mM f,mM h]
  have n:(c !=0)=true:=by simp;omega
  rw[f];clear f;go_wp2;rw[g.out];exact bodyPost_ret (v:=Zl sz a b a 0) (by simp[results,Tryz.results13,go_sem, *]) rfl ⟨rfl,by refine zr.setCell (zr.setCell (zr.setCell (zr.setCell (zr.setCell (zr.setCell (zr.setCell HA.out ?_ _) ?_ _) ?_ _) ?_ _) ?_ _) ?_ _) ?_ _<;>refine Or.inr ?_<;>simp⟩
 ·have g:Hid (YN sz d b a c=Zl sz d b a c):=by show _=_;unfold YN;rw[mM f,mN h]
  obtain rfl:c=0:=zk;rw[f];clear f;go_wp2;rw[g.out];exact bodyPost_ret (v:=Zl sz d b a 0) (by simp[results,Tryz.results13,go_sem, *]) rfl ⟨rfl,by refine zr.setCell (zr.setCell (zr.setCell (zr.setCell (zr.setCell HA.out ?_ _) ?_ _) ?_ _) ?_ _) ?_ _<;>refine Or.inr ?_<;>simp⟩
theorem Tryz.infoByte:(Tryz.prog.info? 5).map (fun i=>(i.zero,i.size,i.bytes))=some (some (zb 0),1,1):=zl
theorem Vg (w:World)(n:Nat)(h1:1≤n)(h2:n≤2048):
  Calls Tryz.prog 60 #[za n] w fun e w'=> ∃k,e= .returned (.agg #[k,zj Option.none 0 0])∧zu w' w.heap.size 5 k (List.replicate (n*64) 0)∧zr 0 0 w w':=by
 obtain⟨i,hi,d,f,h⟩:=info_parts Tryz.infoByte;go_enter Tryz.func60,Tryz.ntmps60;go_wp2_with (at_make;refine wpList_make_full _ rfl _ _ 22 rfl w.heap.size 5 i (zb 0) 1 Tryz.underlying22 hi d f _ _ _ _ (n*64) rfl rfl zk zk (by rw[h];omega) (by unfold maxLen;omega) zn ?_);intro j b a;have l:j.heap[w.heap.size]?=some (zi #[zj Option.none 0 0,zj Option.none 0 0] 26):=
  (a.block w.heap.size zn zn).trans (zt _ _)
 obtain⟨c0,c1,p,q⟩:=zw l;have c:zr 0 0 w j:=(zr.al w).trans (zr.ofGrown a zn);have m:zu j w.heap.size 5 (zg (w.heap.size+1) (n*64) (n*64)) (List.replicate (n*64) 0):=by
  have:=b;unfold zu;simpa [toList_madeCells_one] using this
 clear b a l;go_wp2;refine bodyPost_ret (v:= .agg #[zg (w.heap.size+1) (n*64) (n*64),zj Option.none 0 0]) (by simp[results,Tryz.results60,go_sem,c0,c1]) rfl ⟨_,rfl,?_,?_⟩
 ·refine m.chg (zr.set2 _ _ _ _) ?_;intro g o;cases o;right;exact mP _
 ·exact c.step (zr.set2 _ _ _ _) (Or.inr (Or.inl nlR))
theorem Vi (xs ys:List Int)(o k:Nat)(a:k<ys.length:=by omega)(d:o+ys.length≤xs.length:=by omega):
  ((splice xs o (ys.take k)).map (Value.int .u8)).set (o+k) (zb (ys.getD k 0))=(splice xs o (ys.take (k+1))).map (Value.int .u8):=by
 have b:ys.getD k 0=ys[k]:=by simp[a]
 rw[←rT];congr 1;rw[b];unfold splice;have h1:(xs.take o).length=o:=by rw[mW];omega
 have h2:(ys.take k).length=k:=by rw[mW];omega
 rw[h2,sG,mN zk,h1,pI,sG,mN zk,h2,pf];have c:xs.drop (o+k)=xs[o+k]'zk::xs.drop (o+k+1):=by rw[tH]
 have h3:(ys.take (k+1)).length=k+1:=by rw[mW];omega
 rw[c,List.set_cons_zero,h3,oy a,nk];rfl
theorem N6 (w:World){b:Value}(xs ys:List Int)(qn:Nat)(h1:zu w base e (zg g xs.length cap) xs)(h2:zC w lo hi .u8 b ys)(t:ys.length=64)(P:qn*64+64≤xs.length)(Q:xs.length≤1048576)
  (E:g<lo∨hi≤g):
  Calls Tryz.prog 61 #[zg g xs.length cap,za qn,b] w fun r w'=>r= .returned (.tuple #[])∧zu w' base e (zg g xs.length cap) (splice xs (qn*64) ys)∧zr g (g+1) w w':=by
 obtain⟨G,B,rfl,_,_,D⟩:=h2;obtain⟨l,o,rfl,q,O,v⟩: ∃l o,G=some ⟨l,o,none⟩∧lo≤l∧l<hi∧ ∀i,i<ys.length→w.cell? ⟨l,o+i,none⟩=some (zb (ys.getD i 0)):=by
  rcases D with h|⟨l,o,e,a,b,c⟩
  ·rw[h] at t;simp at t
  ·exact⟨l,o,e,a,b,c⟩
 have L:l≠g:=zk;have p:Hid (∀i,i<ys.length→w.cell? ⟨l,o+i,none⟩=some (zb (ys.getD i 0))):=v;have y:Hid (ys.length=64):=t;have A:Hid (zu w base e (zg g xs.length cap) xs):=h1;have m:Hid (∀k,k≤64→(splice xs (qn*64) (ys.take k)).length=xs.length):=by
  intro k F;exact length_splice _ _ _ (by rw[mW];omega)
 rw[t];clear D v t h1;go_enter Tryz.func61,Tryz.ntmps61;go_wp2;go_loopw [6] (fun i wr=> ∃k:Nat,k≤64∧i=za k∧zu wr base e (zg g xs.length cap) (splice xs (qn*64) (ys.take k))∧zr g (g+1) w wr) (fun i _=>64-(intOf i).toNat)
 case atStart=>
  have e:splice xs (qn*64) (ys.take 0)=xs:=by simp[splice]
  exact⟨0,mX _,rfl,by rw[e];exact A,zr.refl _ _ _⟩
 case round=>
  obtain⟨k,F,rfl,f,j⟩:=hrel;have q:=m.out k F;have d:wr.ownsRow base e 1 (zg g xs.length cap) xs.length ((splice xs (qn*64) (ys.take k)).map (Value.int .u8)):=by
   have:=f;unfold zu at this;rw[q] at this;exact this
  by_cases K:k<64
  ·have C: ∃u,wr.cell? ⟨g,qn*64+k,none⟩=some u:=by
    have:=nA d (qn*64+k) zk;rw[this];exact⟨_,mZ (by rw[mO,q];omega)⟩
   obtain⟨u,C⟩:=C;have N:wr.frozen? ⟨g,qn*64+k,none⟩=false:=World.ownsRow.frozenAt d (qn*64+k);have z:=y.out;have M:=j.cell (p k zk);have n:=(World.ownsRow.stored d (qn*64+k) (zb (ys.getD k 0))).1;rw[Vi xs ys (qn*64) k] at n;have s:=m.out (k+1) zk;have HR:Hid (zu (wr.setCell ⟨g,qn*64+k,none⟩ (zb (ys.getD k 0))) base e (zg g xs.length cap) (splice xs (qn*64) (ys.take (k+1)))):=by
    show zu _ _ _ _ _;unfold zu;rw[s];exact n
   have HR2:Hid (zr g (g+1) w (wr.setCell ⟨g,qn*64+k,none⟩ (zb (ys.getD k 0)))):=j.setCell (Or.inl ⟨mP _,m5 _⟩) _;generalize ys.getD k 0=x at*;have J:(k:Int)<64:=zk;have H:(qn:Int)*64+(k:Int)<(xs.length:Int):=zk;have I:((qn:Int)*64+(k:Int)).toNat=qn*64+k:=zk;clear n f d q s j p z y m A;go_wp2;go_roundw
   case rel=>exact⟨k+1,zk,by go_num,HR.out,HR2.out⟩
   case measure=>simp[intOf];omega
  ·obtain rfl:k=64:=zk;have HR:Hid (zu wr base e (zg g xs.length cap) (splice xs (qn*64) ys)):=by
    have:=f;rw[ny (by rw[y.out];exact mP _)] at this;exact this
   clear f d q;go_wp2;go_end0;exact⟨rfl,HR,j⟩
theorem zu.slice_of (h:zu w base e v xs)(b:0<xs.length): ∃g cap,v=zg g xs.length cap:=by
 rcases h.2 with⟨_,h0⟩|⟨g,cap,a,e,_⟩
 ·omega
 ·exact⟨g,cap,e⟩
abbrev Na (b l n:Int):Value:= .agg #[za b,za l,za n]
abbrev plV (a b c d e f g:Int):Value:= .agg #[za a,za b,za c,za d,za e,za f,za g]
def upN (a b:Nat):Nat:=(a+(b-1))/b
theorem iw (w:World)(a:Nat)(g:a≤8192:=by omega):Calls Tryz.prog 102 #[za a,za 512] w fun e w'=>e= .returned (za (upN a 512))∧w'=w:=by
 have b:Hid (upN a 512=(a+511)/512):=rfl;go_enter Tryz.func102,Tryz.ntmps102;go_wp2;go_loopw [5] (fun x wr=>wr=w∧ ∃k:Nat,x=za k∧(k=0∨(k-1)*512<a)) (fun x _=>a-(intOf x).toNat*512)
 case atStart=>exact⟨rfl,0,rfl,Or.inl rfl⟩
 case round=>
  obtain⟨rfl,k,rfl,d⟩:=hrel;by_cases f:k*512<a
  ·have h1:(k:Int)*512<(a:Int):=zk;go_wp2;go_roundw
   case rel=>exact⟨trivial,k+1,by go_num,Or.inr zk⟩
   case measure=>simp[intOf];omega
  ·have h1: ¬(k:Int)*512<(a:Int):=zk;have h2:k≤17:=zk;have c:Hid (upN a 512=k):=by have:=b.out;show _=_;omega
   clear d;go_wp2;go_ret;exact⟨by rw[c.out];rfl,rfl⟩
theorem kT (w:World)(a:Nat)(g:a≤8192:=by omega):Calls Tryz.prog 102 #[za a,za 64] w fun e w'=>e= .returned (za (upN a 64))∧w'=w:=by
 have b:Hid (upN a 64=(a+63)/64):=rfl;go_enter Tryz.func102,Tryz.ntmps102;go_wp2;go_loopw [5] (fun x wr=>wr=w∧ ∃k:Nat,x=za k∧(k=0∨(k-1)*64<a)) (fun x _=>a-(intOf x).toNat*64)
 case atStart=>exact⟨rfl,0,rfl,Or.inl rfl⟩
 case round=>
  obtain⟨rfl,k,rfl,d⟩:=hrel;by_cases f:k*64<a
  ·have h1:(k:Int)*64<(a:Int):=zk;go_wp2;go_roundw
   case rel=>exact⟨trivial,k+1,by go_num,Or.inr zk⟩
   case measure=>simp[intOf];omega
  ·have h1: ¬(k:Int)*64<(a:Int):=zk;have h2:k≤130:=zk;have c:Hid (upN a 64=k):=by have:=b.out;show _=_;omega
   clear d;go_wp2;go_ret;exact⟨by rw[c.out];rfl,rfl⟩
theorem lh {a c d e f g a' b' c' d' e' f' g':Int}(h1:a=a')(h2:b=b')(h3:c=c')(h:d=d')(i:e=e')(j:f=f':=by omega)(k:g=g':=by omega):plV a b c d e f g=plV a' b' c' d' e' f' g':=by
 subst h1 h2 h3 h i j k;rfl
def Zf (b l n:Nat):Nat:=3+l+upN b 512+upN (n*32) 64
def YE (b l n:Nat):Value:=
 plV ((2+l:Nat):Int) ((3+l:Nat):Int) (upN b 512) ((3+l+upN b 512:Nat):Int) (upN (n*32) 64) (Zf b l n) ((b:Int)-Zf b l n)
theorem kz {a:Nat}(h:a≤8192:=by omega):upN a 512≤16:=by unfold upN;omega
theorem lD {a:Nat}(h:a≤8192:=by omega):upN a 64≤128:=by unfold upN;omega
theorem Xb (w:World)(b l n:Nat)(j:b≤2048)(k:l≤512)(o:n≤256):Calls Tryz.prog 59 #[Na b l n] w fun e w'=>e= .returned (YE b l n)∧zr 0 0 w w':=by
 have g:=kz (a:=b);have h:=lD (a:=n*32);obtain⟨p,c⟩: ∃m,Hid (upN b 512=m):=⟨_,rfl⟩;obtain⟨q,d⟩: ∃m,Hid (upN (n*32) 64=m):=⟨_,rfl⟩;rw[c.out] at g;rw[d.out] at h;go_enter Tryz.func59,Tryz.ntmps59;go_wp2_with fail;refine(iw _ b).mono ?_;rintro e i ⟨rfl,rfl⟩;rw[c.out];have f:=fun w:World=>kT w (n*32);rw[show((n*32:Nat):Int)=(n:Int)*32 by omega] at f;go_wp2_with fail;refine(f _).mono ?_;rintro e i ⟨rfl,rfl⟩
 rw[d.out];go_wp2;refine bodyPost_ret (v:=YE b l n) (by simp[results,Tryz.results59,go_sem];unfold YE Zf;rw[c.out,d.out];exact lh zk zk rfl zk rfl) rfl ⟨rfl,?_⟩;exact((zr.al w).alloc _).alloc _
theorem ia (w:World)(a b c d e f g:Int):(Instr.field 108 (.agg #[za a,za b,za c,za d,za e,za f,za g]) 6).run Tryz.prog w= .ok (za g) w:=by
 simp[Instr.field,run_underlying Tryz.underlying108,asAgg,part,isAgg,run_underlying Tryz.underlying2]
abbrev QR (b l n:Int):Prop:=16≤l∧l≤512∧1≤n∧n≤256∧1≤b∧b≤2048
def XC (b l n:Int):Bool:=decide (QR b l n)&&decide (Zf b.toNat l.toNat n.toNat<b.toNat)
theorem dF {b:Nat}(h:QR b l n):XC b l n=decide (Zf b l n<b):=by unfold XC;rw[mR h];simp
theorem N1 {l n:Int}(h: ¬QR b l n):XC b l n=false:=by unfold XC;rw[mY h];simp
theorem Xi (w:World)(b l n:Nat)(h1:16≤l:=by omega)(h2:l≤512:=by omega)(h3:1≤n:=by omega)(s:n≤256:=by omega)(E:1≤b:=by omega)(t:b≤2048:=by omega):
  Calls Tryz.prog 58 #[Na b l n] w fun e w'=>e= .returned (.bool (decide (Zf b l n<b)))∧zr 0 0 w w':=by
 have x: ¬((l:Int)<16):=zk;have y: ¬(512<(l:Int)):=zk;have z: ¬((n:Int)<1):=zk;have A: ¬(256<(n:Int)):=zk;have B: ¬((b:Int)<1):=zk;have C: ¬(2048<(b:Int)):=zk;have r:Hid (zr 0 0 w (w.alloc (zi #[za b,za l,za n] 64))):=zr.al w;have a:=Xb (w.alloc (zi #[za b,za l,za n] 64)) b l n t h2 s;obtain⟨d,f,g,h,i,j,o⟩: ∃d f g h i j,Hid (YE b l n= .agg #[za d,za f,za g,za h,za i,za j,za ((b:Int)-Zf b l n)]):=⟨_,_,_,_,_,_,rfl⟩
 rw[o.out] at a;have k:=fun W=>ia W d f g h i j ((b:Int)-Zf b l n);clear o;obtain⟨D,c⟩: ∃D,Hid (Zf b l n=D):=⟨_,rfl⟩;rw[c.out] at a k;go_enter Tryz.func58,Tryz.ntmps58;go_wp2_with fail;refine a.mono ?_;rintro e v ⟨rfl,q⟩;clear a;have m:Hid (zr 0 0 w v):=r.trans q;clear q;by_cases p:D<b
 ·have u:(1:Int)≤(b:Int)-(D:Int):=zk;go_wp2;go_ret;exact⟨by rw[c.out,mR p];rfl,m⟩
 ·have u: ¬(1:Int)≤(b:Int)-(D:Int):=zk;go_wp2;go_ret;exact⟨by rw[c.out,mY p,←mY (show¬(1:Int)≤(b:Int)-(D:Int) by omega)];rfl,m.out⟩
theorem JX (w:World)(b l n:Int)(c: ¬(16≤l∧l≤512∧1≤n∧n≤256∧1≤b∧b≤2048)):
  Calls Tryz.prog 58 #[Na b l n] w fun e w'=>e= .returned (.bool false)∧zr 0 0 w w':=by
 have a:Hid (zr 0 0 w (w.alloc (zi #[za b,za l,za n] 64))):=zr.al w;by_cases d:l<16
 ·clear c;go_enter Tryz.func58,Tryz.ntmps58;go_wp2;go_ret;exact⟨rfl,a⟩
 by_cases f:512<l
 ·clear c;go_enter Tryz.func58,Tryz.ntmps58;go_wp2;go_ret;exact⟨rfl,a⟩
 by_cases g:n<1
 ·clear c;go_enter Tryz.func58,Tryz.ntmps58;go_wp2;go_ret;exact⟨rfl,a⟩
 by_cases h:256<n
 ·clear c;go_enter Tryz.func58,Tryz.ntmps58;go_wp2;go_ret;exact⟨rfl,a⟩
 by_cases i:b<1
 ·clear c;go_enter Tryz.func58,Tryz.ntmps58;go_wp2;go_ret;exact⟨rfl,a⟩
 have j:2048<b:=zk;clear c;go_enter Tryz.func58,Tryz.ntmps58;go_wp2;go_ret;exact⟨rfl,a⟩
theorem jT (w:World)(b l n:Int):
  Calls Tryz.prog 58 #[Na b l n] w fun e w'=>e= .returned (.bool (XC b l n))∧zr 0 0 w w':=by
 by_cases h:QR b l n
 ·obtain⟨h1,h2,h3,a,c,d⟩:=id h;obtain⟨p,rfl⟩: ∃p:Nat,b=p:=⟨b.toNat,zk⟩;obtain⟨q,rfl⟩: ∃q:Nat,l=q:=⟨l.toNat,zk⟩;obtain⟨r,rfl⟩: ∃r:Nat,n=r:=⟨n.toNat,zk⟩;rw[dF h];exact Xi w p q r
 ·rw[N1 h];exact JX w b l n h
theorem lZ {s:Nat}{b c:Value}{t:TypeId}(h:w.heap[s]?=some (zi #[a,b,c] t)):
  w.cell? (zd s)=some a∧w.cell? ⟨s,1,none⟩=some b∧w.cell? ⟨s,2,none⟩=some c:=by
 simp[World.cell?,h]
def fsA (b l n:Int):List Int:= [102,115,121,115,1,0]++zx b 2++zx l 2++zx n 2++List.replicate 48 0
def fsL (b l n:Int):List Int:=fsA b l n++zx (Zy (fsA b l n)) 4
def Jy (b l n:Int):List Int:=if XC b l n=true then fsL b l n else []
theorem kP (b l n:Int):Byt (fsA b l n):=by
 intro x hx;unfold fsA at hx;simp only[nu] at hx;rcases hx with(((hx|hx)|hx)|hx)|hx
 ·simp at hx;omega
 ·exact qE _ _ x hx
 ·exact qE _ _ x hx
 ·exact qE _ _ x hx
 ·rw[rU hx];omega
theorem ij {l n:Int}(h:XC b l n=true):QR b l n:=by
 by_cases a:QR b l n
 ·exact a
 ·rw[N1 a] at h;cases h
theorem dD {l n:Int}(h:QR b l n):(fsA b l n).length=60:=by
 obtain⟨h1,h2,h3,a,c,d⟩:=h;unfold fsA;simp[pn2 (v:=b),pn2 (v:=l),pn2 (v:=n)]
theorem dE {l n:Int}(h:QR b l n):(fsL b l n).length=64:=by
 obtain⟨h0,h1⟩:=qP (fsA b l n);unfold fsL;rw[mL,dD h,pn4 h0 h1]
theorem Yf (w:World)(b l n:Int):
  Calls Tryz.prog 62 #[Na b l n] w fun e w'=> ∃v,e= .returned v∧zu w' w.heap.size 5 v (Jy b l n)∧zr 0 0 w w':=by
 have C0:zr 0 0 w (w.alloc (zi #[za b,za l,za n] 64)):=zr.al w;have B0:=zt w (zi #[za b,za l,za n] 64);have s0:(w.alloc (zi #[za b,za l,za n] 64)).heap.size=w.heap.size+1:=zn;have HB:Hid ((w.alloc (zi #[za b,za l,za n] 64)).heap[w.heap.size]?=some (zi #[za b,za l,za n] 64)):=B0;have HC:Hid (zr 0 0 w (w.alloc (zi #[za b,za l,za n] 64))):=C0;have hN:=jT (w.alloc (zi #[za b,za l,za n] 64)) b l n;clear C0 B0
 go_enter Tryz.func62,Tryz.ntmps62;go_wp2_with fail;generalize w.alloc (zi #[za b,za l,za n] 64)=w0 at*;refine hN.mono ?_;rintro e d ⟨rfl,h1⟩;have P:Hid (zr 0 0 w d):=HC.trans h1;have ai:Hid (d.heap[w.heap.size]?=some (zi #[za b,za l,za n] 64)):=h1.bt HB;have s1:=h1.size;clear h1 hN HB HC;by_cases J:XC b l n=true
 case neg=>
  have HE:Hid (Jy b l n= []):=by show _=_;unfold Jy;rw[mN J]
  have HO:Hid (zu (d.alloc (zi #[] 5)) w.heap.size 5 (zg d.heap.size 0 0) []):=zu.bnil d _;have aA:Hid (zr 0 0 w (d.alloc (zi #[] 5))):=P.alloc _;rw[Bool.not_eq_true] at J;rw[J];clear J;go_wp2;go_ret;exact⟨_,rfl,by rw[HE.out];exact HO,aA⟩
 have HE:Hid (Jy b l n=fsL b l n):=by show _=_;unfold Jy;rw[mM J]
 have Y:=ij J;have aW:Hid ((fsA b l n).length=60):=dD Y;have ap:Hid (Byt (fsA b l n)):=kP b l n;obtain⟨g1,g2,g3,g4,g5,g6⟩:=Y;have f:Hid ((zx b 2).length=2):=pn2;have i:Hid ((zx l 2).length=2):=pn2;have j:Hid ((zx n 2).length=2):=pn2;have HA:Hid (fsA b l n= [102,115,121,115,1,0]++zx b 2++zx l 2++zx n 2++List.replicate 48 0):=rfl;have HF:Hid (fsL b l n=fsA b l n++zx (Zy (fsA b l n)) 4):=rfl;have Z:=nK (base:=w.heap.size) (e:=5) (size:=1) d #[zb 102,zb 115,zb 121,zb 115,zb 1,zb 0] 6 zk (by unfold maxLen;omega) rfl
 have aC:Hid (zu (d.alloc (zi #[zb 102,zb 115,zb 121,zb 115,zb 1,zb 0] 5)) w.heap.size 5 (zg d.heap.size 6 6) [102,115,121,115,1,0]):=by
  show zu _ _ _ _ _;unfold zu;simpa using Z
 have Ca:zr 0 0 d (d.alloc (zi #[zb 102,zb 115,zb 121,zb 115,zb 1,zb 0] 5)):=zr.al d;have s2:(d.alloc (zi #[zb 102,zb 115,zb 121,zb 115,zb 1,zb 0] 5)).heap.size=d.heap.size+1:=zn;have aq:Hid (zr 0 0 w (d.alloc (zi #[zb 102,zb 115,zb 121,zb 115,zb 1,zb 0] 5))):=P.trans Ca;have M:Hid _:=Ca.bt ai;obtain⟨k0,k1,k2⟩:=lZ M;rw[J];go_wp2_with fail;generalize d.alloc (zi #[zb 102,zb 115,zb 121,zb 115,zb 1,zb 0] 5)=w2 at*
 obtain⟨x2,D⟩: ∃x:List Int,Hid (x= [102,115,121,115,1,0]):=⟨_,rfl⟩;have H:Hid (x2.length=6):=by show _=_;rw[D.out];rfl
 have aD:Hid (zu w2 w.heap.size 5 (zg d.heap.size 6 6) x2):=by rw[D.out];exact aC
 have a1:w.heap.size<w2.heap.size:=zk;have aH:=zX w2 b 2;refine aH.mono ?_;rintro e w3 ⟨v3,rfl,o3,h3⟩;have s3:=h3.size;have ad:=o3.seen (by rw[f.out];omega);obtain⟨g3,c3,rfl⟩:=o3.some_of (by rw[f.out];omega);rw[f.out] at ad;have u3:=(aD.seen (by rw[H.out];omega)).chg h3 zk;have ar:Hid _:=aq.trans h3;have aj:Hid _:=h3.bt M;have u:=qw (xs:=x2) (ys:=zx b 2) w3 (by rw[H.out];omega) (by rw[f.out];omega) u3 ad
 rw[f.out];go_wp2_with fail;refine u.mono ?_;rintro e w4 ⟨v4,rfl,o4,h4⟩;have s4:=h4.size;obtain⟨x4,aN⟩: ∃x:List Int,x=x2++zx b 2:=⟨_,rfl⟩;have E:Hid _:=aN;rw[←E.out] at o4;have k:Hid (x4.length=8):=by show _=_;rw[E.out,mL,H.out,f.out]
 have au:Hid _:=ar.trans h4;have N:Hid _:=h4.bt aj;have T:Hid (zu w4 w.heap.size 5 v4 x4):=o4.base (fun g y=>by have:=(o4.lt g y).1;omega);obtain⟨g4,c4,rfl⟩:=o4.some_of (by rw[k.out];omega);rw[k.out] at T;rw[k.out];obtain⟨k0,k1,k2⟩:=lZ N;go_wp2_with fail;have aI:=zX w4 l 2;refine aI.mono ?_;rintro e w5 ⟨v5,rfl,o5,h5⟩;have s5:=h5.size;have ae:=o5.seen (by rw[i.out];omega);obtain⟨g5,c5,rfl⟩:=o5.some_of (by rw[i.out];omega)
 rw[i.out] at ae;have u5:=(T.seen (by rw[k.out];omega)).chg h5 zk;have av:Hid _:=au.trans h5;have ak:Hid _:=h5.bt N;have u:=qw (xs:=x4) (ys:=zx l 2) w5 (by rw[k.out];omega) (by rw[i.out];omega) u5 ae;rw[i.out];go_wp2_with fail;refine u.mono ?_;rintro e w6 ⟨v6,rfl,o6,h6⟩;have s6:=h6.size;obtain⟨x6,aO⟩: ∃x:List Int,x=x4++zx l 2:=⟨_,rfl⟩;have F:Hid _:=aO;rw[←F.out] at o6;have m:Hid (x6.length=10):=by show _=_;rw[F.out,mL,k.out,i.out]
 have aw:Hid _:=av.trans h6;have O:Hid _:=h6.bt ak;have U:Hid (zu w6 w.heap.size 5 v6 x6):=o6.base (fun g y=>by have:=(o6.lt g y).1;omega);obtain⟨g6,c6,rfl⟩:=o6.some_of (by rw[m.out];omega);rw[m.out] at U;rw[m.out];obtain⟨k0,k1,k2⟩:=lZ O;go_wp2_with fail;have aJ:=zX w6 n 2;refine aJ.mono ?_;rintro e w7 ⟨v7,rfl,o7,h7⟩;have s7:=h7.size;have af:=o7.seen (by rw[j.out];omega);obtain⟨g7,c7,rfl⟩:=o7.some_of (by rw[j.out];omega)
 rw[j.out] at af;have u7:=(U.seen (by rw[m.out];omega)).chg h7 zk;have ax:Hid _:=aw.trans h7;have am:Hid _:=h7.bt O;have u:=qw (xs:=x6) (ys:=zx n 2) w7 (by rw[m.out];omega) (by rw[j.out];omega) u7 af;rw[j.out];go_wp2_with fail;refine u.mono ?_;rintro e w8 ⟨v8,rfl,o8,h8⟩;have s8:=h8.size;obtain⟨x8,aP⟩: ∃x:List Int,x=x6++zx n 2:=⟨_,rfl⟩;have G:Hid _:=aP;rw[←G.out] at o8;have o:Hid (x8.length=12):=by show _=_;rw[G.out,mL,m.out,j.out]
 have ay:Hid _:=ax.trans h8;have an:Hid _:=h8.bt am;have V:Hid (zu w8 w.heap.size 5 v8 x8):=o8.base (fun g y=>by have:=(o8.lt g y).1;omega);obtain⟨g8,c8,rfl⟩:=o8.some_of (by rw[o.out];omega);rw[o.out] at V;rw[o.out];go_wp2_with fail;have Hz:Hid ((List.replicate 48 (0:Int)).length=48):=by show _=_;rw[nC]
 have aK:=qS w8 48;refine aK.mono ?_;rintro e w9 ⟨gz,rfl,o9,h9⟩;have s9:=h9.size;have aT:=o9.seen (by rw[Hz.out];omega);have u9:=(V.seen (by rw[o.out];omega)).chg h9 zk;have az:Hid _:=ay.trans h9;have ao:Hid _:=h9.bt an;have u:=qw (xs:=x8) (ys:=(List.replicate 48 0)) w9 (by rw[o.out];omega) (by rw[Hz.out];omega) u9 aT;go_wp2_with fail;refine u.mono ?_;rintro e K ⟨aR,rfl,z,I⟩;have a2:=I.size;obtain⟨c,aa⟩: ∃x:List Int,x=x8++(List.replicate 48 0):=⟨_,rfl⟩
 have q:Hid _:=aa;rw[←q.out] at z;have a:Hid (c.length=60):=by show _=_;rw[q.out,mL,o.out,Hz.out]
 have Q:Hid _:=az.trans I;have L:Hid _:=I.bt ao;have p:Hid (zu K w.heap.size 5 aR c):=z.base (fun g y=>by have:=(z.lt g y).1;omega);obtain⟨aZ,aX,rfl⟩:=z.some_of (by rw[a.out];omega);rw[a.out] at p;rw[a.out];have W:Hid (c=fsA b l n):=by show _=_;rw[HA.out,q.out,G.out,F.out,E.out,D.out]
 have HY:Hid (Byt c):=by rw[W.out];exact ap
 obtain⟨aL,aM⟩:=qP c;have h:Hid _:=pn4 aL aM;have hN:=Q8 K HY (p.seen (by rw[a.out];omega));have aB:Hid (Jy b l n=c++zx (Zy c) 4):=by show _=_;rw[HE.out,HF.out,W.out]
 generalize Zy c=cv at*;go_wp2_with fail;refine hN.mono ?_;rintro e wq ⟨rfl,hq⟩;subst wq;go_wp2_with fail;have X:=zX K cv 4;refine X.mono ?_;rintro e aU ⟨a4,rfl,ac,t⟩;have a3:=t.size;have C:=ac.seen (by rw[h.out];omega);obtain⟨a0,aY,rfl⟩:=ac.some_of (by rw[h.out];omega);rw[h.out] at C;have aQ:=(p.seen (by rw[a.out];omega)).chg t zk;have R:Hid _:=Q.trans t;have aV:Hid _:=t.bt L;have u:=qw (xs:=c) (ys:=zx cv 4) aU (by rw[a.out];omega) (by rw[h.out];omega) aQ C
 rw[h.out];go_wp2_with fail;refine u.mono ?_;rintro e ag ⟨aS,rfl,A,aG⟩;obtain⟨ah,ab⟩: ∃x:List Int,x=c++zx cv 4:=⟨_,rfl⟩;have r:Hid _:=ab;rw[←r.out] at A;have s:Hid (ah.length=64):=by show _=_;rw[r.out,mL,a.out,h.out]
 have S:Hid _:=R.trans aG;have B:Hid (zu ag w.heap.size 5 aS ah):=A.base (fun g y=>by have:=(A.lt g y).1;omega);obtain⟨aF,aE,rfl⟩:=A.some_of (by rw[s.out];omega);rw[s.out] at B;rw[s.out];have HR:Hid (zu ag w.heap.size 5 (zg aF 64 aE) (Jy b l n)):=by rw[aB.out,←r.out];exact B
 go_wp2;go_ret;exact⟨_,rfl,HR,S⟩
def bq (xs:List Int) (m:Nat):Bool:=decide ((xs.getD (m/8) 0).toNat/2^ (m % 8) % 2=1)
abbrev XH (xs:List Int) (i:Int):Prop:=xs.length≤2048∧0≤i∧i<8*(xs.length:Int)
def eE (xs:List Int) (i:Int):Bool:=decide (XH xs i)&&bq xs i.toNat
theorem dz {m:Nat}(h:XH xs m):eE xs m=bq xs m:=by unfold eE;rw[mR h];simp
theorem gH {i:Int}(h: ¬XH xs i):eE xs i=false:=by unfold eE;rw[mY h];simp
theorem Ve (w:World)(xs:List Int)(m:Nat)(b l cap:Nat)(q:Byt xs)(I:xs.length≤2048)(J:m<8*xs.length)
  (h1: ∀i,i<xs.length→w.cell? ⟨b,l+i,none⟩=some (zb (xs.getD i 0))):
  Calls Tryz.prog 103 #[zj (some ⟨b,l,none⟩) xs.length cap,za m] w fun e w'=>e= .returned (.bool (bq xs m))∧w'=w:=by
 have u:=h1 (m/8) zk;have x:=q.getD (m/8);have a:Hid (∀y:Nat,xs.getD (m/8) 0=y→bq xs m=decide (y/2^ (m % 8) % 2=1)):=by intro y h;unfold bq;rw[h];rfl
 obtain⟨y,h⟩: ∃y:Nat,xs.getD (m/8) 0=y:=⟨(xs.getD (m/8) 0).toNat,zk⟩;have c:Hid (bq xs m=decide (y/2^ (m % 8) % 2=1)):=a.out y h;rw[h] at u x;have L:((m/8:Nat):Int)<(xs.length:Int):=zk;have E: ¬(2048:Int)<(xs.length:Int):=zk;have F: ¬((m:Int))<0:=zk;have G: ¬8*(xs.length:Int)≤(m:Int):=zk;have C:m % 8<8:=zk;clear h1 h a q;go_enter Tryz.func103,Tryz.ntmps103;go_wp2;obtain⟨r,p⟩: ∃r:Nat,Hid (m % 8=r):=⟨_,rfl⟩
 have f:((m:Int) % 8)=(r:Int):=by have:=p.out;omega
 rw[f];rw[p.out] at c C;clear f;go_loopw [5,6] (fun v k wr=>wr=w∧ ∃j:Nat,j≤r∧k=za ((r-j:Nat):Int)∧v=zb ((y/2^j:Nat):Int)) (fun _ k _=>(intOf k).toNat)
 case atStart=>exact⟨rfl,0,mX _,zn,zn⟩
 case round=>
  obtain⟨rfl,j,H,rfl,rfl⟩:=hrel;have D:y/2^j<256:=Nat.lt_of_le_of_lt (ss _ _) zk;have hs:y/2^j/2=y/2^ (j+1):=by rw[tp,rY]
  by_cases B:j<r
  ·have K:(0:Int)<((r-j:Nat):Int):=zk;have t:Hid (y/2^j/2=y/2^ (j+1)):=hs;clear hs;generalize y/2^j=z at*;generalize g:r-j=d at*;have s:Hid (r-j=d):=g;have A:d≤8:=zk;clear g;go_wp2;go_roundw
   case rel=>exact⟨trivial,j+1,zk,by have:=s.out;congr 1;omega,by rw[←t.out];go_num⟩
   case measure=>simp[intOf];omega
  ·obtain rfl:j=r:=zk;rw[pf] at*;clear hs;generalize y/2^j=z at*;by_cases n:z % 2=1
   ·have o:((z:Int) % 2==1)=true:=by simp;omega
    rw[mR n] at c;clear n;go_wp2;go_ret;exact⟨by rw[c.out];rfl,rfl⟩
   ·have o:((z:Int) % 2==1)=false:=by simp;omega
    rw[mY n] at c;clear n;go_wp2;go_ret;exact⟨by rw[c.out];rfl,rfl⟩
theorem Um (w:World)(n:Nat)(b:Option Addr)(cap:Nat)(i:Int)(c:n≤1048576)(a: ¬(n≤2048∧0≤i∧i<8*(n:Int))):
  Calls Tryz.prog 103 #[zj b n cap,za i] w fun e w'=>e= .returned (.bool false)∧w'=w:=by
 by_cases h0:n≤2048
 ·by_cases h1:i<0
  ·go_enter Tryz.func103,Tryz.ntmps103;go_wp2;go_ret;exact⟨rfl,rfl⟩
  ·have h2:8*(n:Int)≤i:=zk;clear a;go_enter Tryz.func103,Tryz.ntmps103;go_wp2;go_ret;exact⟨rfl,rfl⟩
 ·have h1:(2048:Int)<(n:Int):=zk;clear a;go_enter Tryz.func103,Tryz.ntmps103;go_wp2;go_ret;exact⟨rfl,rfl⟩
theorem Ki (w:World)(i:Int)(f:Byt xs)(g:xs.length≤1048576)(h1:zC w lo hi .u8 a xs):
  Calls Tryz.prog 103 #[a,za i] w fun e w'=>e= .returned (.bool (eE xs i))∧w'=w:=by
 obtain⟨d,cap,rfl,_,_,h1⟩:=h1;by_cases b:XH xs i
 ·obtain⟨m,rfl⟩: ∃m:Nat,i=m:=⟨i.toNat,by have:=b.2.1;omega⟩;rw[dz b];have h3:=b.2.2;rcases h1 with rfl|⟨x,c,rfl,_,_,h1⟩
  ·simp at h3;omega
  ·exact Ve w xs m x c cap f b.1 zk h1
 ·rw[gH b];exact Um w xs.length d cap i g b
def Zu (x:Int) (r:Nat) (on:Bool):Int:=
 if decide (x.toNat/2^r % 2=1)=on then x else if on then x+2^r else x-2^r
def Qy (xs:List Int) (i:Int) (on:Bool):List Int:=if XH xs i then xs.set (i.toNat/8) (Zu (xs.getD (i.toNat/8) 0) (i.toNat % 8) on) else []
theorem Ym {m:Nat}(h:XH xs m):Qy xs m on=xs.set (m/8) (Zu (xs.getD (m/8) 0) (m % 8) on):=by unfold Qy;rw[mM h];simp
theorem gI {i:Int}(h: ¬XH xs i):Qy xs i on= []:=by unfold Qy;rw[mN h]
theorem aP (b:x<256)(a:r<8)(h: ¬x/2^r % 2=1):x+2^r<256:=by
 match r,a with
 |0,_|1,_|2,_|3,_|4,_|5,_|6,_|7,_=>simp at h⊢;omega
theorem VE (a:r<8)(h:x/2^r % 2=1):2^r≤x:=by
 match r,a with
 |0,_|1,_|2,_|3,_|4,_|5,_|6,_|7,_=>simp at h⊢;omega
theorem fD (a:r<8):2^r≤128:=by
 match r,a with
 |0,_|1,_|2,_|3,_|4,_|5,_|6,_|7,_=>simp
theorem Ey (h: ¬x/2^r % 2=1):Zu x r true=((x+2^r:Nat):Int):=by unfold Zu;rw[mN (by simpa using h)];simp
theorem KM (a:r<8)(h:x/2^r % 2=1):Zu x r false=((x-2^r:Nat):Int):=by
 have:=VE a h;unfold Zu;rw[mN (by simpa using h),Int.ofNat_sub this];simp
theorem Xf (h:decide (x/2^r % 2=1)=on):Zu x r on=x:=by unfold Zu;rw[mM (by simpa using h)]
theorem zu.at (h:zu w base e v xs)(d:0<xs.length): ∃g cap,v=zg g xs.length cap∧base≤g∧g<w.heap.size:=by
 have b:=h.lt;obtain⟨_,h2⟩:=h;rcases h2 with⟨_,h0⟩|⟨g,cap,a,rfl,c,_⟩
 ·omega
 ·exact⟨g,cap,rfl,c,(b g rfl).2⟩
theorem zu.putAt (h:zu w base e (zg g n cap) xs)(a:xs.length=n)(i:Nat)(x:Int):
  zu (w.setCell ⟨g,i,none⟩ (zb x)) base e (zg g n cap) (xs.set i x):=by
 subst a;have:=(World.ownsRow.stored h i (zb x)).1;unfold zu at*;rw[ou,rT];exact this
theorem Vf (w:World)(xs:List Int)(m:Nat)(C:Bool)(lo hi b o cap:Nat)(L:Byt xs)(hl:xs.length≤2048)(hm:m<8*xs.length)
  (G:zC w lo hi .u8 (zj (some ⟨b,o,none⟩) xs.length cap) xs):
  Calls Tryz.prog 64 #[zj (some ⟨b,o,none⟩) xs.length cap,za m,.bool C] w fun e w'=> ∃v,e= .returned v∧zu w' w.heap.size 5 v (xs.set (m/8) (Zu (xs.getD (m/8) 0) (m % 8) C))∧zr 0 0 w w':=by
 have X:=L.getD (m/8);obtain⟨y,B⟩: ∃y:Nat,xs.getD (m/8) 0=y:=⟨(xs.getD (m/8) 0).toNat,zk⟩;have J:Hid (eE xs m=decide (y/2^ (m % 8) % 2=1)):=by show _=_;rw[dz ⟨hl,zk,zk⟩];unfold bq;rw[B];rfl
 have U:Hid (zC w lo hi .u8 (zj (some ⟨b,o,none⟩) xs.length cap) xs):=G;have K:Hid (xs.getD (m/8) 0=y):=B;rw[B] at X⊢;have hq:((m/8:Nat):Int)<(xs.length:Int):=zk;have e1: ¬(2048:Int)<(xs.length:Int):=zk;have e2: ¬((m:Int))<0:=zk;have e3: ¬8*(xs.length:Int)≤(m:Int):=zk;have s:m % 8<8:=zk;have M:=Zr w zk G;clear B G;go_enter Tryz.func64,Tryz.ntmps64;go_wp2_with fail;refine M.mono ?_;rintro e w1 ⟨v,rfl,I,O⟩
 have x:Hid (zr 0 0 w w1):=O;obtain⟨g,f,rfl,Z,aa⟩:=I.at zk;have q:Hid (zu w1 w.heap.size 5 (zg g xs.length f) xs):=I;clear M I O;obtain⟨r,n⟩: ∃r:Nat,Hid (m % 8=r):=⟨_,rfl⟩;have H:((m:Int) % 8)=(r:Int):=by have:=n.out;omega
 rw[n.out] at J s;have Q:m % 8=r:=n.out;have ac:=fD s;have S:Hid (y/2^r % 2=1→2^r≤y):=fun h=>VE s h;have T:Hid (¬y/2^r % 2=1→y+2^r<256):=fun h=>aP zk s h;have C1:w1.cell? ⟨g,m/8,none⟩=some (zb y):=by
  have:=nA q (m/8) zk;rw[this,nU];have e:xs[m/8]?=some (y:Int):=by
   have:=K.out;rw[mV] at this;rw[mZ zk] at this⊢;exact congrArg some this
  rw[e];rfl
 have C2:w1.frozen? ⟨g,m/8,none⟩=false:=World.ownsRow.frozenAt q (m/8);have A:=Ki w1 m L zk (U.chg x zk);rw[J.out] at A;have HS:Hid (∀z:Nat,zu (w1.setCell ⟨g,m/8,none⟩ (zb z)) w.heap.size 5 (zg g xs.length f) (xs.set (m/8) z)):=fun z=>q.putAt rfl (m/8) z;have p:Hid (∀z:Nat,zr 0 0 w (w1.setCell ⟨g,m/8,none⟩ (zb z))):=fun z=>x.setCell (Or.inr Z) _;have c:Hid (xs.set (m/8) (y:Int)=xs):=by
  show _=_;refine rC fun i=>?_;by_cases e:i=m/8
  ·subst e;rw[tG zk];have:=K.out;rw[mV,mZ zk] at this;rw[mZ zk];exact congrArg some this.symm
  ·rw[pS (fun h=>e h.symm)]
 go_wp2;generalize N:2^r=P at*;have l:Hid (2^r=P):=N;clear N;go_loopw [8,9] (fun u k wr=>wr=w1∧ ∃j:Nat,j≤r∧k=za ((r-j:Nat):Int)∧u=zb ((2^j:Nat):Int)) (fun _ k _=>(intOf k).toNat)
 case atStart=>exact⟨rfl,0,mX _,by rw[H];simp,zn⟩
 case round=>
  obtain⟨rfl,j,hj,rfl,rfl⟩:=hrel;by_cases ab:j<r
  ·have hp:(0:Int)<((r-j:Nat):Int):=zk;have hz:2^j≤64:=by
    have:j<7:=zk
    match j,this with
    |0,_|1,_|2,_|3,_|4,_|5,_|6,_=>simp
   have W:Hid (2^j*2=2^ (j+1)):=(rY 2 j).symm;generalize 2^j=z at*;generalize t:r-j=d at*;have V:Hid (r-j=d):=t;have Y:d≤8:=zk;clear t A;go_wp2;go_roundw
   case rel=>exact⟨trivial,j+1,zk,by have:=V.out;congr 1;omega,by rw[←W.out];go_num⟩
   case measure=>simp[intOf];omega
  ·obtain rfl:j=r:=zk;rw[pf,l.out];go_wp2_with fail;refine A.mono ?_;rintro e w2 ⟨rfl,rfl⟩;clear A;by_cases a:y/P % 2=1
   ·have F:P≤y:=S.out a;have E:Hid (Zu y j false=((y-P:Nat):Int)):=by show _=_;rw[←l.out];exact KM s (by rw[l.out];exact a)
    have D:Hid (Zu y j true=(y:Int)):=Xf (by rw[l.out];simpa using a);rw[mR a];clear a
    cases C with
    |true=>
     go_wp2;go_ret;exact⟨_,rfl,by rw[n.out,D.out,c.out];exact q,x⟩
    |false=>
     have R:(y:Int)-(P:Int)=((y-P:Nat):Int):=zk;go_wp2;go_ret;refine⟨_,rfl,by rw[n.out,E.out];exact HS _,p _⟩
   ·have F:y+P<256:=T.out a;have E:Hid (Zu y j true=((y+P:Nat):Int)):=by show _=_;rw[←l.out];exact Ey (by rw[l.out];exact a)
    have D:Hid (Zu y j false=(y:Int)):=Xf (by rw[l.out];simpa using a);rw[mY a];clear a
    cases C with
    |true=>
     go_wp2;go_ret;refine⟨_,rfl,by rw[n.out,E.out];exact HS _,p _⟩
    |false=>
     go_wp2;go_ret;exact⟨_,rfl,by rw[n.out,D.out,c.out];exact q,x⟩
theorem Un (w:World)(n:Nat)(d:Option Addr)(cap:Nat)(i:Int)(f:Bool)(g:n≤1048576)(c: ¬(n≤2048∧0≤i∧i<8*(n:Int))):
  Calls Tryz.prog 64 #[zj d n cap,za i,.bool f] w fun e w'=> ∃v,e= .returned v∧zu w' w.heap.size 5 v []∧zr 0 0 w w':=by
 have a:Hid (zu (w.alloc (zi #[] 5)) w.heap.size 5 (zg w.heap.size 0 0) []):=
  ⟨rfl,Or.inr ⟨w.heap.size,0,#[],rfl,mP _,zt w _,mP _,mX _,rfl,rfl⟩⟩
 have b:Hid (zr 0 0 w (w.alloc (zi #[] 5))):=zr.al w;by_cases h0:n≤2048
 ·by_cases h1:i<0
  ·go_enter Tryz.func64,Tryz.ntmps64;go_wp2;go_ret;exact⟨_,rfl,a,b⟩
  ·have h2:8*(n:Int)≤i:=zk;clear c;go_enter Tryz.func64,Tryz.ntmps64;go_wp2;go_ret;exact⟨_,rfl,a,b⟩
 ·have h1:(2048:Int)<(n:Int):=zk;clear c;go_enter Tryz.func64,Tryz.ntmps64;go_wp2;go_ret;exact⟨_,rfl,a,b⟩
theorem Jo (w:World)(i:Int)(c:Bool)(g:Byt xs)(j:xs.length≤1048576)(h1:zC w lo hi .u8 a xs):
  Calls Tryz.prog 64 #[a,za i,.bool c] w fun e w'=> ∃v,e= .returned v∧zu w' w.heap.size 5 v (Qy xs i c)∧zr 0 0 w w':=by
 have h:=h1;obtain⟨f,cap,rfl,_,_,h1⟩:=h1;by_cases b:XH xs i
 ·obtain⟨m,rfl⟩: ∃m:Nat,i=m:=⟨i.toNat,by have:=b.2.1;omega⟩;rw[Ym b];have h3:=b.2.2;rcases h1 with rfl|⟨x,d,rfl,_,_,h1⟩
  ·simp at h3;omega
  ·exact Vf w xs m c lo hi x d cap g b.1 zk h
 ·rw[gI b];exact Un w xs.length f cap i c j b
structure Ino where
 kind:Int
 links:Int
 size:Int
 dir:List Int
 ind:Int
abbrev kS (i:Ino) (ao:Option Addr) (cap:Nat):Value:= .agg #[za i.kind,za i.links,za i.size,zj ao i.dir.length cap,za i.ind]
abbrev Nd (t:TypeId) (i:Ino) (ao:Option Addr) (cap:Nat):Obj:= .cells #[za i.kind,za i.links,za i.size,zj ao i.dir.length cap,za i.ind] t
theorem Xs {s:Nat}{b c d e:Value}{t:TypeId}(h:w.heap[s]?=some (zi #[a,b,c,d,e] t)):
  (w.cell? (zd s)=some a∧w.cell? ⟨s,1,none⟩=some b∧w.cell? ⟨s,2,none⟩=some c∧w.cell? ⟨s,3,none⟩=some d∧w.cell? ⟨s,4,none⟩=some e)∧
   w.frozen? (zd s)=false∧w.frozen? ⟨s,1,none⟩=false∧w.frozen? ⟨s,2,none⟩=false∧w.frozen? ⟨s,3,none⟩=false∧w.frozen? ⟨s,4,none⟩=false:=by
 simp[World.cell?,World.frozen?,h]
abbrev n5:= @Bool.eq_false_iff
def J6 (x:Int):Bool:=decide (0≤x)&&decide (x<2048)
theorem QF {x:Int}:J6 x=true↔0≤x∧x<2048:=by unfold J6;simp
def jR (i:Ino):List Int:=i.dir++ [i.ind]
def jz (i:Ino) (k:Nat):Prop:=if i.size≤(k:Int)*64 then(jR i).getD k 0=0 else i.kind=1∨(jR i).getD k 0≠0
def ZW (xs:List Int):Nat→Int
 |0=>0
 |k+1=>ZW xs k+xs.getD k 0
def Xo (i:Ino):Prop:=i.dir.length=8∧0≤i.size∧i.size≤2560∧0≤i.links∧i.links≤8
def Yk (i:Ino):Prop:=(i.kind=1∨(i.kind=2∧i.links=1∧i.size % 16=0)∨(i.kind=3∧1≤i.size∧i.size≤240))∧(∀k,k<9→jz i k)∧(1≤i.links∨i.kind=1)
def gx (i:Ino):Prop:=Xo i∧(∀x∈jR i,J6 x=true)∧if i.kind=0 then i.size+i.links+ZW (jR i) 9=0 else Yk i
def ZU (i:Ino):Bool:=decide ((i.dir.length=8∧0≤i.size∧i.size≤2560∧0≤i.links∧i.links≤8)∧(∀x∈jR i,J6 x=true)∧if i.kind=0 then i.size+i.links+ZW (jR i) 9=0 else (i.kind=1∨(i.kind=2∧i.links=1∧i.size % 16=0)∨(i.kind=3∧1≤i.size∧i.size≤240))∧(∀k:Nat,k<9→if i.size≤(k:Int)*64 then(jR i).getD k 0=0 else i.kind=1∨(jR i).getD k 0≠0)∧(1≤i.links∨i.kind=1))
theorem ZUi {i:Ino}:ZU i=true↔gx i:=decide_eq_true_iff
theorem VK {i:Ino}(h: ¬gx i):ZU i=false:=by rw[Bool.eq_false_iff];exact fun e=>h (ZUi.1 e)
theorem km (h: ∀x∈xs,J6 x=true): ∀k,k≤xs.length→0≤ZW xs k∧ZW xs k≤2048*k:=by
 intro k
 induction k with
 |zero=>intro _;exact⟨pd _,pd _⟩
 |succ k ih=>
  intro a;have h1:=ih zk;have h2:=QF.1 (h (xs.getD k 0) (by rw[mV,mZ zk];exact nj zk));unfold ZW;omega
theorem Nz (w:World)(i:Ino)(d:Option Addr)(cap:Nat)(o:i.dir.length≤1048576)(g: ¬(i.dir.length=8∧0≤i.size∧i.size≤2560∧0≤i.links∧i.links≤8)):
  Calls Tryz.prog 104 #[kS i d cap] w fun e w'=>e= .returned (.bool false)∧zr 0 0 w w':=by
 have b:Hid (zr 0 0 w (w.alloc (Nd 117 i d cap))):=zr.al w;obtain⟨K,L,Z,c,I⟩:=i;simp only at*;by_cases f:c.length=8
 ·have j:((c.length:Int) !=8)=false:=by simp;omega
  have a: ¬(0≤Z∧Z≤2560∧0≤L∧L≤8):=fun h=>g ⟨f,h⟩;clear g f;by_cases k:Z<0
  ·clear a;go_enter Tryz.func104,Tryz.ntmps104;go_wp2;go_ret;exact⟨rfl,b⟩
  by_cases l:2560<Z
  ·clear a;go_enter Tryz.func104,Tryz.ntmps104;go_wp2;go_ret;exact⟨rfl,b⟩
  by_cases m:L<0
  ·clear a;go_enter Tryz.func104,Tryz.ntmps104;go_wp2;go_ret;exact⟨rfl,b⟩
  have n:8<L:=zk;go_enter Tryz.func104,Tryz.ntmps104;go_wp2;go_ret;exact⟨rfl,b⟩
 ·have j:((c.length:Int) !=8)=true:=by simp;omega
  go_enter Tryz.func104,Tryz.ntmps104;go_wp2;go_ret;exact⟨rfl,b⟩
theorem cX (w:World)(i:Ino)(u:Option Addr)(cap:Nat)(W:Xo i)(hV:zC w lo hi .i64 (zj u i.dir.length cap) i.dir):
  Calls Tryz.prog 104 #[kS i u cap] w fun e w'=>e= .returned (.bool (ZU i))∧zr 0 0 w w':=by
 obtain⟨d8,z0,z1,l0,l1⟩:=id W;have HH:Hid (Xo i):=W;have A:Hid ((jR i).length=9):=by show _=_;unfold jR;simp[d8]
 have Q:Hid (jR i=i.dir++ [i.ind]):=rfl;have HP:Hid (gx i↔Xo i∧(∀x∈jR i,J6 x=true)∧if i.kind=0 then i.size+i.links+ZW (jR i) 9=0 else Yk i):=Iff.rfl;have d:Hid (Yk i↔ (i.kind=1∨(i.kind=2∧i.links=1∧i.size % 16=0)∨(i.kind=3∧1≤i.size∧i.size≤240))∧(∀k,k<9→jz i k)∧(1≤i.links∨i.kind=1)):=Iff.rfl;have t:Hid (∀k,jz i k↔if i.size≤(k:Int)*64 then(jR i).getD k 0=0 else i.kind=1∨(jR i).getD k 0≠0):=fun k=>Iff.rfl
 have HB:Hid ((w.alloc (Nd 117 i u cap)).heap[w.heap.size]?=some (zi #[za i.kind,za i.links,za i.size,zj u i.dir.length cap,za i.ind] 117)):=zt w _;have s0:(w.alloc (Nd 117 i u cap)).heap.size=w.heap.size+1:=zn;have R:Hid (zr 0 0 w ((w.alloc (Nd 117 i u cap)).alloc (zi #[] 2))):=(zr.al w).alloc _;have ac:Hid (zM ((w.alloc (Nd 117 i u cap)).alloc (zi #[] 2)) (w.heap.size+1) 2 (zg (w.heap.size+1) 0 0) []):=by
  have:=zM.none0 (w.alloc (Nd 117 i u cap));rw[s0] at this;exact this
 have Z:Hid _:=((zr.alloc (zr.refl 0 0 (w.alloc (Nd 117 i u cap))) (zi #[] 2)).bk w.heap.size).trans HB;have ae:Hid (zC ((w.alloc (Nd 117 i u cap)).alloc (zi #[] 2)) lo hi .i64 (zj u i.dir.length cap) i.dir):=hV.chg R zk;have s1:((w.alloc (Nd 117 i u cap)).alloc (zi #[] 2)).heap.size=w.heap.size+2:=zn;have G:Hid (i.dir.length=8):=d8;have ay:((i.dir.length:Int) !=8)=false:=by simp;omega
 have e2: ¬i.size<0:=zk;have e3: ¬2560<i.size:=zk;have e4: ¬i.links<0:=zk;have e5: ¬8<i.links:=zk;have az:i.dir.length≤8:=zk;clear hV d8 W;go_enter Tryz.func104,Tryz.ntmps104;go_wp2_with (at_builtin;refine JU rfl (.tmp 33) (.tmp 35) rfl (w.heap.size+1) _ [] rfl ac.out zn _ _ _ i.dir rfl ae.out (by rw[G.out];omega) (by rw[G.out];simp) ?_);intro v1 F o1 M;have Y:F.heap[w.heap.size]?=some (zi #[za i.kind,za i.links,za i.size,zj u i.dir.length cap,za i.ind] 117):=(M.bk w.heap.size (by simp;omega)).trans Z
 have S:Hid _:=R.step M (Or.inr (Or.inl zk));have aE:=S.size;have zz:=(zE Y);obtain⟨g1,ag,rfl,aA,au⟩:=o1.at (by rw[G.out];omega);obtain⟨⟨x0,x1,x2,x3,x4⟩,_⟩:=Xs Y;have ab:Hid (zr 0 0 w (F.alloc (zi #[za i.ind] 2))):=S.alloc _;have ad:Hid (zM (F.alloc (zi #[za i.ind] 2)) (w.heap.size+1) 2 (zg g1 i.dir.length ag) i.dir):=o1.chg ((zr.refl 0 0 F).alloc _) (by intro g _;omega);have aa:Hid ((F.alloc (zi #[za i.ind] 2)).heap[w.heap.size]?=some (zi #[za i.kind,za i.links,za i.size,zj u i.dir.length cap,za i.ind] 117)):=((zr.al F).bk w.heap.size zz).trans Y
 have af:Hid (zC (F.alloc (zi #[za i.ind] 2)) 0 (F.heap.size+1) .i64 (zg F.heap.size 1 1) [i.ind]):=by
  refine⟨_,1,rfl,zn,⟨zn,zn⟩,Or.inr ⟨F.heap.size,0,rfl,mX _,zk,fun j r=>?_⟩⟩;obtain rfl:j=0:=by simpa using r
  have W:=zt F (zi #[za i.ind] 2);simp only[World.cell?,W];rfl
 go_wp2_with (at_builtin;refine JU rfl (.tmp 37) (.tmp 40) rfl (w.heap.size+1) _ i.dir rfl ad.out (by simp;omega) _ _ _ [i.ind] rfl af.out zn (by rw[G.out];simp) ?_);intro v2 w2 o2 c2;have B2:w2.heap[w.heap.size]?=some (zi #[za i.kind,za i.links,za i.size,zj u i.dir.length cap,za i.ind] 117):=(c2.bk w.heap.size (by simp;omega)).trans aa;have b:Hid _:=ab.step c2 (Or.inr (Or.inl zk));rw[←Q.out] at o2
 obtain⟨g2,ax,rfl,aB,av⟩:=o2.at (by rw[A.out];omega);have q:Hid (∀j,j<9→w2.cell? ⟨g2,j,none⟩=some (za ((jR i).getD j 0))):=fun j r=>o2.cell rfl j (by rw[A.out];exact r);have T:Hid (∀j,j<9→(jR i).getD j 0∈jR i):=fun j r=>by rw[mV,mZ (by rw[A.out];exact r)];exact nj _
 have aw:Hid _:=B2;obtain⟨⟨x0,x1,x2,x3,x4⟩,_⟩:=Xs B2;rw[A.out];go_wp2;go_loopw [4,5] (fun sm x wr=>wr=w2∧ ∃k:Nat,k≤9∧x=za k∧sm=za (i.size+i.links+ZW (jR i) k)∧ ∀j,j<k→J6 ((jR i).getD j 0)=true) (fun _ x _=>9-(intOf x).toNat)
 case atStart=>exact⟨rfl,0,zk,rfl,by simp[ZW],zk⟩
 case round=>
  obtain⟨rfl,k,hk,rfl,rfl,z⟩:=hrel;by_cases p:k<9
  ·have M:=q.out k p;have hi:(k:Int)<9:=zk;by_cases O:J6 ((jR i).getD k 0)=true
   ·have HI:Hid (∀j,j<k+1→J6 ((jR i).getD j 0)=true):=by
     intro j r;by_cases e:j=k
     ·subst e;exact O
     ·exact z j zk
    have HS:Hid (ZW (jR i) (k+1)=ZW (jR i) k+(jR i).getD k 0):=rfl;have V:=jd wr ((jR i).getD k 0);rw[show(decide (0≤(jR i).getD k 0)&&decide ((jR i).getD k 0<2048))=true from O] at V;obtain⟨g0,g1⟩:=QF.1 O;have aq:0≤ZW (jR i) k∧ZW (jR i) k≤2048*9:=by
     have: ∀m,m≤k→0≤ZW (jR i) m∧ZW (jR i) m≤2048*m:=by
      intro m
      induction m with
      |zero=>intro _;exact⟨pd _,pd _⟩
      |succ m ih=>
       intro P;have h1:=ih zk;have h2:=QF.1 (z m zk);unfold ZW;omega
     have:=this k nlR;omega
    generalize (jR i).getD k 0=y at*;generalize ZW (jR i) k=sm at*;go_wp2_with fail;refine V.mono ?_;rintro e w3 ⟨rfl,rfl⟩;go_wp2;go_roundw
    case rel=>exact⟨trivial,k+1,zk,by go_num,by rw[HS.out];congr 1;omega,HI.out⟩
    case measure=>simp[intOf];omega
   ·have c:Hid (ZU i=false):=VK (fun h=>O (h.2.1 _ (T k p)));have V:=jd wr ((jR i).getD k 0);rw[show(decide (0≤(jR i).getD k 0)&&decide ((jR i).getD k 0<2048))=false from by rw[Bool.not_eq_true] at O;exact O] at V;generalize (jR i).getD k 0=y at*;go_wp2_with fail;refine V.mono ?_;rintro e w3 ⟨rfl,rfl⟩;go_wp2;go_ret;exact⟨by rw[c.out];rfl,b⟩
  ·obtain rfl:k=9:=zk;have E: ∀x∈jR i,J6 x=true:=by
    intro x hx;obtain⟨j,r,rfl⟩:=r7.1 hx;have:=z j (by rw[A.out] at r;exact r);rw[mV,mZ r] at this;exact this
   have B:Hid (ZU i=true↔if i.kind=0 then i.size+i.links+ZW (jR i) 9=0 else Yk i):=by
    show _↔_;rw[ZUi,HP.out];exact⟨fun h=>h.2.2,fun h=>⟨HH,E,h⟩⟩
   have aq:=km E 9 (by rw[A.out];omega);by_cases H:i.kind=0
   ·rw[mM H] at B;have ah:(i.kind==0)=true:=by simpa using H
    generalize ZW (jR i) 9=sm at*;by_cases X:i.size+i.links+sm=0
    ·have c:Hid _:=B.2 X;have ar:(i.size+i.links+sm==0)=true:=by simpa using X
     go_wp2;go_ret;exact⟨by rw[c.out];rfl,b⟩
    ·have c:Hid (ZU i=false):=by show _=_;rw[n5];exact fun h=>X (B.out.1 h)
     have ar:(i.size+i.links+sm==0)=false:=by simpa using X
     go_wp2;go_ret;exact⟨by rw[c.out];rfl,b⟩
   ·rw[mN H] at B;have ah:(i.kind==0)=false:=by simpa using H
    generalize ZW (jR i) 9=sm at*;by_cases f:i.kind=1
    ·have L:Hid (i.kind=1):=f;have ai:(i.kind==1)=true:=by simpa using f
     have ap:(i.kind !=1)=false:=by simpa using f
     have C:Hid (ZU i=true↔ (∀k,k<9→jz i k)∧(1≤i.links∨i.kind=1)):=by
      show _↔_;rw[B.out,d.out];exact⟨fun h=>h.2,fun h=>⟨Or.inl f,h⟩⟩
     go_wp2;go_loopw [7] (fun x w3=>w3=wr∧ ∃k:Nat,k≤9∧x=za k∧ ∀j,j<k→jz i j) (fun x _=>9-(intOf x).toNat)
     case atStart=>exact⟨rfl,0,zk,rfl,zk⟩
     case round=>
      obtain⟨rfl,k,hk,rfl,z⟩:=hrel;by_cases p:k<9
      ·have M:=q.out k p;have hi:(k:Int)≤8:=zk;have a:=t.out k;have n:Hid (jz i k→ ∀j,j<k+1→jz i j):=by
        intro h j r;by_cases e:j=k
        ·subst e;exact h
        ·exact z j zk
       have o:Hid (¬jz i k→ZU i=false):=fun h=>by rw[n5];exact fun U=>h ((C.1 U).1 k p)
       generalize (jR i).getD k 0=y at*;by_cases s:i.size≤(k:Int)*64
       ·rw[mM s] at a;by_cases l:y=0
        ·have HX2:Hid _:=n.out (a.2 l);subst l;go_wp2;go_roundw
         case rel=>exact⟨trivial,k+1,zk,by go_num,HX2.out⟩
         case measure=>simp[intOf];omega
        ·have c:Hid _:=o.out (fun h=>l (a.1 h));have J:(y !=0)=true:=by simpa using l
         go_wp2;go_ret;exact⟨by rw[c.out];rfl,b⟩
       ·rw[mN s] at a;have HX2:Hid _:=n.out (a.2 (Or.inl L));go_wp2;go_roundw
        case rel=>exact⟨trivial,k+1,zk,by go_num,HX2.out⟩
        case measure=>simp[intOf];omega
      ·obtain rfl:k=9:=zk;have K:Hid (ZU i=true↔ (1≤i.links∨i.kind=1)):=⟨fun h=>(C.1 h).2,fun h=>C.2 ⟨fun j r=>z j r,h⟩⟩;have c:Hid _:=K.2 (Or.inr L);by_cases N:1≤i.links
       ·go_wp2;go_ret;exact⟨by rw[c.out];rfl,b⟩
       ·go_wp2;go_ret;exact⟨by rw[c.out];rfl,b⟩
    ·have L:Hid _:=f;have ai:(i.kind==1)=false:=by simpa using f
     have ap:(i.kind !=1)=true:=by simpa using f
     by_cases v:i.kind=2
     ·have aj:(i.kind==2)=true:=by simpa using v
      by_cases D:i.links=1
      ·have am:(i.links !=1)=false:=by simpa using D
       by_cases P:i.size % 16=0
       ·have an:(i.size % 16 !=0)=false:=by simpa using P
        have C:Hid (ZU i=true↔ (∀k,k<9→jz i k)∧(1≤i.links∨i.kind=1)):=by
         show _↔_;rw[B.out,d.out];exact⟨fun h=>h.2,fun h=>⟨Or.inr (Or.inl ⟨v,D,P⟩),h⟩⟩
        clear f v D P;go_wp2;go_loopw [7] (fun x w3=>w3=wr∧ ∃k:Nat,k≤9∧x=za k∧ ∀j,j<k→jz i j) (fun x _=>9-(intOf x).toNat)
        case atStart=>exact⟨rfl,0,zk,rfl,zk⟩
        case round=>
         obtain⟨rfl,k,hk,rfl,z⟩:=hrel;by_cases p:k<9
         ·have M:=q.out k p;have hi:(k:Int)≤8:=zk;have a:=t.out k;have n:Hid (jz i k→ ∀j,j<k+1→jz i j):=by
           intro h j r;by_cases e:j=k
           ·subst e;exact h
           ·exact z j zk
          have o:Hid (¬jz i k→ZU i=false):=fun h=>by rw[n5];exact fun U=>h ((C.1 U).1 k p)
          generalize (jR i).getD k 0=y at*;clear z;by_cases s:i.size≤(k:Int)*64
          ·rw[mM s] at a;by_cases l:y=0
           ·have HX2:Hid (∀j,j<k+1→jz i j):=n.out (a.2 l);subst l;clear a n o;go_wp2;go_roundw
            case rel=>exact⟨trivial,k+1,zk,by go_num,HX2.out⟩
            case measure=>simp[intOf];omega
           ·have c:Hid (ZU i=false):=o.out (fun h=>l (a.1 h));have J:(y !=0)=true:=by simpa using l
            clear a n o l;go_wp2;go_ret;exact⟨by rw[c.out];rfl,b⟩
          ·rw[mN s] at a;by_cases l:y=0
           ·have c:Hid (ZU i=false):=o.out (fun h=>(a.1 h).elim (fun h=>L.out h) (fun h=>h l));subst l;clear a n o;go_wp2;go_ret;exact⟨by rw[c.out];rfl,b⟩
           ·have HX2:Hid (∀j,j<k+1→jz i j):=n.out (a.2 (Or.inr l));have J:(y==0)=false:=by simpa using l
            clear a n o l;go_wp2;go_roundw
            case rel=>exact⟨trivial,k+1,zk,by go_num,HX2.out⟩
            case measure=>simp[intOf];omega
         ·obtain rfl:k=9:=zk;have K:Hid (ZU i=true↔ (1≤i.links∨i.kind=1)):=⟨fun h=>(C.1 h).2,fun h=>C.2 ⟨fun j r=>z j r,h⟩⟩;clear z;by_cases N:1≤i.links
          ·have c:Hid (ZU i=true):=K.2 (Or.inl N);go_wp2;go_ret;exact⟨by rw[c.out];rfl,b⟩
          ·have c:Hid (ZU i=false):=by show _=_;rw[n5];exact fun h=>(K.out.1 h).elim N L.out
           go_wp2;go_ret;exact⟨by rw[c.out];rfl,b⟩
       ·have c:Hid (ZU i=false):=by
         show _=_;rw[n5];intro h;rcases(d.1 (B.1 h)).1 with h|⟨_,_,h⟩|⟨h,_⟩
         ·exact f h
         ·exact P h
         ·omega
        have an:(i.size % 16 !=0)=true:=by simpa using P
        go_wp2;go_ret;exact⟨by rw[c.out];rfl,b⟩
      ·have c:Hid (ZU i=false):=by
        show _=_;rw[n5];intro h;rcases(d.1 (B.1 h)).1 with h|⟨_,h,_⟩|⟨h,_⟩
        ·exact f h
        ·exact D h
        ·omega
       have am:(i.links !=1)=true:=by simpa using D
       go_wp2;go_ret;exact⟨by rw[c.out];rfl,b⟩
     ·have aj:(i.kind==2)=false:=by simpa using v
      by_cases I:i.kind=3
      ·have ak:(i.kind==3)=true:=by simpa using I
       by_cases aC:i.size<1
       ·have c:Hid (ZU i=false):=by
         show _=_;rw[n5];intro h;rcases(d.1 (B.1 h)).1 with h|⟨h,_⟩|⟨_,h,_⟩
         ·exact f h
         ·exact v h
         ·omega
        go_wp2;go_ret;exact⟨by rw[c.out];rfl,b⟩
       by_cases aD:240<i.size
       ·have c:Hid (ZU i=false):=by
         show _=_;rw[n5];intro h;rcases(d.1 (B.1 h)).1 with h|⟨h,_⟩|⟨_,_,h⟩
         ·exact f h
         ·exact v h
         ·omega
        go_wp2;go_ret;exact⟨by rw[c.out];rfl,b⟩
       have C:Hid (ZU i=true↔ (∀k,k<9→jz i k)∧(1≤i.links∨i.kind=1)):=by
        show _↔_;rw[B.out,d.out];exact⟨fun h=>h.2,fun h=>⟨Or.inr (Or.inr ⟨I,zk,zk⟩),h⟩⟩
       go_wp2;go_loopw [7] (fun x w3=>w3=wr∧ ∃k:Nat,k≤9∧x=za k∧ ∀j,j<k→jz i j) (fun x _=>9-(intOf x).toNat)
       case atStart=>exact⟨rfl,0,zk,rfl,zk⟩
       case round=>
        obtain⟨rfl,k,hk,rfl,z⟩:=hrel;by_cases p:k<9
        ·have M:=q.out k p;have hi:(k:Int)≤8:=zk;have a:=t.out k;have n:Hid (jz i k→ ∀j,j<k+1→jz i j):=by
          intro h j r;by_cases e:j=k
          ·subst e;exact h
          ·exact z j zk
         have o:Hid (¬jz i k→ZU i=false):=fun h=>by rw[n5];exact fun U=>h ((C.1 U).1 k p)
         generalize (jR i).getD k 0=y at*;by_cases s:i.size≤(k:Int)*64
         ·rw[mM s] at a;by_cases l:y=0
          ·have HX2:Hid _:=n.out (a.2 l);subst l;go_wp2;go_roundw
           case rel=>exact⟨trivial,k+1,zk,by go_num,HX2.out⟩
           case measure=>simp[intOf];omega
          ·have c:Hid _:=o.out (fun h=>l (a.1 h));have J:(y !=0)=true:=by simpa using l
           go_wp2;go_ret;exact⟨by rw[c.out];rfl,b⟩
         ·rw[mN s] at a;by_cases l:y=0
          ·have c:Hid _:=o.out (fun h=>(a.1 h).elim (fun h=>L.out h) (fun h=>h l));subst l;go_wp2;go_ret;exact⟨by rw[c.out];rfl,b⟩
          ·have HX2:Hid _:=n.out (a.2 (Or.inr l));have J:(y==0)=false:=by simpa using l
           go_wp2;go_roundw
           case rel=>exact⟨trivial,k+1,zk,by go_num,HX2.out⟩
           case measure=>simp[intOf];omega
        ·obtain rfl:k=9:=zk;have K:Hid (ZU i=true↔ (1≤i.links∨i.kind=1)):=⟨fun h=>(C.1 h).2,fun h=>C.2 ⟨fun j r=>z j r,h⟩⟩;by_cases N:1≤i.links
         ·have c:Hid _:=K.2 (Or.inl N);go_wp2;go_ret;exact⟨by rw[c.out];rfl,b⟩
         ·have c:Hid (ZU i=false):=by show _=_;rw[n5];exact fun h=>(K.out.1 h).elim N L.out
          go_wp2;go_ret;exact⟨by rw[c.out];rfl,b⟩
      ·have c:Hid (ZU i=false):=by
        show _=_;rw[n5];intro h;rcases(d.1 (B.1 h)).1 with h|⟨h,_⟩|⟨h,_⟩
        ·exact f h
        ·exact v h
        ·exact I h
       have ak:(i.kind==3)=false:=by simpa using I
       go_wp2;go_ret;exact⟨by rw[c.out];rfl,b⟩
theorem Xj (w:World)(i:Ino)(a:Option Addr)(cap:Nat)(d:i.dir.length≤1048576)(c:zC w lo hi .i64 (zj a i.dir.length cap) i.dir):
  Calls Tryz.prog 104 #[kS i a cap] w fun e w'=>e= .returned (.bool (ZU i))∧zr 0 0 w w':=by
 by_cases h:Xo i
 ·exact cX w i a cap h c
 ·rw[VK (fun b=>h b.1)];exact Nz w i a cap d h
abbrev pt:= @of_decide_eq_true
def Zn (xs:List Int):List Int:=(xs.map fun x=>zx x 2).flatten
def me (i:Ino):List Int:= [i.kind,i.links]++zx i.size 2++Zn i.dir++zx i.ind 2++List.replicate 10 0
def QI (i:Ino):List Int:=if ZU i=true then me i else []
theorem ak (xs:List Int)(k:Nat)(h:k<xs.length:=by omega):Zn (xs.take (k+1))=Zn (xs.take k)++zx (xs.getD k 0) 2:=by
 unfold Zn;rw[oy h,m6,rP];simp[h]
theorem bX (h: ∀x∈xs,J6 x=true):(Zn xs).length=2*xs.length:=by
 unfold Zn
 induction xs with
 |nil=>rfl
 |cons x r ih=>
  have h0:=QF.1 (h x (List.mem_cons_self ..));rw[nR,oC,mL,ih (fun y a=>h y (List.mem_cons_of_mem _ a)),pn2 h0.1,m7];omega
theorem iv {i:Ino}(h:ZU i=true):(0≤i.kind∧i.kind≤3)∧(0≤i.links∧i.links≤8)∧(0≤i.size∧i.size≤2560)∧i.dir.length=8∧(∀x∈i.dir,J6 x=true)∧(0≤i.ind∧i.ind<2048):=by
 obtain⟨⟨h1,h2,h3,c,d⟩,a,b⟩:=pt h;refine⟨?_,⟨c,d⟩,⟨h2,h3⟩,h1,fun x f=>a x (List.mem_append_left _ f),QF.1 (a i.ind (List.mem_append_right _ (nx.2 rfl)))⟩;by_cases e:i.kind=0
 ·omega
 ·rw[mN e] at b;rcases b.1 with h|h|h<;>omega
theorem wrap_u8 {x:Int}(h0:0≤x)(h1:x<256:=by omega):IntKind.u8.wrap x=x:=by
 unfold IntKind.wrap;simp[IntKind.bits,IntKind.signed];omega
theorem ef (W:World)(base:Nat)(a b:Int)(c:base≤W.heap.size:=by omega):zu (W.alloc (zi #[zb a,zb b] 5)) base 5 (zg W.heap.size 2 2) [a,b]:=by
 have:=nK (base:=base) (e:=5) (size:=1) W #[zb a,zb b] 2 c (by unfold maxLen;omega) rfl;unfold zu;simpa using this
theorem zC.wide {hi':Nat}{k:IntKind}(h:zC w lo hi k v xs)(j:hi≤hi'):zC w lo hi' k v xs:=by
 obtain⟨c,cap,e,h1,h2,h3⟩:=h;refine⟨c,cap,e,h1,h2,?_⟩;rcases h3 with h3|⟨b,a,d,f,g,i⟩
 ·exact Or.inl h3
 ·exact Or.inr ⟨b,a,d,f,nE g j,i⟩
theorem NY (A:Array Value)(c:A.size=2)(a b:Int)(k:IntKind):Instr.fill (fun i=>some (i*1,1)) A [(0,.int k a),(1,.int k b)]=some #[.int k a,.int k b]:=by
 obtain⟨l⟩:=A
 match l,c with
 | [x,y],_=>simp[Instr.fill,Value.cells]
theorem Ye (w:World)(i:Ino)(ao:Option Addr)(cap:Nat)(hl:i.dir.length≤1048576)(hV:zC w lo hi .i64 (zj ao i.dir.length cap) i.dir):
  Calls Tryz.prog 65 #[kS i ao cap] w fun e w'=> ∃v,e= .returned v∧zu w' w.heap.size 5 v (QI i)∧zr 0 0 w w':=by
 have HV:Hid _:=hV;have C0:zr 0 0 w (w.alloc (zi #[za i.kind,za i.links,za i.size,zj ao i.dir.length cap,za i.ind] 117)):=zr.al w;have B0:=zt w (zi #[za i.kind,za i.links,za i.size,zj ao i.dir.length cap,za i.ind] 117);have s0:(w.alloc (zi #[za i.kind,za i.links,za i.size,zj ao i.dir.length cap,za i.ind] 117)).heap.size=w.heap.size+1:=zn;have HB:Hid _:=B0;have Z:Hid _:=C0;have hN:=Xj (w.alloc (zi #[za i.kind,za i.links,za i.size,zj ao i.dir.length cap,za i.ind] 117)) i ao cap hl (hV.chg C0 zk)
 clear C0 B0 hV;go_enter Tryz.func65,Tryz.ntmps65;go_wp2_with fail;generalize w.alloc (zi #[za i.kind,za i.links,za i.size,zj ao i.dir.length cap,za i.ind] 117)=w0 at*;refine hN.mono ?_;rintro e G ⟨rfl,h1⟩;have I:Hid _:=Z.trans h1;have Y:Hid _:=h1.bt HB;have s1:=h1.size;clear h1 hN HB Z;by_cases U:ZU i=true
 case neg=>
  have HE:Hid (QI i= []):=by show _=_;unfold QI;rw[mN U]
  have HO:Hid (zu (G.alloc (zi #[] 5)) w.heap.size 5 (zg G.heap.size 0 0) []):=zu.bnil G _;have ay:Hid (zr 0 0 w (G.alloc (zi #[] 5))):=I.alloc _;rw[Bool.not_eq_true] at U;rw[U];clear U;go_wp2;go_ret;exact⟨_,rfl,by rw[HE.out];exact HO,ay⟩
 have HE:Hid (QI i=me i):=by show _=_;unfold QI;rw[mM U]
 obtain⟨⟨a1,a2⟩,⟨a3,a4⟩,⟨a5,a6⟩,a7,a8,a9,aK⟩:=iv U;have a:Hid ((zx i.size 2).length=2):=pn2;have r:Hid _:=pn2;have ac:Hid _:=a7;have an:Hid _:=a8;have HL:Hid (me i= [i.kind,i.links]++zx i.size 2++Zn i.dir++zx i.ind 2++List.replicate 10 0):=rfl;have aG:w.heap.size<G.heap.size:=zk;rw[U];have hk:IntKind.u8.wrap i.kind=i.kind:=wrap_u8 a1;have aN:IntKind.u8.wrap i.links=i.links:=wrap_u8 a3;clear U a7 a8
 go_upto_region 3 with fail;go_cut [3] (fun s3 wx=> ∃g c,s3=zg g 4 c∧zu wx w.heap.size 5 (zg g 4 c) ([i.kind,i.links]++zx i.size 2)∧zr 0 0 w wx∧w.heap.size<wx.heap.size∧wx.heap[w.heap.size]?=some (zi #[za i.kind,za i.links,za i.size,zj ao i.dir.length cap,za i.ind] 117))
 case first=>
  have HS0:Hid ((fun w':World=>w'.heap[w.heap.size]?=some (zi #[za i.kind,za i.links,za i.size,zj ao i.dir.length cap,za i.ind] 117)) G.drew):=Y.out;have t:Hid (zr 0 0 w G.drew):=I.trans (zr.drew (zr.refl 0 0 G));have aM:w.heap.size<G.drew.heap.size:=aG;clear Y I;refine hRg (fun w':World=>w'.heap[w.heap.size]?=some (zi #[za i.kind,za i.links,za i.size,zj ao i.dir.length cap,za i.ind] 117)) ?_;generalize G.drew=R at*
  refine hTk 0 (zh w.heap.size) rfl (fun w' h=>zm) HS0.out ?_;go_simp;refine hTk 1 (za i.kind) rfl (fun w' h=>by obtain⟨⟨h4,d,s,K,h8⟩,_⟩:=Xs h;go_simp) HS0.out ?_;go_simp;refine hTk 2 (zb i.kind) rfl (fun w' h=>zm) HS0.out ?_;go_simp;refine hTk 3 (.pointer (some ⟨w.heap.size,1,none⟩)) rfl (fun w' h=>zm) HS0.out ?_;go_simp;refine hTk 4 (za i.links) rfl (fun w' h=>by obtain⟨⟨h4,d,s,K,h8⟩,_⟩:=Xs h;go_simp) HS0.out ?_
  go_simp;refine hTk 5 (zb i.links) rfl (fun w' h=>zm) HS0.out ?_;go_simp;refine hTk 7 (.pointer (some ⟨w.heap.size,2,none⟩)) rfl (fun w' h=>zm) HS0.out ?_;go_simp;refine hTk 8 (za i.size) rfl (fun w' h=>by obtain⟨⟨h4,d,s,K,h8⟩,_⟩:=Xs h;go_simp) HS0.out ?_;go_simp;refine qY 6 9 rfl rfl rfl rfl zl ?_ ?_
  ·have aE:=ef R w.heap.size i.kind i.links;have ag:zr 0 0 R (R.alloc (zi #[zb i.kind,zb i.links] 5)):=zr.al R;have aH:(R.alloc (zi #[zb i.kind,zb i.links] 5)).heap.size=R.heap.size+1:=zn;obtain⟨ic,ae,C,f,au⟩:=na Tryz.infoU1;refine wp_buildSlice 22 5 2 #[(0,.tmp 11),(1,.tmp 14)] rfl #[zb i.kind,zb i.links] ic _ Tryz.underlying22 ae C (by rw[f];decide) (by rw[f];decide) (by rw[f,oh];refine NY _ ?_ _ _ _;simp) ?_
   generalize R.alloc (zi #[zb i.kind,zb i.links] 5)=H at*;have l:Hid _:=ag.bt HS0;refine⟨l,?_⟩;go_simp;refine hOn 9 rfl ?_;refine zv 100 #[za i.size,za 2] zq (zX H i.size 2) ?_;rintro e wb ⟨v5,rfl,p,d⟩;have aI:=d.size;obtain⟨g5,c5,rfl⟩:=p.some_of (by rw[a.out];omega);rw[a.out] at p;rw[a.out];have m:Hid _:=d.bt l;refine⟨_,rfl,m,?_⟩;go_simp;have n:=qw (xs:= [i.kind,i.links]) (ys:=zx i.size 2) wb zn (by rw[a.out];omega) ((aE.seen zn).chg d zk) (p.seen (by rw[a.out];omega))
   have ab:Hid _:=(t.trans ag).trans d;refine hOn 10 rfl ?_;refine zv 48 #[zg R.heap.size 2 2,zg g5 2 c5] zq n ?_;rintro e Q ⟨v9,rfl,D,L⟩;have X:Hid (([i.kind,i.links]++zx i.size 2).length=4):=by show _=_;rw[mL,a.out];rfl
   obtain⟨g9,c9,rfl⟩:=D.some_of (by rw[X.out];omega);rw[X.out] at D;rw[X.out];have s9:=L.size;have o:Hid _:=L.bt m;have HR:Hid (zu Q w.heap.size 5 (zg g9 4 c9) ([i.kind,i.links]++zx i.size 2)∧zr 0 0 w Q∧w.heap.size<Q.heap.size∧Q.heap[w.heap.size]?=some (zi #[za i.kind,za i.links,za i.size,zj ao i.dir.length cap,za i.ind] 117)):=⟨D.base (fun g N=>by have:=(D.lt g N).1;omega),ab.trans L,zk,o⟩;clear D L n
   refine⟨_,rfl,o,?_⟩;go_simp;refine hOn 11 rfl ?_;go_simp;refine⟨o,?_⟩;refine hDn ?_;go_wp2;go_meet;exact⟨g9,c9,rfl,HR⟩
  ·refine zv 100 #[za i.size,za 2] zq (zX R i.size 2) ?_;rintro e H ⟨v5,rfl,p,d⟩;have aH:=d.size;obtain⟨g5,c5,rfl⟩:=p.some_of (by rw[a.out];omega);rw[a.out] at p;rw[a.out];have l:Hid _:=d.bt HS0;refine⟨_,rfl,l,?_⟩;go_simp;refine hOn 6 rfl ?_;have aF:=ef H w.heap.size i.kind i.links;have W:zr 0 0 H (H.alloc (zi #[zb i.kind,zb i.links] 5)):=zr.al H;have aI:(H.alloc (zi #[zb i.kind,zb i.links] 5)).heap.size=H.heap.size+1:=zn
   obtain⟨ic,ae,C,f,au⟩:=na Tryz.infoU1;refine wp_buildSlice 22 5 2 #[(0,.tmp 11),(1,.tmp 14)] rfl #[zb i.kind,zb i.links] ic _ Tryz.underlying22 ae C (by rw[f];decide) (by rw[f];decide) (by rw[f,oh];refine NY _ ?_ _ _ _;simp) ?_;generalize H.alloc (zi #[zb i.kind,zb i.links] 5)=wb at*;have m:Hid _:=W.bt l;refine⟨m,?_⟩;go_simp;have n:=qw (xs:= [i.kind,i.links]) (ys:=zx i.size 2) wb zn (by rw[a.out];omega) (aF.seen zn) (((p.seen (by rw[a.out];omega)).chg W zk).wide zk)
   have ab:Hid _:=(t.trans d).trans W;refine hOn 10 rfl ?_;refine zv 48 #[zg H.heap.size 2 2,zg g5 2 c5] zq n ?_;rintro e Q ⟨v9,rfl,D,L⟩;have X:Hid (([i.kind,i.links]++zx i.size 2).length=4):=by show _=_;rw[mL,a.out];rfl
   obtain⟨g9,c9,rfl⟩:=D.some_of (by rw[X.out];omega);rw[X.out] at D;rw[X.out];have s9:=L.size;have o:Hid _:=L.bt m;have HR:Hid (zu Q w.heap.size 5 (zg g9 4 c9) ([i.kind,i.links]++zx i.size 2)∧zr 0 0 w Q∧w.heap.size<Q.heap.size∧Q.heap[w.heap.size]?=some (zi #[za i.kind,za i.links,za i.size,zj ao i.dir.length cap,za i.ind] 117)):=⟨D.base (fun g N=>by have:=(D.lt g N).1;omega),ab.trans L,zk,o⟩;clear D L n
   refine⟨_,rfl,o,?_⟩;go_simp;refine hOn 11 rfl ?_;go_simp;refine⟨o,?_⟩;refine hDn ?_;go_wp2;go_meet;exact⟨g9,c9,rfl,HR⟩
 case rest=>
  obtain⟨g,c,rfl,T,hc,aw,hb⟩:=hcut;obtain⟨b,off,rfl,_,_,B⟩: ∃b off,ao=some ⟨b,off,none⟩∧lo≤b∧b<hi∧ ∀j,j<i.dir.length→w.cell? ⟨b,off+j,none⟩=some (za (i.dir.getD j 0)):=by
   obtain⟨aL,aJ,e,_,_,h3⟩:=HV.out;simp only[ns] at e;rcases h3 with h3|⟨b,off,h4,d,s,K⟩
   ·have:=ac.out;rw[h3] at this;cases this
   ·exact⟨b,off,by rw[e.1,h4],d,s,K⟩
  have aa:Hid _:=B;obtain⟨x3,O⟩: ∃x:List Int,x= [i.kind,i.links]++zx i.size 2:=⟨_,rfl⟩;have aC:Hid _:=O;rw[←O] at T;have aB:Hid (x3.length=4):=by show _=_;rw[O,mL,a.out];rfl
  have q:Hid (∀k,k≤8→(x3++Zn (i.dir.take k)).length=4+2*k):=by
   intro k hk;rw[mL,aB.out,bX (fun x hx=>an.out x (ot hx)),mW,ac.out];omega
  have ap:Hid (zu wc w.heap.size 5 (zg g 4 c) (x3++Zn (i.dir.take 0))):=by
   rw[show Zn (i.dir.take 0)= [] from rfl,nw];exact T
  have t:Hid _:=hc;have ai:Hid _:=hb;clear O B T hc hb Y I;go_wp2;go_loopw [3,4] (fun s3 s4 wr=> ∃(k g c:Nat),k≤8∧s4=za k∧s3=zg g (4+2*k) c∧zu wr w.heap.size 5 (zg g (4+2*k) c) (x3++Zn (i.dir.take k))∧zr 0 0 w wr∧w.heap.size<wr.heap.size∧wr.heap[w.heap.size]?=some (zi #[za i.kind,za i.links,za i.size,zj (some ⟨b,off,none⟩) i.dir.length cap,za i.ind] 117)) (fun _ s4 _=>8-(intOf s4).toNat)
  case atStart=>exact⟨0,g,c,mX _,rfl,rfl,ap,t,aw,ai⟩
  case round=>
   clear ap t ai;obtain⟨k,g,c,hk,rfl,rfl,T,M,aw,hb⟩:=hrel;have Z:Hid _:=M;have HB:Hid _:=hb;have HO:Hid (zu wr w.heap.size 5 (zg g (4+2*k) c) (x3++Zn (i.dir.take k))):=T;obtain⟨⟨q0,q1,q2,q3,q4⟩,_⟩:=Xs hb;have av:=ac.out;by_cases aO:k<8
   ·have hi':(k:Int)<(i.dir.length:Int):=zk;have d0:=M.cell (aa k zk);have N:=QF.1 (an (i.dir.getD k 0) (by rw[mV,mZ zk];exact nj _));have HT:Hid _:=ak i.dir k;have aA:=q.out k hk;have y:=q.out (k+1) zk;have A:Hid _:=pn2 N.1;generalize i.dir.getD k 0=dk at*;have hP:=zX wr dk 2;clear T M hb av;go_wp2_with fail;refine hP.mono ?_;rintro e w5 ⟨v5,rfl,p,d⟩;have s5:=d.size;have V:=(HO.seen zk).chg d zk;have F:=p.seen (by rw[A.out];omega)
    obtain⟨g5,c5,rfl⟩:=p.some_of (by rw[A.out];omega);rw[A.out] at F;rw[A.out];have n:=qw (xs:=x3++Zn (i.dir.take k)) (ys:=zx dk 2) w5 zk (by rw[A.out];omega) V F;have u:Hid _:=Z.trans d;have ah:Hid _:=d.bt HB;rw[nk,←HT.out] at n;clear hP p d V F HO Z HB q0 q1 q2 q3 q4 d0;go_wp2_with fail;refine n.mono ?_;rintro e w6 ⟨v6,rfl,E,s⟩;obtain⟨g6,c6,rfl⟩:=E.some_of;rw[y] at E;rw[y];have s6:=s.size;have HR:Hid (zu w6 w.heap.size 5 (zg g6 (4+2*(k+1)) c6) (x3++Zn (i.dir.take (k+1)))∧zr 0 0 w w6∧w.heap.size<w6.heap.size∧w6.heap[w.heap.size]?=some (zi #[za i.kind,za i.links,za i.size,zj (some ⟨b,off,none⟩) i.dir.length cap,za i.ind] 117)):=⟨E.base (fun g N=>by have:=(E.lt g N).1;omega),u.trans s,zk,s.bt ah⟩
    clear n E s u ah aA y;go_wp2;go_roundw
    case rel=>exact⟨k+1,g6,c6,zk,by go_num,rfl,HR.out⟩
    case measure=>simp[intOf];omega
   ·obtain rfl:k=8:=zk;have aP: ¬((8:Nat):Int)<(i.dir.length:Int):=zk;have J:Hid ((x3++Zn i.dir).length=20):=by
     have:=q.out 8 zk;rw[ny zk] at this;exact this
    have ad:Hid (zu wr w.heap.size 5 (zg g 20 c) (x3++Zn i.dir)):=by
     have:=T;rw[ny zk] at this;exact this
    obtain⟨x8,af⟩: ∃x:List Int,x=x3++Zn i.dir:=⟨_,rfl⟩;have ar:Hid _:=af;rw[←af] at ad J;have az:Hid (QI i=(x8++zx i.ind 2)++List.replicate 10 0):=by show _=_;rw[HE.out,HL.out,ar.out,aC.out]
    have hP:=zX wr i.ind 2;clear T M hb av HO af ar q;go_wp2_with fail;refine hP.mono ?_;rintro e w5 ⟨v5,rfl,p,d⟩;have s5:=d.size;have V:=(ad.seen (by rw[J.out];omega)).chg d zk;have F:=p.seen (by rw[r.out];omega);obtain⟨g5,c5,rfl⟩:=p.some_of (by rw[r.out];omega);rw[r.out] at F;rw[r.out];have n:=qw (xs:=x8) (ys:=zx i.ind 2) w5 (by rw[J.out];omega) (by rw[r.out];omega) V F;have u:Hid _:=Z.trans d;clear hP p d V F ad Z HB q0 q1 q2 q3 q4
    go_wp2_with fail;refine n.mono ?_;rintro e w6 ⟨v6,rfl,E,s⟩;obtain⟨y6,P⟩: ∃x:List Int,x=x8++zx i.ind 2:=⟨_,rfl⟩;have aD:Hid _:=P;have z:Hid (y6.length=22):=by show _=_;rw[P,mL,J.out,r.out]
    rw[←P] at E;have ax:=E;obtain⟨g6,c6,rfl⟩:=ax.some_of (by rw[z.out];omega);have s6:=s.size;have aj:Hid _:=u.trans s;have aq:Hid (zu w6 w5.heap.size 5 (zg g6 y6.length c6) y6):=E;have hZ:=qS w6 10;have S:Hid ((List.replicate 10 (0:Int)).length=10):=by show _=_;rw[nC]
    clear n E ax s u P;go_wp2_with fail;refine hZ.mono ?_;rintro e w7 ⟨g7,rfl,o7,K⟩;have s7:=K.size;have V:=(aq.seen (by rw[z.out];omega)).chg K zk;have F:=o7.seen (by rw[S.out];omega);have n:=qw (xs:=y6) (ys:=List.replicate 10 0) w7 (by rw[z.out];omega) (by rw[S.out];omega) V F;have am:Hid _:=aj.trans K;rw[show y6++List.replicate 10 0=QI i from by rw[az.out,aD.out]] at n;clear hZ o7 K V F aq aj;go_wp2_with fail
    refine n.mono ?_;rintro e w8 ⟨v8,rfl,o8,h8⟩;have HR:Hid (zu w8 w.heap.size 5 v8 (QI i)∧zr 0 0 w w8):=⟨o8.base (fun g N=>by have:=(o8.lt g N).1;omega),am.trans h8⟩;clear n o8 h8 am;go_wp2;go_ret;exact⟨_,rfl,HR⟩
def zB (y r:Nat) (on:Bool):Nat:=(if on then y else 255-y)/2^r
def VX (ys:List Int) (A:Nat):Nat→List Int
 |0=>ys
 |n+1=>Qy (VX ys A n) ((A+n:Nat):Int) true
theorem bY {x:Int}(h0:0≤x)(h1:x<256)(c:r<8):0≤Zu x r on∧Zu x r on<256:=by
 obtain⟨m,rfl⟩: ∃m:Nat,x=m:=⟨x.toNat,zk⟩;by_cases b:decide (m/2^r % 2=1)=on
 ·rw[Xf b];omega
 ·cases on with
  |true=>
   have a: ¬m/2^r % 2=1:=by simpa using b
   rw[Ey a];have:=aP zk c a;generalize m+2^r=q at*;omega
  |false=>
   have a:m/2^r % 2=1:=by simpa using b
   rw[KM c a];have:m-2^r≤m:=Nat.sub_le _ _;generalize m-2^r=q at*;omega
theorem Yl (i:Int)(b:Bool)(h:Byt xs):Byt (Qy xs i b):=by
 unfold Qy;split
 ·intro x a;rcases su a with a|rfl
  ·exact h x a
  ·have:=h.getD (i.toNat/8);exact bY this.1 this.2 (nF _ zp)
 ·intro x a;cases a
theorem JG {ys:List Int}{A:Nat}(a:Byt ys)(b:ys.length≤2048): ∀n,A+n≤8*ys.length→(VX ys A n).length=ys.length∧Byt (VX ys A n)
 |0,_=>⟨rfl,a⟩
 |n+1,h=>by
  obtain⟨h1,h2⟩:=JG (A:=A) a b n zk
  refine⟨?_,Yl _ _ h2⟩
  show(Qy _ _ _).length=_
  rw[Ym ⟨by rw[h1];exact b,zk,by rw[h1];omega⟩,ou,h1]
def JE (n:Nat):List Int:=VX (Qy (List.replicate 64 0) 0 true) n (512-n)
theorem Xx (k:Nat):Byt (List.replicate k 0):=fun x a=>by rw[rU a];omega
theorem ix (z:Value)(n:Nat):(madeCells #[z] n).toList=List.replicate n z:=by
 apply rC;intro j;by_cases a:j<n
 ·simp[madeCells,a,Nat.mod_one]
 ·simp[madeCells,a]
def jK (mb D b:Nat):List Int:=VX (VX (List.replicate (64*mb) 0) 0 D) b (512*mb-b)
def jn (n:Nat):Nat→List Int
 |0=>List.replicate 64 0
 |k+1=>if k=0∨n≤k then Qy (jn n k) ((k:Nat):Int) true else jn n k
def qN (L D b:Nat):Nat→List Int
 |0=>List.replicate L 0
 |k+1=>if k<D∨b≤k then Qy (qN L D b k) ((k:Nat):Int) true else qN L D b k
theorem KH : ∀k,1≤k→k≤n→jn n k=Qy (List.replicate 64 0) 0 true
 |0,h,_=>by omega
 |1,_,_=>by show(if _ then _ else _)=_;rw[mM (Or.inl rfl)];rfl
 |k+2,_,hn=>by
  show(if _ then _ else _)=_
  rw[mN (by omega)]
  exact KH (k+1) (by omega) (by omega)
theorem KG {n:Nat}(a:1≤n): ∀j,jn n (n+j)=VX (Qy (List.replicate 64 0) 0 true) n j
 |0=>KH n a nlR
 |j+1=>by
  show(if n+j=0∨n≤n+j then Qy (jn n (n+j)) ((n+j:Nat):Int) true else jn n (n+j))=Qy _ _ _
  rw[mM (Or.inr (Nat.le_add_right _ _)),KG a j]
theorem N4 (a:1≤n)(h:n≤512:=by omega):jn n 512=JE n:=by
 have:=KG a (512-n);rw[show n+(512-n)=512 by omega] at this;exact this
theorem Ku {b:Nat}: ∀k,k≤D→qN L D b k=VX (List.replicate L 0) 0 k
 |0,_=>rfl
 |k+1,h=>by
  show(if _ then _ else _)=Qy _ _ _
  rw[mM (Or.inl (by omega)),Ku k (by omega),ni]
theorem Kv {L D b:Nat}(a:D≤b): ∀j,D+j≤b→qN L D b (D+j)=VX (List.replicate L 0) 0 D
 |0,_=>Ku D nlR
 |j+1,h=>by
  show(if D+j<D∨b≤D+j then Qy (qN L D b (D+j)) ((D+j:Nat):Int) true else qN L D b (D+j))=_
  rw[mN (by omega)]
  exact Kv a j (by omega)
theorem Kt {L D b:Nat}(a:D≤b): ∀j,qN L D b (b+j)=VX (VX (List.replicate L 0) 0 D) b j
 |0=>by
  have:=Kv (L:=L) a (b-D) zk
  rw[show D+(b-D)=b by omega] at this
  exact this
 |j+1=>by
  show(if b+j<D∨b≤b+j then Qy (qN L D b (b+j)) ((b+j:Nat):Int) true else qN L D b (b+j))=Qy _ _ _
  rw[mM (Or.inr (Nat.le_add_right _ _)),Kt a j]
theorem NI {mb b:Nat}(a:D≤b)(h:b≤512*mb):qN (64*mb) D b (512*mb)=jK mb D b:=by
 have:=Kt (L:=64*mb) a (512*mb-b);rw[show b+(512*mb-b)=512*mb by omega] at this;exact this
theorem XM (n:Nat): ∀k,k≤512→(jn n k).length=64∧Byt (jn n k)
 |0,_=>⟨nC,Xx 64⟩
 |k+1,h=>by
  obtain⟨h1,h2⟩:=XM n k zk
  show(if _ then _ else _:List Int).length=64∧Byt (if _ then _ else _)
  split
  ·exact⟨by rw[Ym ⟨by rw[h1];omega,zk,by rw[h1];omega⟩,ou,h1],Yl _ _ h2⟩
  ·exact⟨h1,h2⟩
theorem XK (L D b:Nat)(a:L≤2048): ∀k,k≤8*L→(qN L D b k).length=L∧Byt (qN L D b k)
 |0,_=>⟨nC,Xx L⟩
 |k+1,h=>by
  obtain⟨h1,h2⟩:=XK L D b a k zk
  show(if _ then _ else _:List Int).length=L∧Byt (if _ then _ else _)
  split
  ·exact⟨by rw[Ym ⟨by rw[h1];omega,zk,by rw[h1];omega⟩,ou,h1],Yl _ _ h2⟩
  ·exact⟨h1,h2⟩
end Go.Proofs.YthdeofoleiiibaaGreatDoor
