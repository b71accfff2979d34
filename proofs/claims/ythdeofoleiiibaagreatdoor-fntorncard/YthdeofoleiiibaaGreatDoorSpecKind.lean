import Derived.Test.YthdeofoleiiibaaGreatDoorMkMath
import Derived.Test.YthdeofoleiiibaaGreatDoorImplLay
import Derived.WalkMore
namespace Go.Proofs.YthdeofoleiiibaaGreatDoor
open Go.RowKit
set_option maxRecDepth 100000
set_option maxHeartbeats 16000000
variable {w W wm w' wf x:World}{sq lo tt fr st hd us dn sq0 c fr' q:Int}{hv v1 v0 a rv v vL vM vK th tr:Value}{hi sz B n M base b mb D q0 T PB gD DB N cp l im bm tb tn k s:Nat}{xs ys cur:List Int}{tL tM tK t:TypeId}{hs rs:List Value}
structure Fits (i:Ino):Prop where
 kind:0≤i.kind∧i.kind<256
 links:0≤i.links∧i.links<256
 size:0≤i.size∧i.size≤2560
 len:i.dir.length=8
 dir: ∀x∈i.dir,0≤x∧x<2048
 ind:0≤i.ind∧i.ind<2048
theorem e9 (A:Array Value)(b:A.size=1)(a:Int)(k:IntKind):Instr.fill (fun i=>some (i*1,1)) A [(0,.int k a)]=some #[.int k a]:=by
 obtain⟨l⟩:=A
 match l,b with
 | [x],_=>simp[Instr.fill,Value.cells]
def KN:List Int:= [2,1]++List.replicate 62 0
theorem Tryz.infoI64:(Tryz.prog.info? 2).map (fun i=>(i.zero,i.size,i.bytes))=some (some (za 0),1,8):=zl
attribute [local go_sem] oq
theorem KP {o:Nat}(h:o+ys.length≤xs.length)(a:xs.length=k):(splice xs o ys).length=k:=by
 unfold splice;simp only[mL,mW,m8];omega
theorem QG {b:Value}(h:w.heap[s]?=some (zi #[a,b] t)):w.cell? (zd s)=some a∧w.cell? ⟨s,1,none⟩=some b:=by simp[World.cell?,h]
theorem seven {b c d e f g:Value}(h:w.heap[s]?=some (zi #[a,b,c,d,e,f,g] t)):
  w.cell? (zd s)=some a∧w.cell? ⟨s,1,none⟩=some b∧w.cell? ⟨s,2,none⟩=some c∧w.cell? ⟨s,3,none⟩=some d∧w.cell? ⟨s,4,none⟩=some e∧w.cell? ⟨s,5,none⟩=some f∧w.cell? ⟨s,6,none⟩=some g:=by simp[World.cell?,h]
theorem kn (a b c:Int):Byt (jP 106 108 111 103 1 a b c):=by
 intro x hx;unfold jP at hx;simp only[nu] at hx;rcases hx with(((hx|hx)|hx)|hx)|hx
 ·simp at hx;omega
 ·exact qE _ _ x hx
 ·exact qE _ _ x hx
 ·exact qE _ _ x hx
 ·rw[sx] at hx;omega
theorem EG:KN.length=64:=rfl
theorem VL (d:n≤256:=by omega):(JE n).length=64:=by
 unfold JE;have a:Qy (List.replicate 64 0) 0 true=(List.replicate 64 (0:Int)).set (0/8) (Zu ((List.replicate 64 0).getD (0/8) 0) (0 % 8) true):=Ym (m:=0) ⟨zn,zk,zn⟩;have c:(Qy (List.replicate 64 0) 0 true).length=64:=by rw[a,ou,nC]
 have b:=Yl (xs:=List.replicate 64 0) 0 true (Xx 64);obtain⟨h3,_⟩:=JG (A:=n) b zk (512-n) zk;rw[h3,c]
theorem Vv (a:mb≤4:=by omega)(c:D≤512*mb:=by omega)(d:b≤512*mb:=by omega):(jK mb D b).length=64*mb:=by
 unfold jK;obtain⟨h1,h2⟩:=JG (ys:=List.replicate (64*mb) 0) (A:=0) (Xx _) (by rw[nC];omega) D (by rw[nC];omega);obtain⟨h3,_⟩:=JG (A:=b) h2 (by rw[h1,nC];omega) (512*mb-b) (by rw[h1,nC];omega);rw[h3,h1,nC]
def mkJ (l:Int):List Int:=qz 106 108 111 103 1 l 1 0
def N9 (b l n im bm mb tb D:Nat):List Int:=
 splice (splice (splice (splice (splice (List.replicate (b*64) 0) (0*64) (fsL b l n)) (1*64) (mkJ l)) (im*64) (JE n)) (bm*64) (jK mb D b)) (tb*64) KN
theorem dJ {l:Int}(h0:0≤l:=by omega)(h1:l≤512:=by omega):(mkJ l).length=64:=by
 have c:=pn2 (v:=l);have d:=pn4 (v:=1);have e:=pn2 (v:=0);obtain⟨a,b⟩:=qP (jP 106 108 111 103 1 l 1 0);unfold mkJ qz;rw[mL,ZO c d e,pn4 a b]
structure Ms (w x:World)(PB gD DB N cp b l n im bm mb tb tn D:Nat)(dn:Int)(cur:List Int):Prop where
 g0:x.heap[w.heap.size]?=some (zi #[za b,za l,za n] 64)
 r0:x.heap[w.heap.size+1]?=some (zi #[zc,zc] 26)
 pb:x.heap[PB]?=some (zi #[za im,za bm,za mb,za tb,za tn,za D,za dn] 108)
 db:x.heap[DB]?=some (zi #[zg gD N cp,zc] 26)
 dr:zu x (w.heap.size+2) 5 (zg gD N cp) cur
 lo:w.heap.size+1<PB∧PB<gD∧gD<DB
 ch:zr 0 0 w x
theorem Ms.lt (h:Ms w x PB gD DB N cp b l n im bm mb tb tn D dn cur):DB<x.heap.size:=(zE h.db)
theorem Ms.chg {y:World}(h:Ms w x PB gD DB N cp b l n im bm mb tb tn D dn cur)(c:zr 0 0 x y):Ms w y PB gD DB N cp b l n im bm mb tb tn D dn cur:=
 have h1:=h.lt
 have h2:=h.lo
 ⟨c.bt h.g0,c.bt h.r0,c.bt h.pb,c.bt h.db,h.dr.chg c (by intro g _;omega),h.lo,h.ch.trans c⟩
theorem Ms.put {y:World}{cur':List Int}(h:Ms w x PB gD DB N cp b l n im bm mb tb tn D dn cur)(c:zr gD (gD+1) x y)(a:zu y (w.heap.size+2) 5 (zg gD N cp) cur'):Ms w y PB gD DB N cp b l n im bm mb tb tn D dn cur':=
 have h1:=h.lt
 have h2:=h.lo
 ⟨c.bt h.g0,c.bt h.r0,c.bt h.pb,c.bt h.db,a,h.lo,h.ch.step c⟩
theorem Ms.l1Put (h:Ms w x PB gD DB N cp b l n im bm mb tb tn D dn cur)(f:cur.length=N)(a:N≤1048576)(ys:List Int)(m:ys.length=64)(q:Nat)(k:q*64+64≤N)(d:zu x (DB+1) 5 v ys):
  Calls Tryz.prog 61 #[zg gD N cp,za q,v] x fun e y=>e= .returned (.tuple #[])∧Ms w y PB gD DB N cp b l n im bm mb tb tn D dn (splice cur (q*64) ys)∧(splice cur (q*64) ys).length=N∧zr gD (gD+1) x y:=by
 subst f;have h2:=h.lo;refine(N6 x cur ys q h.dr (d.view zk (hi:=x.heap.size) (fun g i=>(d.lt g i).2)) m k a (Or.inl zk)).mono ?_;rintro e y ⟨rfl,j,c⟩;exact⟨rfl,h.put c j,KP zk rfl,c⟩
theorem UI (w:World){lo g cap:Nat}(h:zC w lo hi .u8 (zg g ys.length cap) ys)(f:64*k+64≤ys.length)(A:ys.length≤1048576):
  Calls Tryz.prog 42 #[zg g ys.length cap,za k] w fun e w'=> ∃v,e= .returned v∧zu w' w.heap.size 5 v (XJ ys k)∧zr 0 0 w w':=by
 obtain⟨n,d⟩:ys.length≤cap∧cap≤cap:=by
  obtain⟨r,s,e,_,c,_⟩:=h;simp only[ns] at e;obtain⟨_,_,rfl⟩:=e;exact⟨c.1,mP _⟩
 have a:Hid (zC w lo hi .u8 (zj (some ⟨g,0+64*k,none⟩) 64 (cap-64*k)) (XJ ys k)):=zC.part h f zk (cap-64*k);obtain⟨m,b⟩: ∃m:Nat,m=64*k:=⟨_,rfl⟩;have q:Hid (m=64*k):=b;rw[←b,ni] at a;rw[←b] at f;have l:=Zr w (by unfold XJ;rw[mW];omega) a;have t:(k:Int)*64=(m:Int):=zk;have u:((k:Int)+1)*64=(m:Int)+64:=zk;have x:IntKind.i64.wrap ((k:Int)+1)=(k:Int)+1:=by rw[mS];omega
 have y:IntKind.i64.wrap (m:Int)=(m:Int):=by rw[mS];omega
 have z:IntKind.i64.wrap ((m:Int)+64)=(m:Int)+64:=by rw[mS];omega
 have B:(0:Int)≤(m:Int)+64:=zk;have C:(m:Int)+64≤(cap:Int):=zk;have D: ¬cap=m:=zk;have E:(m:Int)≤max ((m:Int)+64) 0:=zk;have F:((m:Int)+64).toNat-m=64:=zk;generalize XJ ys k=p at*;generalize ys.length=L at*;clear b h d;go_enter Tryz.func42,Tryz.ntmps42;go_wp2_with fail;refine l.mono ?_;rintro e o ⟨v,rfl,i,c⟩;have j:Hid (zu o w.heap.size 5 v p):=i;clear i;go_wp2;go_ret;exact⟨_,rfl,j,c⟩
attribute [local go_sem] oq
theorem Uq {c:List Int}{o:Nat}(h:o+xs.length+ys.length≤c.length):splice (splice c o xs) (o+xs.length) ys=splice c o (xs++ys):=by
 have b:(c.take o).length=o:=by rw[mW];omega
 have a:(c.take o++xs).length=o+xs.length:=by rw[mL,b]
 have A:(c.take o++(xs++c.drop (o+xs.length))).take (o+xs.length)=c.take o++xs:=by
  rw[←nk,oG (by rw[a];exact mP _),ny (by rw[a];exact mP _)]
 have B:(c.take o++(xs++c.drop (o+xs.length))).drop (o+xs.length+ys.length)=c.drop (o+xs.length+ys.length):=by
  rw[←nk,pY,pp (by rw[a];omega),nG,a,pK];congr 1;omega
 unfold splice;simp only[nk] at A B⊢;rw[A,B,mL,nk,show o+(xs.length+ys.length)=o+xs.length+ys.length by omega]
theorem gK {c:List Int}{q K:Nat}(b:ys.length=64*K)(a:k<K)(h:q*64+64*K≤c.length):splice (splice c (q*64) (ys.take (64*k))) ((q+k)*64) (XJ ys k)=splice c (q*64) (ys.take (64*(k+1))):=by
 have e:q*64+(ys.take (64*k)).length=(q+k)*64:=by rw[mW];omega
 rw[←e,Uq (by rw[mW,Yn b a];omega)];congr 1;unfold XJ;rw[show 64*(k+1)=64*k+64 by omega,List.take_add]
theorem aE (c ys:List Int)(o:Nat):splice c o (ys.take (64*0))=c:=by
 unfold splice;simp
abbrev dX:Ino:=⟨2,1,0,List.replicate 8 0,0⟩
theorem fO:QI dX++List.replicate 32 0=KN:=zp
theorem EF:(QI dX).length=32:=zp
theorem aD (w:World)(b l n im bm mb tb tn D:Nat)(dn:Int)(a:QR b l n)(hv:XC b l n=true)(aY:YE b l n=plV im bm mb tb tn D dn)
  (q1:im=2+l) (q2:bm=im+1) (q3:tb=bm+mb) (q4:tb<D) (q5:D<b) (q6:0<mb:=by omega) (q7:mb≤4:=by omega) (q8:b≤512*mb:=by omega):
  Calls Tryz.prog 27 #[Na b l n] w fun e w'=> ∃v,e= .returned v∧qK w' w.heap.size w'.heap.size 100 5 v ⟨N9 b l n im bm mb tb D,[]⟩∧zr 0 0 w w':=by
 obtain⟨g1,g2,g3,g4,g5,g6⟩:=id a;have HG:Hid (QR b l n):=a;have A:Hid (im=2+l∧bm=im+1∧tb=bm+mb∧tb<D∧D<b∧0<mb∧mb≤4∧b≤512*mb):=⟨q1,q2,q3,q4,q5,q6,q7,q8⟩;have aU:b≤2048:=zk;have bl:l≤512:=zk;have aX:n≤256:=zk;have bo:1≤n:=zk;have bh:1≤b:=zk;have ay:Tryz.prog.follows .mixedOrders=true:=zl;have hA:zr 0 0 w ((w.alloc (zi #[za b,za l,za n] 64)).alloc (zi #[zc,zc] 26)):=(zr.al w).alloc _;obtain⟨z,b0,b1⟩:=zU w (zi #[za b,za l,za n] 64) (zi #[zc,zc] 26)
 have hN:=jT ((w.alloc (zi #[za b,za l,za n] 64)).alloc (zi #[zc,zc] 26)) b l n;have HE:Hid (Jy b l n=fsL b l n):=by show _=_;unfold Jy;rw[mM hv]
 rw[hv] at hN;have R:=fun W=>Xb W b l n aU bl aX;rw[aY] at R;clear a hv aY q1 q2 q3 q4 q5 q6 q7 q8;go_enter Tryz.func27,Tryz.ntmps27;go_wp2_with fail;generalize (w.alloc (zi #[za b,za l,za n] 64)).alloc (zi #[zc,zc] 26)=w0 at*;refine hN.mono ?_;rintro e w1 ⟨rfl,h1⟩;have B0:=(h1.bk w.heap.size).trans b0;have B1:=(h1.bk (w.heap.size+1)).trans b1;have aB:Hid (zr 0 0 w w1):=hA.trans h1;have s1:=h1.size
 clear h1 b0 b1 hA hN;obtain⟨k0,k1,k2⟩:=aN B0;go_wp2_with fail;refine(R w1).mono ?_;rintro e c ⟨rfl,h2⟩;have az:=(h2.bk w.heap.size).trans B0;have aA:=(h2.bk (w.heap.size+1)).trans B1;have aC:Hid (zr 0 0 w c):=aB.trans h2;have s2:=h2.size;clear h2 B0 B1 aB k0 k1 k2 R;have aS:(c.alloc (zi #[za im,za bm,za mb,za tb,za tn,za D,za dn] 108)).heap[c.heap.size]?=some (zi #[za im,za bm,za mb,za tb,za tn,za D,za dn] 108):=zt c _
 have U:=((zr.alloc (zr.refl 0 0 c) (zi #[za im,za bm,za mb,za tb,za tn,za D,za dn] 108)).bk w.heap.size).trans az;have ah:=((zr.alloc (zr.refl 0 0 c) (zi #[za im,za bm,za mb,za tb,za tn,za D,za dn] 108)).bk (w.heap.size+1)).trans aA;obtain⟨k0,k1,k2⟩:=aN U;have s3:(c.alloc (zi #[za im,za bm,za mb,za tb,za tn,za D,za dn] 108)).heap.size=c.heap.size+1:=zn;have aF:Hid (zr 0 0 w (c.alloc (zi #[za im,za bm,za mb,za tb,za tn,za D,za dn] 108))):=aC.alloc _
 clear az aA aC;go_wp2_with fail;generalize c.alloc (zi #[za im,za bm,za mb,za tb,za tn,za D,za dn] 108)=w3 at*;refine(Vg w3 b bh aU).mono ?_;rintro e w4 ⟨dv,rfl,o4,h4⟩;obtain⟨gD,cp,rfl⟩:=o4.slice_of (by rw[nC];omega);rw[nC] at o4;rw[nC];obtain⟨N,hN⟩: ∃N,N=b*64:=⟨_,rfl⟩;rw[←hN];rw[←hN] at o4;have HN:Hid (N=b*64):=hN;have ad:N≤1048576:=zk;have be:=o4.lt gD rfl;have s4:=h4.size;have ao:Hid (Ms w (w4.alloc (zi #[zg gD N cp,zc] 26)) c.heap.size gD w4.heap.size N cp b l n im bm mb tb tn D dn (List.replicate N (0:Int))):=by
  have c5:zr 0 0 w3 (w4.alloc (zi #[zg gD N cp,zc] 26)):=h4.alloc _;refine⟨c5.bt U,c5.bt ah,c5.bt aS,zt w4 _,(o4.chg (zr.al w4) (by intro g _;omega)).base (fun g a=>by cases a;show w.heap.size+2≤gD;omega),⟨zk,zk,zk⟩,aF.out.trans c5⟩
 clear aF U ah aS k0 k1 k2 h4 o4 hN be s4;go_upto_region 6 with fail;generalize w4.alloc (zi #[zg gD N cp,zc] 26)=W6 at*;clear s3 s2 s1 z;clear w3;generalize w4.heap.size=DB at*;generalize c.heap.size=PB at*;clear w4 c w1 w0;have ap:Hid ((List.replicate N (0:Int)).length=N):=nC;obtain⟨D6,av⟩: ∃d,d=List.replicate N (0:Int):=⟨_,rfl⟩;rw[←av] at ao ap;have a0:Hid (D6=List.replicate N (0:Int)):=av;clear av
 have s:Hid (Ms w W6.drew PB gD DB N cp b l n im bm mb tb tn D dn D6):=ao.chg (zr.drew (zr.refl 0 0 W6));clear ao;refine js (fun w':World=>w'.heap[DB]?=some (zi #[zg gD N cp,zc] 26)∧w'.heap[w.heap.size]?=some (zi #[za b,za l,za n] 64)∧w'.heap[PB]?=some (zi #[za im,za bm,za mb,za tb,za tn,za D,za dn] 108)) ay ?_;generalize W6.drew=X6 at*;have HS:Hid ((fun w':World=>w'.heap[DB]?=some (zi #[zg gD N cp,zc] 26)∧w'.heap[w.heap.size]?=some (zi #[za b,za l,za n] 64)∧w'.heap[PB]?=some (zi #[za im,za bm,za mb,za tb,za tn,za D,za dn] 108)) X6):=⟨s.db,s.g0,s.pb⟩
 refine hT2 0 (zh DB) rfl ?_;go_simp;refine hTk 1 (zg gD N cp) rfl (fun w' o=>by obtain⟨h4,h5⟩:=QG o.1;go_simp) HS.out ?_;go_simp;refine hTk 2 (.agg #[za b,za l,za n]) rfl (fun w' o=>by obtain⟨h4,h5,h6⟩:=aN o.2.1;go_simp) HS.out ?_;go_simp;refine hOn 3 rfl ?_;refine zv 62 #[Na b l n] zq ((show Calls _ _ _ _ _ from by have h:=Yf X6 b l n;rw[HE.out] at h;exact h)) ?_;rintro e Y6 ⟨v,rfl,B,f⟩;have t:Hid (Ms w Y6 PB gD DB N cp b l n im bm mb tb tn D dn D6):=s.chg f
 have HS:Hid ((fun w':World=>w'.heap[DB]?=some (zi #[zg gD N cp,zc] 26)∧w'.heap[w.heap.size]?=some (zi #[za b,za l,za n] 64)∧w'.heap[PB]?=some (zi #[za im,za bm,za mb,za tb,za tn,za D,za dn] 108)) Y6):=⟨t.db,t.g0,t.pb⟩;have Q:Hid (zu Y6 (DB+1) 5 v (fsL b l n)):=B.base (fun g a=>by have:=(B.lt g a).1;have:=s.lt;omega);clear s f B;refine⟨_,rfl,HS,?_⟩;go_simp;refine hOn 4 rfl ?_;refine zv 61 #[zg gD N cp,za (0),v] zq (t.out.l1Put ap.out ad (fsL b l n) (dE HG.out) (0) (by have:=A.out;have:=HN.out;omega) Q.out) ?_
 rintro e W7 ⟨rfl,hK,hL,f⟩;have J:Hid (Ms w W7 PB gD DB N cp b l n im bm mb tb tn D dn (splice D6 ((0)*64) (fsL b l n))):=hK;have aK:Hid ((splice D6 ((0)*64) (fsL b l n)).length=N):=hL;have L:Hid ((fun w':World=>w'.heap[DB]?=some (zi #[zg gD N cp,zc] 26)∧w'.heap[w.heap.size]?=some (zi #[za b,za l,za n] 64)∧w'.heap[PB]?=some (zi #[za im,za bm,za mb,za tb,za tn,za D,za dn] 108)) W7):=⟨J.db,J.g0,J.pb⟩
 clear hK hL f HS t ap Q;refine⟨_,rfl,L,?_⟩;clear L;obtain⟨D7,aw⟩: ∃d,d=splice D6 ((0)*64) (fsL b l n):=⟨_,rfl⟩;rw[←aw] at J aK;have a1:Hid (D7=splice D6 ((0)*64) (fsL b l n)):=aw;clear aw;refine hDn ?_;go_upto_region 7 with fail;have u:Hid (Ms w W7.drew PB gD DB N cp b l n im bm mb tb tn D dn D7):=J.chg (zr.drew (zr.refl 0 0 W7));clear J;refine js (fun w':World=>w'.heap[DB]?=some (zi #[zg gD N cp,zc] 26)∧w'.heap[w.heap.size]?=some (zi #[za b,za l,za n] 64)∧w'.heap[PB]?=some (zi #[za im,za bm,za mb,za tb,za tn,za D,za dn] 108)) ay ?_
 generalize W7.drew=X7 at*;have HS:Hid ((fun w':World=>w'.heap[DB]?=some (zi #[zg gD N cp,zc] 26)∧w'.heap[w.heap.size]?=some (zi #[za b,za l,za n] 64)∧w'.heap[PB]?=some (zi #[za im,za bm,za mb,za tb,za tn,za D,za dn] 108)) X7):=⟨u.db,u.g0,u.pb⟩;refine hT2 0 (zh DB) rfl ?_;go_simp;refine hTk 1 (zg gD N cp) rfl (fun w' o=>by obtain⟨h4,h5⟩:=QG o.1;go_simp) HS.out ?_;go_simp;refine hT2 2 (.pointer (some ⟨w.heap.size,1,none⟩)) rfl ?_
 go_simp;refine hTk 3 (za l) rfl (fun w' o=>by obtain⟨h4,h5,h6⟩:=aN o.2.1;go_simp) HS.out ?_;go_simp;refine hT2 4 (.agg #[za l,za 0,za 1]) rfl ?_;go_simp;refine hOn 5 rfl ?_;refine zv 53 #[.agg #[za l,za 0,za 1]] zq (Q9 X7 l 0 1 ⟨zk,zk,zk,zk,zk,zk⟩ (kn _ _ _)) ?_;rintro e Y7 ⟨v,rfl,B,f⟩;have G:Hid _:=u.chg f;have HS:Hid (_∧_∧_):=⟨G.db,G.g0,G.pb⟩;have Q:Hid (zu Y7 (DB+1) 5 v (mkJ l)):=B.base (fun g a=>by have:=(B.lt g a).1;have:=u.lt;omega)
 refine⟨_,rfl,HS,?_⟩;go_simp;refine hOn 6 rfl ?_;refine zv 61 #[zg gD N cp,za (1),v] zq (G.out.l1Put aK.out ad (mkJ l) (dJ) (1) (by have:=A.out;have:=HN.out;omega) Q.out) ?_;rintro e W8 ⟨rfl,hK,hL,f⟩;have K:Hid _:=hK;have aq:Hid _:=hL;have L:Hid (_∧_∧_):=⟨K.db,K.g0,K.pb⟩;refine⟨_,rfl,L,?_⟩;obtain⟨D8,aT⟩: ∃d,d=splice D7 ((1)*64) (mkJ l):=⟨_,rfl⟩;rw[←aT] at K aq;have a2:Hid _:=aT;refine hDn ?_;go_wp2_with fail
 refine(qS W8 64).mono ?_;rintro e W9 ⟨gM,rfl,B,f⟩;have a4:Hid _:=K.chg f;have Q:Hid (zu W9 (DB+1) 5 (zg gM 64 64) (jn n 0)):=B.base (fun g a=>by have:=(B.lt g a).1;have:=K.lt;omega);go_wp2;go_loopw [6,7] (fun x y wr=> ∃(k:Nat),y=za k∧k≤512∧zu wr (DB+1) 5 x (jn n k)∧Ms w wr PB gD DB N cp b l n im bm mb tb tn D dn D8) (fun _ y _=>512-(intOf y).toNat)
 case atStart=>exact⟨0,rfl,zk,Q,a4⟩
 case round=>
  obtain⟨k,rfl,hk,P,S⟩:=hrel;obtain⟨f1,f2⟩:=XM n k hk;obtain⟨k0,k1,k2⟩:=aN S.g0;have HK:Hid _:=S;have ag:Hid _:=P;have R:=Jo wr (k:Int) true f2 zk (P.view zk (hi:=wr.heap.size) (fun g a=>(P.lt g a).2));by_cases bn:k<512
  ·have ae:(k:Int)<512:=zk;by_cases f:k=0∨n≤k
   ·have Hn:Hid (Qy (jn n k) (k:Int) true=jn n (k+1)):=by show _=_;rw[jn,mM f]
    rw[Hn.out] at R;have af: ∀(e:Ending) (c:World),(∃v,e= .returned v∧zu c wr.heap.size 5 v (jn n (k+1))∧zr 0 0 wr c)→ ∃v,e= .returned v∧Hid (zu c (DB+1) 5 v (jn n (k+1)))∧Hid (Ms w c PB gD DB N cp b l n im bm mb tb tn D dn D8):=by
     rintro e c ⟨v2,rfl,o2,c2⟩;exact⟨v2,rfl,o2.base (fun g a=>by have:=(o2.lt g a).1;have:=HK.lt;omega),HK.chg c2⟩
    by_cases h0:k=0
    ·have ab:(k:Int)=0:=zk;subst h0;go_wp2_with fail;refine R.mono ?_;intro e c h2;obtain⟨v2,rfl,HO2,HK2⟩:=af e c h2;go_wp2;go_roundw
     case rel=>exact⟨1,by rfl,zk,HO2,HK2⟩
     case measure=>simp[intOf]
    ·have ab: ¬(k:Int)=0:=zk;have au:(n:Int)≤(k:Int):=zk;go_wp2_with fail;refine R.mono ?_;intro e c h2;obtain⟨v2,rfl,HO2,HK2⟩:=af e c h2;go_wp2;go_roundw
     case rel=>exact⟨k+1,by go_num,zk,HO2.out,HK2.out⟩
     case measure=>simp[intOf];omega
   ·have Hn:Hid (jn n (k+1)=jn n k):=by show _=_;rw[jn,mN f]
    have h0: ¬k=0:=zk;have ab: ¬(k:Int)=0:=zk;have au: ¬(n:Int)≤(k:Int):=zk;go_wp2;go_roundw
    case rel=>exact⟨k+1,by go_num,zk,by rw[Hn.out];exact ag.out,HK.out⟩
    case measure=>simp[intOf];omega
  ·have ae: ¬(k:Int)<512:=zk;have aL:Hid (zu wr (DB+1) 5 u6 (JE n)):=by show zu _ _ _ _ _;rw[←N4 bo,show 512=k by omega];exact P
   obtain⟨j0,j1⟩:=QG S.db;obtain⟨p0,p1,p2,p3,p4,p5,p6⟩:=seven S.pb;have I:=HK.l1Put aq ad (JE n) (VL aX) im (by have:=A.out;have:=HN.out;omega) aL;clear P S R ag;go_wp2_with fail;refine I.mono ?_;rintro e a9 ⟨rfl,hK,hL,f⟩;have C:Hid _:=hK;have H:Hid _:=hL;clear hK hL f I HK aL aq j0 j1 p0 p1 p2 p3 p4 p5 p6 k0 k1 k2;obtain⟨D14,ac⟩: ∃d,d=splice D8 ((im)*64) (JE n):=⟨_,rfl⟩;rw[←ac] at C H;have aG:Hid _:=ac
   clear ac;obtain⟨M,hM⟩: ∃M:Nat,M=64*mb:=⟨_,rfl⟩;obtain⟨T,hT⟩: ∃T:Nat,T=512*mb:=⟨_,rfl⟩;obtain⟨E,hE⟩: ∃E:Nat,E=8*mb:=⟨_,rfl⟩;have HM:Hid (_∧_∧_):=⟨hM,hT,hE⟩;have bw:M≤256:=by have:=A.out;omega
   have bx:T≤2048:=by have:=A.out;omega
   have x1:(mb:Int)*64=(M:Int):=zk;have x2:IntKind.i64.wrap (M:Int)=(M:Int):=by rw[mS];omega
   have x3:(8:Int)*(mb:Int)=(E:Int):=zk;have x4:IntKind.i64.wrap (E:Int)=(E:Int):=by rw[mS];omega
   have x5:(E:Int)*64=(T:Int):=zk;have x6:IntKind.i64.wrap (T:Int)=(T:Int):=by rw[mS];omega
   clear hM hT hE;obtain⟨p0,p1,p2,p3,p4,p5,p6⟩:=seven C.pb;have hZ:=qS a9 M;go_wp2_with fail;refine hZ.mono ?_;rintro e ba ⟨bf,rfl,B,f⟩;have aH:Hid _:=C.chg f;have Q:Hid (zu ba (DB+1) 5 (zg bf M M) (qN M D b 0)):=B.base (fun g a=>by have:=(B.lt g a).1;have:=C.lt;omega);go_wp2;go_loopw [8,9] (fun x y wr=> ∃(k:Nat),y=za k∧k≤T∧zu wr (DB+1) 5 x (qN M D b k)∧Ms w wr PB gD DB N cp b l n im bm mb tb tn D dn D14) (fun _ y _=>T-(intOf y).toNat)
   case atStart=>exact⟨0,rfl,zk,Q,aH⟩
   case round=>
    obtain⟨k,rfl,hk,P,S⟩:=hrel;obtain⟨f1,f2⟩:=XK M D b zk k (by have:=HM.out;omega);obtain⟨k0,k1,k2⟩:=aN S.g0;obtain⟨p0,p1,p2,p3,p4,p5,p6⟩:=seven S.pb;have HK:Hid _:=S;have ag:Hid _:=P;have R:=Jo wr (k:Int) true f2 zk (P.view zk (hi:=wr.heap.size) (fun g a=>(P.lt g a).2));by_cases bn:k<T
    ·have ae:(k:Int)<(T:Int):=zk;by_cases f:k<D∨b≤k
     ·have Hn:Hid (Qy (qN M D b k) (k:Int) true=qN M D b (k+1)):=by show _=_;rw[qN,mM f]
      rw[Hn.out] at R;have af: ∀(e:Ending) (c:World),(∃v,e= .returned v∧zu c wr.heap.size 5 v (qN M D b (k+1))∧zr 0 0 wr c)→ ∃v,e= .returned v∧Hid (zu c (DB+1) 5 v (qN M D b (k+1)))∧Hid (Ms w c PB gD DB N cp b l n im bm mb tb tn D dn D14):=by
       rintro e c ⟨v2,rfl,o2,c2⟩;exact⟨v2,rfl,o2.base (fun g a=>by have:=(o2.lt g a).1;have:=HK.lt;omega),HK.chg c2⟩
      by_cases h0:k<D
      ·have ab:(k:Int)<(D:Int):=zk;go_wp2_with fail;refine R.mono ?_;intro e c h2;obtain⟨v2,rfl,HO2,HK2⟩:=af e c h2;go_wp2;go_roundw
       case rel=>exact⟨k+1,by go_num,zk,HO2.out,HK2.out⟩
       case measure=>simp[intOf];omega
      ·have ab: ¬(k:Int)<(D:Int):=zk;have au:(b:Int)≤(k:Int):=zk;go_wp2_with fail;refine R.mono ?_;intro e c h2;obtain⟨v2,rfl,HO2,HK2⟩:=af e c h2;go_wp2;go_roundw
       case rel=>exact⟨k+1,by go_num,zk,HO2.out,HK2.out⟩
       case measure=>simp[intOf];omega
     ·have Hn:Hid (qN M D b (k+1)=qN M D b k):=by show _=_;rw[qN,mN f]
      have ab: ¬(k:Int)<(D:Int):=zk;have au: ¬(b:Int)≤(k:Int):=zk;go_wp2;go_roundw
      case rel=>exact⟨k+1,by go_num,zk,by rw[Hn.out];exact ag.out,HK.out⟩
      case measure=>simp[intOf];omega
    ·have ae: ¬(k:Int)<(T:Int):=zk;have Y:Hid (zu wr (DB+1) 5 u8 (jK mb D b)):=by
      show zu _ _ _ _ _;rw[←NI (by have:=A.out;omega) A.out.2.2.2.2.2.2.2,←HM.out.1,←HM.out.2.1,show T=k by omega];exact P
     have q:Hid ((jK mb D b).length=M):=by show _=_;rw[HM.out.1];exact Vv A.out.2.2.2.2.2.2.1 (by have:=A.out;omega) A.out.2.2.2.2.2.2.2
     obtain⟨gB,cB,rfl⟩:=Y.slice_of (by rw[q.out];have:=A.out;have:=HM.out;omega);rw[q.out] at Y⊢;have aI:Hid (Ms w wr PB gD DB N cp b l n im bm mb tb tn D dn (splice D14 (bm*64) ((jK mb D b).take (64*0)))):=by show Ms _ _ _ _ _ _ _ _ _ _ _ _ _ _ _ _ _ _;rw[aE];exact HK.out
     go_wp2;go_loopw [10] (fun x wr=> ∃(j:Nat),x=za j∧j≤mb∧zu wr (DB+1) 5 (zg gB M cB) (jK mb D b)∧Ms w wr PB gD DB N cp b l n im bm mb tb tn D dn (splice D14 (bm*64) ((jK mb D b).take (64*j)))) (fun x _=>mb-(intOf x).toNat)
     case atStart=>exact⟨0,rfl,zk,Y,aI⟩
     case round=>
      obtain⟨j,rfl,hj,P,S⟩:=hrel;have aM:Hid (zu wr (DB+1) 5 (zg gB M cB) (jK mb D b)):=P;have bj:=P.lt gB rfl;have a7:Hid (DB+1≤gB):=bj.1;have X:Hid ((splice D14 (bm*64) ((jK mb D b).take (64*j))).length=N):=KP (by rw[mW,H.out];have:=A.out;have:=HN.out;have:=HM.out;omega) H;have F:Hid _:=S;obtain⟨an,ak⟩: ∃d,d=splice D14 (bm*64) ((jK mb D b).take (64*j)):=⟨_,rfl⟩;rw[←ak] at F X;have ai:Hid _:=ak;obtain⟨p0,p1,p2,p3,p4,p5,p6⟩:=seven S.pb
      by_cases aV:j<mb
      ·have aW:(j:Int)<(mb:Int):=zk;obtain⟨r,hr⟩: ∃r:Nat,r=bm+j:=⟨_,rfl⟩;have bA:(bm:Int)+(j:Int)=(r:Int):=zk;have Hr:Hid (r=bm+j):=hr;have bB:r≤4096:=by have:=A.out;omega
       have bC:IntKind.i64.wrap (r:Int)=(r:Int):=by rw[mS];omega
       clear hr;go_upto_region 24 with fail;clear p0 p1 p2 p3 p4 p5 p6;have Z:Hid (zu wr.drew (DB+1) 5 (zg gB M cB) (jK mb D b)):=aM.chg (zr.drew (zr.refl 0 0 wr)) (by intro g _;omega);clear aM;have i:Hid _:=F.chg (zr.drew (zr.refl 0 0 wr));clear F;refine js (fun w':World=>w'.heap[DB]?=some (zi #[zg gD N cp,zc] 26)∧w'.heap[w.heap.size]?=some (zi #[za b,za l,za n] 64)∧w'.heap[PB]?=some (zi #[za im,za bm,za mb,za tb,za tn,za D,za dn] 108)) ay ?_
       generalize wr.drew=aQ at*;have HS:Hid (_∧_∧_):=⟨i.db,i.g0,i.pb⟩;refine hT2 0 (zh DB) rfl ?_;go_simp;refine hTk 1 (zg gD N cp) rfl (fun w' o=>by obtain⟨h4,h5⟩:=QG o.1;go_simp) HS.out ?_;go_simp;refine hT2 2 (.pointer (some ⟨PB,1,none⟩)) rfl ?_;go_simp;refine hTk 3 (za bm) rfl (fun w' o=>by obtain⟨h4,h5,h6,h7,h8,h9,bu⟩:=seven o.2.2;go_simp) HS.out ?_;go_simp;refine hT2 4 (za j) rfl ?_;go_simp
       refine hT2 5 (za r) rfl ?_;go_simp;refine hT2 6 (zg gB M cB) rfl ?_;go_simp;refine hT2 7 (za j) rfl ?_;go_simp;refine hOn 8 rfl ?_;refine zv 42 #[zg gB M cB,za j] zq ((show Calls _ _ _ _ _ from by have h:=UI aQ (k:=j) (ys:=jK mb D b) (cap:=cB) (g:=gB) (lo:=DB+1) (hi:=aQ.heap.size) (by rw[q.out];exact Z.out.view (by rw[q.out];omega) (fun g a=>(Z.out.lt g a).2)) (by rw[q.out];have:=HM.out;omega) (by rw[q.out];omega);rw[q.out] at h;exact h)) ?_
       rintro e aR ⟨v,rfl,B,f⟩;have m:Hid _:=i.chg f;have aO:Hid (zu aR (DB+1) 5 (zg gB M cB) (jK mb D b)):=Z.chg f (by intro g _;omega);have HS:Hid (_∧_∧_):=⟨m.db,m.g0,m.pb⟩;have Q:Hid (zu aR (DB+1) 5 v (XJ (jK mb D b) j)):=B.base (fun g a=>by have:=(B.lt g a).1;have:=i.lt;omega);refine⟨_,rfl,HS,?_⟩;go_simp;refine hOn 9 rfl ?_;refine zv 61 #[zg gD N cp,za ((r:Int)),v] zq (m.out.l1Put X.out ad (XJ (jK mb D b) j) (Yn (q.out.trans HM.out.1) aV) (r) (by have:=A.out;have:=HN.out;have:=Hr.out;omega) Q.out) ?_
       rintro e bc ⟨rfl,hK,hL,f⟩;have HOBz:Hid _:=aO.out.chg f (by intro g a;cases a;show gB<gD∨gD+1≤gB;have:=a7.out;have:=m.out.lo;omega);have HK25:Hid (Ms w bc PB gD DB N cp b l n im bm mb tb tn D dn (splice D14 (bm*64) ((jK mb D b).take (64*(j+1))))):=by
        show Ms _ _ _ _ _ _ _ _ _ _ _ _ _ _ _ _ _ _;rw[←gK (q.out.trans HM.out.1) aV (by rw[H.out];have:=A.out;have:=HN.out;omega),←ai.out,←Hr.out];exact hK
       have L:Hid (_∧_∧_):=⟨HK25.db,HK25.g0,HK25.pb⟩;refine⟨_,rfl,L,?_⟩;refine hDn ?_;go_wp2;go_roundw
       case rel=>exact⟨j+1,by go_num,zk,HOBz.out,HK25.out⟩
       case measure=>simp[intOf];omega
      ·have aW: ¬(j:Int)<(mb:Int):=zk;have a3:Hid (an=splice D14 (bm*64) (jK mb D b)):=by show _=_;rw[ai.out,ny (by rw[q.out];have:=HM.out;omega)]
       obtain⟨ti,bp,bq,br,bs⟩:=na Tryz.infoI64;go_wp2_with (at_make;refine pV _ rfl _ _ 33 rfl wr.heap.size 2 ti (za 0) 1 Tryz.underlying33 bp bq br _ _ _ _ 8 rfl rfl rfl rfl (by rw[bs];omega) (by unfold maxLen;omega) zn ?_);intro aa am ax;have OI:zM aa wr.heap.size 2 (zg wr.heap.size 8 8) (List.replicate 8 0):=by
        unfold zM;rw[nC,sy];rw[ix] at am;exact am
       have bd:zr 0 0 wr aa:=zr.ofGrown ax zn;have HK25:Hid _:=F.chg bd;have bg:=Ye aa (lo:=wr.heap.size) (hi:=aa.heap.size) dX (some (zd wr.heap.size)) 8 zn (OI.view zn (fun g a=>(OI.lt g a).2));go_wp2_with fail;refine bg.mono ?_;rintro e aP ⟨vi,rfl,oi,ci⟩;have aJ:Hid _:=HK25.chg ci;have a8:Hid (zu aP aa.heap.size 5 vi (QI dX)):=oi;go_wp2_with fail;refine(qS aP 32).mono ?_;rintro e ar ⟨gz,rfl,oz,cz⟩
       have aj:Hid _:=aJ.chg cz;have aZ:=a8.chg cz (by intro g _;omega);have hJ:=qw ar (by rw[EF];omega) zn (aZ.view (by rw[EF];omega) (hi:=ar.heap.size) (fun g a=>(aZ.lt g a).2)) (oz.view zn (hi:=ar.heap.size) (fun g a=>(oz.lt g a).2));rw[fO] at hJ;go_wp2_with fail;refine hJ.mono ?_;rintro e bb ⟨vj,rfl,oj,cj⟩;have V:Hid _:=aj.chg cj;have a5:Hid (zu bb (DB+1) 5 vj KN):=oj.base (fun g a=>by have:=(oj.lt g a).1;have:=aj.lt;omega)
       obtain⟨j0,j1⟩:=QG V.db;obtain⟨t0,t1,t2,t3,t4,t5,t6⟩:=seven V.pb;have I:=V.l1Put X ad KN EG tb (by have:=A.out;have:=HN.out;omega) a5;go_wp2_with fail;refine I.mono ?_;rintro e O ⟨rfl,hK,hL,f⟩;have HF:Hid (splice an (tb*64) KN=N9 b l n im bm mb tb D):=by show _=_;unfold N9;rw[a3.out,aG.out,a2.out,a1.out,a0.out,HN.out]
       obtain⟨j0,j1⟩:=QG hK.db;obtain⟨y0,y1,bD,bE⟩:=zw hK.r0;have bz:=hK.lo;have bv:=hK.lt;have HC:Hid (zr 0 0 w ((O.setCell (zd (w.heap.size+1)) (zg gD N cp)).setCell ⟨w.heap.size+1,1,none⟩ (zc))):=hK.ch.step (zr.set2 _ _ _ _);have Q:Hid (qK ((O.setCell (zd (w.heap.size+1)) (zg gD N cp)).setCell ⟨w.heap.size+1,1,none⟩ (zc)) w.heap.size O.heap.size 100 5 (.agg #[zg gD N cp,zc]) ⟨splice an (tb*64) KN,[]⟩):=by
        have n1:(zg gD N cp).ownBlock≠some (w.heap.size+1):=by simp[Value.ownBlock];omega
        refine⟨_,_,[],fun _=>zc,rfl,((hK.dr.base (base':=w.heap.size) (fun g a=>by cases a;show w.heap.size≤gD;omega)).set (p:=(zd (w.heap.size+1))) n1 _).set (p:=⟨w.heap.size+1,1,none⟩) n1 _,Z6.nil _ _ _ _,zn,?_,by simp[Value.ownBlock],zn⟩;intro g' bi
        cases bi
        show gD<O.heap.size;omega
       have a6:Hid (((O.setCell (zd (w.heap.size+1)) (zg gD N cp)).setCell ⟨w.heap.size+1,1,none⟩ (zc)).heap.size=O.heap.size):=by show _=_;simp[World.setCell]
       go_wp2;refine mT (v:= .agg #[zg gD N cp,zc]) (by simp[results,Tryz.results27,go_sem,y0,y1]) rfl ⟨_,rfl,?_,HC.out⟩;rw[←HF.out,a6.out];exact Q
theorem dd (w:World)(b l n:Int)(h:XC b l n=false):
  Calls Tryz.prog 27 #[Na b l n] w fun e w'=> ∃v,e= .returned v∧qK w' w.heap.size w'.heap.size 100 5 v Dsk.none∧zr 0 0 w w':=by
 have f:zr 0 0 w ((w.alloc (zi #[za b,za l,za n] 64)).alloc (zi #[zc,zc] 26)):=(zr.al w).alloc _;obtain⟨z,i,d⟩:=zU w (zi #[za b,za l,za n] 64) (zi #[zc,zc] 26);have a:=jT ((w.alloc (zi #[za b,za l,za n] 64)).alloc (zi #[zc,zc] 26)) b l n;rw[h] at a;clear h;go_enter Tryz.func27,Tryz.ntmps27;go_wp2_with fail;generalize (w.alloc (zi #[za b,za l,za n] 64)).alloc (zi #[zc,zc] 26)=w0 at*;refine a.mono ?_
 rintro e j ⟨rfl,h1⟩;have c:=(h1.bk (w.heap.size+1)).trans d;have o:=h1.size;have g:=f.trans h1;obtain⟨y0,y1,k,m⟩:=zw c;have HC:Hid (zr 0 0 w ((j.setCell (zd (w.heap.size+1)) (zc)).setCell ⟨w.heap.size+1,1,none⟩ (zc))):=g.step (zr.set2 _ _ _ _);clear a h1 i d f g c;go_wp2;exact mT (v:= .agg #[zc,zc]) (by simp[results,Tryz.results27,go_sem,y0,y1]) rfl ⟨_,rfl,qK.none _ _ _ _ _,HC.out⟩
def iz (b l n:Nat):List Int:=N9 b l n (2+l) (3+l) (upN b 512) (3+l+upN b 512) (Zf b l n)
def Eu (b l n:Int):Dsk:=if XC b l n=true then⟨iz b.toNat l.toNat n.toNat,[]⟩ else Dsk.none
theorem kQ {b l n:Int}(h:XC b l n=true): ∃p q r:Nat,b=p∧l=q∧n=r∧QR (p:Int) (q:Int) (r:Int)∧Zf p q r<p:=by
 have a:=ij h;obtain⟨h1,h2,h3,c,d,e⟩:=id a;refine⟨b.toNat,l.toNat,n.toNat,zk,zk,zk,?_,?_⟩
 ·exact⟨zk,zk,zk,zk,zk,zk⟩
 ·unfold XC at h;rw[Bool.and_eq_true,pJ,pJ] at h;exact h.2
theorem Ev {p q r:Nat}(h:XC p q r=true):Eu p q r=⟨iz p q r,[]⟩:=by unfold Eu;rw[mM h];simp
theorem Uo (w:World)(b l n:Int):
  Calls Tryz.prog 27 #[Na b l n] w fun e w'=> ∃v,e= .returned v∧qK w' w.heap.size w'.heap.size 100 5 v (Eu b l n)∧zr 0 0 w w':=by
 cases h:XC b l n with
 |false=>unfold Eu;rw[h];exact dd w b l n h
 |true=>
  obtain⟨p,q,r,rfl,rfl,rfl,a,c⟩:=kQ h;obtain⟨h1,h2,h3,i,j,k⟩:=id a;have d:upN p 512=(p+511)/512:=rfl;have f:upN (r*32) 64=(r*32+63)/64:=rfl;have g:Zf p q r=3+q+upN p 512+upN (r*32) 64:=rfl;rw[Ev h];exact aD w p q r (2+q) (3+q) (upN p 512) (3+q+upN p 512) (upN (r*32) 64) (Zf p q r) ((p:Int)-Zf p q r) a h rfl rfl zk rfl zk c
structure ZQ (lo hi:Int)(t:Tx):Prop where
 v:qy t
 b: ∀x∈t.homes,Byt x.2
 h: ∀x∈t.homes,lo≤x.1∧x.1≤hi
 r: ∀x∈t.rV,lo≤x∧x≤hi
def FB.rng (lo hi:Int):FB→Prop
 | .inl (_,rs)=> ∀x∈rs,lo≤x∧x≤hi
 | .inr (.inl (_,ts))=> ∀x∈ts,lo≤x.1∧x.1≤hi
 |_=>True
theorem aO {hi:Int}{t:Tx}(h:ZQ lo hi t): ∀x∈qx t,x.rng lo hi:=by
 intro x hx;unfold qx QT at hx;rcases nu.1 hx with hx|hx
 ·rcases nu.1 hx with hx|hx
  ·obtain⟨c,a,rfl⟩:=m9.1 hx;exact fun y b=>h.r y (Jd a y b)
  ·obtain⟨c,a,hx⟩:=rE.1 hx;unfold Yp at hx;rcases oJ.1 hx with rfl|hx
   ·intro y b;obtain⟨z,d,rfl⟩:=m9.1 b;exact h.h z (Jd a z d)
   ·obtain⟨y,_,rfl⟩:=m9.1 hx;trivial
 ·obtain rfl:=nx.1 hx;trivial
structure LI (d:Dsk)(sz:Nat)(F:Nat→FB)(st sq hd us q0:Nat)(ts:List Tx):Prop where
 log:qF d (sz+156) sz F st q0
 hdb:1≤hd∧hd≤sz
 usb:us≤sz
 z:st=0→us=0∧ts= []
 n:st≠0→hd=(st-1+us) % sz+1∧win F sz (st-1) us=ts.flatMap qx∧sq=q0+ts.length
 ok: ∀t∈ts,ZQ ((sz:Int)+2) ((sz:Int)+155) t
 seqs: ∀i,i<ts.length→(ts.getD i ⟨0,[],[]⟩).seq=(q0:Int)+i
 com: ∀i,i<sz→ ∀n c m,F i= .com n c m→n<(sq:Int)
 rng: ∀i,i<sz→(F i).rng ((sz:Int)+2) ((sz:Int)+155)
 sqb:1≤sq∧sq≤100000
 qb:q0≤100000
theorem LI.empty {d:Dsk}{F:Nat→FB}{st sq hd us:Nat}{ts:List Tx}(h:LI d sz F st sq hd us q0 ts)(h0:us=0):ts= []:=by
 by_cases hs:st=0
 ·exact(h.z hs).2
 ·have e:=(h.n hs).2.1;rw[h0] at e
  cases ts with
  |nil=>rfl
  |cons t r=>
   rw[nX] at e;have:qx t= []:=by
    have:=nI List.length e;rw[mL] at this;simp[win] at this;exact nT zk
   exact absurd this (NC t)
theorem LI.valid {d:Dsk}{F:Nat→FB}{st sq hd us:Nat}{ts:List Tx}(h:LI d sz F st sq hd us q0 ts):zQ sz st sq hd us=true:=by
 have f:=h.log.big;have a:=h.log.sb;have i:=h.sqb;have g:=h.hdb;have j:=h.usb;have b:Qm sz st sq hd us:=⟨⟨zk,zk⟩,⟨zk,zk⟩,a.1,⟨zk,zk⟩,zk,zk⟩;by_cases hs:st=0
 ·rw[Ja b];simp[(h.z hs).1]
 ·rw[Xm b];have e:=(h.n hs).1;apply mR;unfold qi;rw[show(st:Int)-1+(us:Int)=((st-1+us:Nat):Int) by omega];have c:((st-1+us:Nat):Int) % (sz:Int)=(((st-1+us) % sz:Nat):Int):=rfl;rw[c];omega
theorem LI.scan {d:Dsk}{F:Nat→FB}{st sq hd us:Nat}{ts:List Tx}(h:LI d sz F st sq hd us q0 ts)(hs:st≠0):QH ((sz:Int)+2) ((sz:Int)+155) (win F sz (st-1) sz) q0 ts:=by
 have o:=h.log.big;obtain⟨k,f,l⟩:=h.n hs;have p:=h.usb;have e:win F sz (st-1) sz=win F sz (st-1) us++win F sz (st-1+us) (sz-us):=by
  rw[←Xv];congr 1;omega
 rw[e,f];refine cU ts q0 _ h.log.sb.2.1 (fun t a=>⟨(h.ok t a).v,(h.ok t a).b,(h.ok t a).h,(h.ok t a).r⟩) h.seqs (fun n c m j=>?_);obtain⟨i,hi,g⟩:=Vp zk j;have:=h.com i hi n c m g.symm;omega
theorem LI.tail {d:Dsk}{F:Nat→FB}{st sq hd us:Nat}{ts:List Tx}(h:LI d sz F st sq hd us q0 ts):
  ∃st' b g:Nat,LI (doD d (Jt sz st sq hd us) (-1)) sz F st' sq hd b g []∧YN sz st sq hd us=Zl sz st' sq hd b:=by
 have j:=h.valid;have c:=h.hdb;have i:=h.sqb;have n:=h.log.big;have a:=jJ h.log.valid;unfold Jt YN;rw[mM j];by_cases h0:us=0
 ·refine⟨st,us,q0,?_,by rw[mN zk]⟩;rw[mN (by rw[h0];simp)];have f:=h.empty h0;have e:doD d [] (-1)=d:=by
   unfold doD;rw[mM ⟨a,zn⟩,XZ];rfl
  rw[e,←f];exact h
 ·refine⟨hd,0,sq,?_,by rw[mM zk];rfl⟩;rw[mM ⟨j,zk⟩];obtain⟨k,l,m⟩:=Yb (st':=(hd:Int)) (sq':=(sq:Int)) h.log ⟨zk,zk⟩ ⟨zk,zk⟩;have e:doD d (jh (qz 106 108 111 103 1 sz sq hd)) (-1)=k:=by
   unfold doD;rw[mM ⟨a,by simp[jh]⟩,XZ,l];rfl
  rw[e];refine⟨m,c,zk,fun e=>zk,fun _=>⟨?_,rfl,zn⟩,zn,zn,h.com,h.rng,i,i.2⟩;rw[oF,oN zk];omega
theorem ei {t:Tx}{n m:Int}(h:FB.com n c m∈qx t):n=t.seq:=by
 unfold qx QT at h;rcases nu.1 h with h|h
 ·rcases nu.1 h with h|h
  ·obtain⟨_,_,e⟩:=m9.1 h
   cases e
  ·obtain⟨c,_,e⟩:=rE.1 h;unfold Yp at e;rcases oJ.1 e with e|e
   ·cases e
   ·obtain⟨_,_,e⟩:=m9.1 e
    cases e
 ·have:=nx.1 h;unfold NM at this
  cases this
  rfl
theorem LI.app {d:Dsk}{F:Nat→FB}{st sq hd us:Nat}{ts:List Tx}(h:LI d sz F st sq hd us q0 ts){t:Tx}(q:ZQ ((sz:Int)+2) ((sz:Int)+155) t)(y:t.seq=sq)(hl:(TL t).length≤sz-us)(U:sq<100000:=by omega):
  ∃(O:Nat→FB) (st' s C M:Nat),LI (doD d (Zq sz st sq hd us t) (-1)) sz O st' (sq+1) s C M (ts++ [t])∧VW sz st sq hd us t=Zl sz st' ((sq+1:Nat):Int) s C∧st'≠0:=by
 have V:=h.valid;have T:=h.hdb;have hq:=h.sqb;have hb:=h.log.big;have hu:=h.usb;have K:=jJ h.log.valid;have f:0<sz:=zk;have r:(qx t).length=(TL t).length:=by rw[←jQ q.v,mO]
 have L:=QE q.v q.b;have A:qv sz st sq hd us t=true:=by
  unfold qv;rw[V,qu q.v,mR (show(sq:Int)=t.seq from y.symm),mR (show(sq:Int)<4294967295 by omega),mR (show((TL t).length:Int)≤(sz:Int)-us by omega)];rfl
 have S: ∀m:Nat,qi sz hd m=(((hd-1+m) % sz+1:Nat):Int):=by
  intro m;unfold qi;rw[show(hd:Int)-1+(m:Int)=((hd-1+m:Nat):Int) by omega];rfl
 obtain⟨D,B,X,j,a,o⟩: ∃(D:Dsk) (B:Nat),Zt d (zG sz st sq hd)=some D∧qF D (sz+156) sz F ((if st=0 then hd else st:Nat):Int) B∧(st≠0→B=q0)∧(st=0→B=sq):=by
  by_cases hs:st=0
  ·obtain⟨P,E,G⟩:=Yb (st':=(hd:Int)) (sq':=(sq:Int)) h.log ⟨zk,zk⟩ ⟨zk,zk⟩;refine⟨P,sq,?_,by rw[mM hs];exact G,fun e=>absurd hs e,fun _=>rfl⟩;unfold zG;rw[mM zk];exact E
  ·refine⟨d,q0,?_,by rw[mN hs];exact h.log,fun _=>rfl,fun e=>absurd e hs⟩;unfold zG;rw[mN zk];rfl
 obtain⟨Q,E,l⟩:=VQ j (hd-1) (qx t) zk L;rw[jQ q.v,r,show(((hd-1:Nat):Int)+1)=(hd:Int) by omega] at E;have H:doD d (Zq sz st sq hd us t) (-1)=Q:=by
  have J:(zG sz st sq hd++jl sz hd (TL t) (TL t).length++ [(2,0,[])]).length≤4000:=by
   rw[mL,mL,qM];have:(zG sz st sq hd).length≤2:=by unfold zG;split<;>simp[jh]
   simp;omega
  unfold doD Zq;rw[mM A,mM ⟨K,J⟩,XZ,nk,Qs,X];show(Zt D (jl sz hd (TL t) (TL t).length++ [(2,0,[])])).getD _=_;rw[E];rfl
 rw[H];refine⟨QD F sz (hd-1) (qx t),if st=0 then hd else st,(hd-1+(TL t).length) % sz+1,us+(TL t).length,B,?_,?_,?_⟩
 ·refine⟨l,⟨zk,by have:=nF (hd-1+(TL t).length) f;omega⟩,zk,fun e=>?_,fun _=>⟨?_,?_,?_⟩,?_,?_,?_,fun i hi=>?_,zk,by by_cases hs:st=0;(· rw[o hs];omega);(· rw[a hs];exact h.qb)⟩
  ·exfalso;split at e<;>omega
  ·by_cases hs:st=0
   ·rw[mM hs,(h.z hs).1,ni]
   ·rw[mN hs];have e:=(h.n hs).1;rw[show hd-1=(st-1+us) % sz by omega,sR,pm]
  ·rw[pW,Xv];by_cases hs:st=0
   ·obtain⟨Y,Z⟩:=h.z hs;rw[mM hs,Y,Z,←r];show win _ sz (hd-1) 0++win _ sz (hd-1+0) (qx t).length=_;rw[oF,aS f];simp[win]
   ·obtain⟨n1,W,n3⟩:=h.n hs;rw[mN hs];have I:hd-1=(st-1+us) % sz:=zk;have u: ∀i,i<sz→QD F sz (hd-1) (qx t) i=QD F sz (st-1+us) (qx t) i:=by
     intro i hi;unfold QD gap;rw[I,Nat.mod_mod]
    have N: ∀p k,win (QD F sz (hd-1) (qx t)) sz p k=win (QD F sz (st-1+us) (qx t)) sz p k:=by
     intro p k;unfold win;apply pz;intro i _;exact u _ (nF _ f)
    rw[N,N,EQ f,W,←r,aS f];simp
  ·by_cases hs:st=0
   ·rw[o hs,(h.z hs).2];simp
   ·rw[a hs,mL,(h.n hs).2.2];simp;omega
  ·intro x hx;rcases nu.1 hx with hx|hx
   ·exact h.ok x hx
   ·rw[nx.1 hx];exact q
  ·intro i hi;rw[mL,nJ] at hi;have w:st=0→ts= []:=fun hs=>(h.z hs).2;by_cases g:i<ts.length
   ·have hs:st≠0:=fun e=>by rw[w e] at g;simp at g
    have:=h.seqs i g;rw[a hs,←this];simp[nZ g]
   ·obtain rfl:i=ts.length:=zk;have G:((ts++ [t]).getD ts.length ⟨0,[],[]⟩)=t:=zn;rw[G,y];by_cases hs:st=0
    ·rw[o hs,w hs];simp
    ·rw[a hs,(h.n hs).2.2];omega
  ·intro i hi n c m e;rcases YF (F:=F) (sz:=sz) (p:=hd-1) (xs:=qx t) i with hm|hm
   ·rw[e] at hm;have:=ei hm;omega
   ·rw[e] at hm;have:=h.com i hi n c m hm.symm;omega
  ·rcases YF (F:=F) (sz:=sz) (p:=hd-1) (xs:=qx t) i with hm|hm
   ·exact aO q _ hm
   ·rw[hm];exact h.rng i hi
 ·unfold VW;rw[mM A,S];have R:(if(st:Int)=0 then(hd:Int) else(st:Int))=((if st=0 then hd else st:Nat):Int):=by split<;>split<;>first|rfl|omega
  rw[R];congr 1
 ·split<;>omega
theorem Kc {y:Int}(h:jv xs=true)(h1: ∀x∈xs,x<y)(h0:0≤y:=by omega)(h2:y<2048:=by omega):jv (xs++ [y])=true:=by
 rw[jI] at h⊢;intro i hi;rw[mL,nJ] at hi;by_cases e:i<xs.length
 ·have a:(xs++ [y]).getD i 0=xs.getD i 0:=by simp[nZ e]
  have c:qH (xs++ [y]) i=qH xs i:=by
   unfold qH;split
   ·rfl
   ·have:i-1<xs.length:=zk;simp[nZ this]
  rw[a,c];exact h i e
 ·obtain rfl:i=xs.length:=zk;have a:(xs++ [y]).getD xs.length 0=y:=zn;rw[a,jZ];refine⟨?_,h2⟩;unfold qH;split
  ·omega
  ·have b:xs.length-1<xs.length:=zk;rw[mV,nZ b,mZ b];exact h1 _ (nj b)
structure ShP (lo tt sq fr:Int)(t:Tx):Prop where
 seq:t.seq=sq
 rh:jv (t.homes.map (·.1))=true
 rr:jv t.rV=true
 bh: ∀x∈t.homes,lo≤x.1∧x.1<fr∧x.1<tt∧Byt x.2∧x.2.length=64
 br: ∀x∈t.rV,lo≤x∧x<fr∧x<tt
 ap: ∀x∈t.homes,x.1∉t.rV
 few:t.homes.length+t.rV.length≤128
 lo':lo≤fr
theorem ShP.nil :ShP lo tt sq lo ⟨sq,[],[]⟩:=⟨rfl,by simp[jv],by simp[jv],zn,zn,zn,zn,pd _⟩
theorem ShP.up {t:Tx}(h:ShP lo tt sq fr t)(b:fr≤fr'):ShP lo tt sq fr' t:=
 ⟨h.seq,h.rh,h.rr,fun x a=>⟨(h.bh x a).1,by have:=(h.bh x a).2.1;omega,(h.bh x a).2.2⟩,fun x a=>⟨(h.br x a).1,by have:=(h.br x a).2.1;omega,(h.br x a).2.2⟩,h.ap,h.few,by have:=h.lo';omega⟩
theorem ShP.home {t:Tx}(h:ShP lo tt sq fr t)(g:0≤lo)(j:tt≤2048)(c:fr<tt)(f:Byt ys∧ys.length=64)(i:t.homes.length+t.rV.length<128):ShP lo tt sq (fr+1) ⟨t.seq,t.homes++ [(fr,ys)],t.rV⟩:=by
 have a:=h.lo';refine⟨h.seq,?_,h.rr,fun x hx=>?_,fun x hx=>⟨(h.br x hx).1,by have:=(h.br x hx).2.1;omega,(h.br x hx).2.2⟩,fun x hx=>?_,by simp only[mL,nJ];omega,zk⟩
 ·rw[m6];refine Kc h.rh (fun x hx=>?_) (show 0≤fr by omega) (show fr<2048 by omega);obtain⟨e,b,rfl⟩:=m9.1 hx;exact(h.bh e b).2.1
 ·rcases nu.1 hx with hx|hx
  ·have:=h.bh x hx;exact⟨this.1,zk,this.2.2⟩
  ·rw[nx.1 hx];exact⟨a,by simp only;omega,c,f⟩
 ·rcases nu.1 hx with hx|hx
  ·exact h.ap x hx
  ·rw[nx.1 hx];intro d;have:=(h.br _ d).2.1;simp only at this;omega
theorem ShP.rev {t:Tx}(h:ShP lo tt sq fr t)(c:0≤lo)(e:tt≤2048)(b:fr<tt)(d:t.homes.length+t.rV.length<128):ShP lo tt sq (fr+1) ⟨t.seq,t.homes,t.rV++ [fr]⟩:=by
 have a:=h.lo';refine⟨h.seq,h.rh,?_,fun x hx=>⟨(h.bh x hx).1,by have:=(h.bh x hx).2.1;omega,(h.bh x hx).2.2⟩,fun x hx=>?_,fun x hx hm=>?_,by simp only[mL,nJ];omega,zk⟩
 ·exact Kc h.rr (fun x hx=>(h.br x hx).2.1)
 ·rcases nu.1 hx with hx|hx
  ·have:=h.br x hx;exact⟨this.1,zk,this.2.2⟩
  ·rw[nx.1 hx];exact⟨a,zk,b⟩
 ·rcases nu.1 hm with hm|hm
  ·exact h.ap x hx hm
  ·have:=(h.bh x hx).2.1;have:=nx.1 hm;omega
theorem ShP.good {hi:Int}{t:Tx}(h:ShP lo tt sq fr t)(d:1≤sq∧sq≤4294967295)(c:1≤t.homes.length+t.rV.length)(e:tt≤hi+1:=by omega):ZQ lo hi t:=by
 refine⟨⟨⟨by rw[h.seq];exact d,c,h.few⟩,h.rh,h.rr,fun i hi=>?_⟩,fun x a=>(h.bh x a).2.2.2.1,fun x a=>⟨(h.bh x a).1,by have:=(h.bh x a).2.2.1;omega⟩,fun x a=>⟨(h.br x a).1,by have:=(h.br x a).2.2;omega⟩⟩;have b:t.homes.getD i (0,[])∈t.homes:=by rw[mV,mZ hi];exact nj hi
 exact⟨(h.bh _ b).2.2.2.2,h.ap _ b⟩
theorem ShP.lone {t:Tx}(h:ShP lo tt sq fr t)(d:0≤lo)(a:lo<tt)(e:tt≤2048)(b:t.homes.length+t.rV.length=0):ShP lo tt sq tt ⟨t.seq,t.homes,[tt-1]⟩:=by
 obtain⟨q,hs,rs⟩:=t;simp only at b;obtain rfl:hs= []:=nT zk;refine⟨h.seq,h.rh,?_,zn,fun x c=>?_,zn,zn,zk⟩
 ·have:=Kc (xs:= []) (y:=tt-1) (by simp[jv]) zn;simpa using this
 ·rw[nx.1 c];omega
theorem zC.to0 {lo:Nat}{k:IntKind}(h:zC w lo hi k v xs):zC w 0 hi k v xs:=by
 obtain⟨c,cap,h1,h2,h3,f⟩:=h;exact⟨c,cap,h1,h2,h3,f.imp id (fun⟨b,a,d,_,e⟩=>⟨b,a,d,mX _,e⟩)⟩
theorem Uy {ops:Array Oper}{rest:List Oper}{o:Oper}{a:Act}{Q:Exit→Act→World→Prop}(n:o.guard=none)(s x:Operand)
  (D:o.op= .call {callee:= .builtin .append,args:= #[s,x],argTypes:= #[22,22]})
  (base:Nat) (t:Value) (xs:List Int) (hs:a.eval s=t) (B:zu w base 5 t xs) (g:base≤w.heap.size) (lo hi:Nat) (J:Value) (ys:List Int) (E:a.eval x=J) (I:zC w lo hi .u8 J ys) (H:xs.length+ys.length≤1048600)
  (h: ∀v w',zu w' base 5 v (xs++ys)→zr base w.heap.size w w'→wpList Tryz.prog ops Q rest (a.put o.dst v) w'):wpList Tryz.prog ops Q (o::rest) a w:=by
 by_cases h0:0<ys.length
 ·refine oV n fun _ hK=>?_;obtain⟨i,hi,p,q,r⟩:=na Tryz.infoU1;obtain⟨A,cap,rfl,_,_,m⟩:=I;obtain⟨b,f,rfl,L⟩: ∃b f,A=some ⟨b,f,none⟩∧ ∀i,i<ys.length→w.cell? ⟨b,f+i,none⟩=some (zb (ys.getD i 0)):=by
   rcases m with e|⟨b,f,e,_,_,h3⟩
   ·rw[e] at h0;simp at h0
   ·exact⟨b,f,e,h3⟩
  have z: ∀j u,(ys.map (Value.int .u8))[j]?=some u→w.cell? ((⟨b,f,none⟩:Addr).add j)=some u:=by
   intro j u G;have y:j<ys.length:=by have:=(nD.1 G).1;simpa using this
   rw[n9,L j y,←G];simp[y]
  have c:=B;refine oS _ s x 22 D base 5 i (zb 0) 1 1 Tryz.underlying22 hi p q r rfl zp t xs.length (xs.map (Value.int .u8)) hs c ⟨b,f,none⟩ ys.length cap (ys.map (Value.int .u8)) E zn z (nf _ _) (by unfold maxLen;omega) zk g ?_;intro v F l d _;refine hK _ _ (h v F ?_ (zr.ofGrown d (fun k C _=>np c k C)));unfold zu;rw[mL,m6];exact l
 ·obtain rfl:ys= []:=nT zk;obtain⟨i,hi',p,q,r⟩:=na Tryz.infoU1;obtain⟨A,cap,rfl,_,⟨_,M⟩,_⟩:=I;have c:=B
  cases A with
  |none=>
   obtain rfl:=M rfl;refine wpList_append_own_none n s x 22 D base 5 i 1 Tryz.underlying22 hi' t xs.length _ hs c E ?_;exact h t w (by rw[nw];exact B) (zr.refl _ _ _)
  |some ad=>
   refine oV n fun K hK=>?_;refine oS _ s x 22 D base 5 i (zb 0) 1 1 Tryz.underlying22 hi' p q r rfl zp t xs.length (xs.map (Value.int .u8)) hs c ad 0 cap [] E rfl zn zn (by unfold maxLen;simp at H;omega) (by simp at H;omega) g ?_;intro v F l d _;refine hK _ _ (h v F ?_ (zr.ofGrown d (fun k C _=>np c k C)));unfold zu;rw[nw];simpa using l
structure ShI (lo tt sq:Int)(wm:World)(M:Nat)(w:World)(fr:Int)(t:Tx)(hv rv:Value):Prop where
 em:wm.heap.size=M
 ch:zr M w.heap.size wm w
 ob:w.heap[M]?=some (zi #[za sq,hv,rv] 35)
 ow:qB w M hv rv t
 p:ShP lo tt sq fr t
theorem ShI.there {t:Tx}(h:ShI lo tt sq wm M w fr t hv rv){o:Obj}(a:wm.heap[T]?=some o):w.heap[T]?=some o:=by
 have h1:=(zE a);have:=h.em;exact(h.ch.bk T h1).trans a
theorem ShI.spt {t:Tx}(h:ShI lo tt sq wm M w fr t hv rv){b:Value}{ps:List Wr}{rs:List Int}(c:SpT wm base a b ps rs):SpT w base a b ps rs:=c.chg h.ch (Or.inr (Or.inr (by rw[h.em];exact mP _)))
theorem ShI.drew {t:Tx}(h:ShI lo tt sq wm M w fr t hv rv):ShI lo tt sq wm M w.drew fr t hv rv:=
 ⟨h.em,zr.drew h.ch,h.ob,h.ow.chg (zr.drew (zr.refl 0 0 w)) zk,h.p⟩
theorem ShI.next {t t':Tx}{hv' rv':Value}(h:ShI lo tt sq wm M w fr t hv rv){r:Nat}(c:zr M r w w')(e:r≤w'.heap.size)(a:w'.heap[M]?=some (zi #[za sq,hv',rv'] 35))(b:qB w' M hv' rv' t')(d:ShP lo tt sq fr' t'):ShI lo tt sq wm M w' fr' t' hv' rv':=
 ⟨h.em,(h.ch.widen (Or.inl nlR) (Or.inl c.size)).trans (c.widen (Or.inl nlR) (Or.inl e)),a,b,d⟩
theorem ShI.up {t:Tx}(h:ShI lo tt sq wm M w fr t hv rv)(a:fr≤fr'):ShI lo tt sq wm M w fr' t hv rv:=⟨h.em,h.ch,h.ob,h.ow,h.p.up a⟩
theorem ShI.app {t:Tx}(h:ShI lo tt sq wm M w fr t hv rv)(z:0≤lo)(C:tt≤2048)(y:fr<tt)(B:t.homes.length+t.rV.length<128:=by omega):
  (zM (w.alloc (zi #[za fr] 2)) M 2 rv t.rV∧zC (w.alloc (zi #[za fr] 2)) 0 (w.heap.size+1) .i64 (zg w.heap.size 1 1) [fr]∧M≤(w.alloc (zi #[za fr] 2)).heap.size)∧
  ∀c n,zM c M 2 n (t.rV++ [fr])→(w.alloc (zi #[za fr] 2)).grownBy c rv.ownBlock→c.heap[M]?=some (zi #[za sq,hv,rv] 35)∧ShI lo tt sq wm M (c.setCell ⟨M,2,none⟩ n) (fr+1) ⟨t.seq,t.homes,t.rV++ [fr]⟩ hv n:=by
 have o:zr 0 0 w (w.alloc (zi #[za fr] 2)):=zr.al w;have J:=zt w (zi #[za fr] 2);have sz:=o.size;have K:=(zE h.ob);obtain⟨x,D,E,F,G,L,H⟩:=h.ow;have f:zM (w.alloc (zi #[za fr] 2)) M 2 rv t.rV:=G.chg o (fun g _=>zk);refine⟨⟨f,⟨_,1,rfl,zn,⟨zn,zn⟩,Or.inr ⟨w.heap.size,0,rfl,mX _,m5 _,fun i hi=>?_⟩⟩,zk⟩,?_⟩
 ·obtain rfl:i=0:=by simpa using hi
  exact ng J
 ·intro c n I d;have u:=qh.grownE d f;have m: ∀(j:Nat) (a:Array Value) (T:TypeId),T≠2→w.heap[j]?=some (zi a T)→c.heap[j]?=some (zi a T):=fun j a T r b=>u j a T r ((o.bk j (zE b)).trans b);have l:=m _ _ _ zp h.ob;have N:=d.size;have q:zr M (M+1) c (c.setCell ⟨M,2,none⟩ n):=(zr.refl _ _ c).setCell (p:=⟨M,2,none⟩) (Or.inl zn) _;have O:=q.size;have v:=(o.widen).trans (zr.ofGrown d (fun k u A=>⟨(np f k u).1,zk⟩))
  have s:qB c M hv n ⟨t.seq,t.homes,t.rV++ [fr]⟩:=⟨x,D.keep (fun j a _ b=>m j a _ zp b) (fun j a _ b=>m j a _ zp b),E,F,I,by simp only[mL,nJ];omega,H⟩;refine⟨l,h.next (v.trans (q.widen)) zk (jS l _) (s.keep (fun j a T _ r b=>(q.block j (zE b) (by
   have:j≠M:=fun e=>by rw[e,l] at b;cases b;exact r rfl
   omega)).trans b)) (h.p.rev z C y B)⟩
theorem ShI.one {t:Tx}(h:ShI lo tt sq wm M w fr t hv rv)(n:0≤lo)(k:lo<tt)(q:tt≤2048)(o:t.homes.length+t.rV.length=0):
  (w.alloc (zi #[za (tt-1)] 2)).heap[M]?=some (zi #[za sq,hv,rv] 35)∧ShI lo tt sq wm M ((w.alloc (zi #[za (tt-1)] 2)).setCell ⟨M,2,none⟩ (zg w.heap.size 1 1)) tt ⟨t.seq,t.homes,[tt-1]⟩ hv (zg w.heap.size 1 1):=by
 have g:zr 0 0 w (w.alloc (zi #[za (tt-1)] 2)):=zr.al w;have sz:=g.size;have y:=(zE h.ob);obtain⟨l,r,s,u,z,A,v⟩:=h.ow;have d: ∀(j:Nat) (a:Array Value) (T:TypeId),w.heap[j]?=some (zi a T)→(w.alloc (zi #[za (tt-1)] 2)).heap[j]?=some (zi a T):=fun j a T b=>(g.bk j (zE b)).trans b;have c:=d _ _ _ h.ob;have f:zr M (M+1) (w.alloc (zi #[za (tt-1)] 2)) ((w.alloc (zi #[za (tt-1)] 2)).setCell ⟨M,2,none⟩ (zg w.heap.size 1 1)):=(zr.refl _ _ _).setCell (p:=⟨M,2,none⟩) (Or.inl zn) _
 have B:=f.size;have x:zM (w.alloc (zi #[za (tt-1)] 2)) M 2 (zg w.heap.size 1 1) [tt-1]:=nK (base:=M) (e:=2) (size:=1) w #[za (tt-1)] 1 zk (by unfold maxLen;omega) rfl;have i:qB (w.alloc (zi #[za (tt-1)] 2)) M hv (zg w.heap.size 1 1) ⟨t.seq,t.homes,[tt-1]⟩:=⟨l,r.keep (fun j a _ b=>d j a _ b) (fun j a _ b=>d j a _ b),s,u,x,zn,v⟩;refine⟨c,h.next ((g.widen).trans (f.widen (lo':=M) (hi':=(w.alloc (zi #[za (tt-1)] 2)).heap.size))) zk (jS c _) (i.keep (fun j a T _ m b=>(f.block j (zE b) (by
  have:j≠M:=fun e=>by rw[e,c] at b;cases b;exact m rfl
  omega)).trans b)) (h.p.lone n k q o)⟩
structure Sh1 (lo tt sq:Int)(wm:World)(M n:Nat)(x3 x14:Value)(w:World):Prop where
 ex: ∃(fr:Int) (k:Nat) (t:Tx) (hv rv:Value),x3=za fr∧x14=za k∧(k≤n∧fr≤2100)∧ShI lo tt sq wm M w fr t hv rv
def du (w w':World) (lo tt sq:Int) (e:Ending):Prop:= ∃hv rv t,e= .returned (.agg #[za sq,hv,rv])∧qB w' w.heap.size hv rv t∧t.seq=sq∧ZQ lo (tt-1) t∧zr 0 0 w w'
theorem ShI.fin {w0:World}{t:Tx}(h:ShI lo tt sq wm M w fr t hv rv)(b:zr 0 0 w0 wm)(e:w0.heap.size<M)(a:zr w0.heap.size (w0.heap.size+1) w wf)(c:1≤t.homes.length+t.rV.length)(d:1≤sq∧sq≤4294967295):du w0 wf lo tt sq (.returned (.agg #[za sq,hv,rv])):=by
 refine⟨hv,rv,t,rfl,(h.ow.chg a zk).low zk,h.p.seq,h.p.good d c,?_⟩;exact(b.step h.ch (Or.inr (Or.inl zk))).step a (Or.inr (Or.inl nlR))
theorem XN {cv:Value}{code:List Int}(hb:Byt code)(hl:code.length≤1048576)(hv:zC w 0 hi .u8 cv code)(i:Nat)(bB:i≤100)(sq lo tt:Int)(hq:1≤sq∧sq≤4294967295)(y:0≤lo∧lo<tt∧tt≤2048):
  Calls Tryz.prog 7 #[cv,za i,za sq,za lo,za tt] w fun e w'=>du w w' lo tt sq e:=by
 obtain⟨ao,cap,rfl,bm⟩:=id hv;have z2:=zt w (zi #[za 0,zc,zc] 35);have c1:zr 0 0 w (w.alloc (zi #[za 0,zc,zc] 35)):=zr.al w;have bi:w.heap.size<(w.alloc (zi #[za 0,zc,zc] 35)).heap.size:=(zE z2);have aL:Hid (zC (w.alloc (zi #[za 0,zc,zc] 35)) 0 hi .u8 (zj ao code.length cap) code):=hv.chg c1 zk;clear hv bm;have e1:(w.alloc (zi #[za 0,zc,zc] 35)).heap.size=w.heap.size+1:=World.size_alloc ..;have c2:zr 0 0 (w.alloc (zi #[za 0,zc,zc] 35)) ((w.alloc (zi #[za 0,zc,zc] 35)).alloc (zi #[zb (i:Int),zb ((i:Int)*7 % 256)] 5)):=zr.al _
 have HO:Hid (zu ((w.alloc (zi #[za 0,zc,zc] 35)).alloc (zi #[zb (i:Int),zb ((i:Int)*7 % 256)] 5)) (w.heap.size+1) 5 (zg (w.heap.size+1) 2 2) [(i:Int),(i:Int)*7 % 256]∧w.heap.size+1≤((w.alloc (zi #[za 0,zc,zc] 35)).alloc (zi #[zb (i:Int),zb ((i:Int)*7 % 256)] 5)).heap.size∧zC ((w.alloc (zi #[za 0,zc,zc] 35)).alloc (zi #[zb (i:Int),zb ((i:Int)*7 % 256)] 5)) 0 hi .u8 (zj ao code.length cap) code):=by
  have:=nK (base:=w.heap.size+1) (e:=5) (size:=1) (w.alloc (zi #[za 0,zc,zc] 35)) #[zb (i:Int),zb ((i:Int)*7 % 256)] 2 zk (by unfold maxLen;omega) rfl;rw[e1] at this;exact⟨this,by have:=c2.size;omega,aL.chg c2 zk⟩
 have Hc:Hid (zr 0 0 w ((w.alloc (zi #[za 0,zc,zc] 35)).alloc (zi #[zb (i:Int),zb ((i:Int)*7 % 256)] 5))):=c1.trans c2;have Hz:Hid (((w.alloc (zi #[za 0,zc,zc] 35)).alloc (zi #[zb (i:Int),zb ((i:Int)*7 % 256)] 5)).heap[w.heap.size]?=some (zi #[za 0,zc,zc] 35)):=c2.bt z2;clear z2 c1 c2 e1 bi aL;go_enter Tryz.func7,Tryz.ntmps7;go_upto_region 2 with(at_builtin;refine Uy rfl (.tmp 21) (.tmp 22) rfl (w.heap.size+1) (zg (w.heap.size+1) 2 2) [(i:Int),(i:Int)*7 % 256] rfl HO.out.1 (by have:=HO.out.2.1;omega) 0 hi (zj ao code.length cap) code rfl HO.out.2.2 (by simp;omega) ?_;intro sv w3 aE an)
 generalize (w.alloc (zi #[za 0,zc,zc] 35)).alloc (zi #[zb (i:Int),zb ((i:Int)*7 % 256)] 5)=w2 at*;have bo:Byt ([(i:Int),(i:Int)*7 % 256]++code):=by
  intro x hx;rcases nu.1 hx with hx|hx
  ·simp at hx;omega
  ·exact hb x hx
 have bj:=an.size;have av:Hid (zC w3 0 w3.heap.size .u8 sv ([(i:Int),(i:Int)*7 % 256]++code)):=(aE.view (by simp;omega) (fun g hg=>(aE.lt g hg).2)).to0;have aJ:Hid (zr 0 0 w w3):=Hc.step an (Or.inr (Or.inl zk));have ax:Hid (w3.heap[w.heap.size]?=some (zi #[za 0,zc,zc] 35)):=(an.bk _ (by have:=HO.2.1;omega)).trans Hz;obtain⟨sa,sn,sc,rfl⟩: ∃a n c,sv=zj a n c:=by obtain⟨a,c,e,_⟩:=av.out;exact⟨a,_,c,e⟩
 clear aE an Hc Hz HO;go_wp2_with fail;refine(XA bo (by simp;omega) av nlR).mono ?_;rintro e F ⟨tq,bI,bJ,ps,rs,rfl,hS,hf,ap⟩;obtain⟨r,f,rfl,P⟩:=hS.rows;obtain⟨o,q,rfl⟩:=hS.rv'.shape;clear P;obtain⟨n,Hn⟩: ∃n,Hid (n=ps.length):=⟨_,rfl⟩;obtain⟨m,Hm⟩: ∃m,Hid (m=rs.length):=⟨_,rfl⟩;rw[←Hn.out,←Hm.out] at hS hf⊢;have bl:=ap.size;have cm:zr 0 0 F (F.alloc (zi #[za tq,zj r n f,zj o m q] 35)):=zr.al _;have em:(F.alloc (zi #[za tq,zj r n f,zj o m q] 35)).heap.size=F.heap.size+1:=World.size_alloc ..
 have U:Hid (SpT (F.alloc (zi #[za tq,zj r n f,zj o m q] 35)) w3.heap.size (zj r n f) (zj o m q) ps rs∧(F.alloc (zi #[za tq,zj r n f,zj o m q] 35)).heap[F.heap.size]?=some (zi #[za tq,zj r n f,zj o m q] 35)∧(F.alloc (zi #[za tq,zj r n f,zj o m q] 35)).heap[w.heap.size]?=some (zi #[za 0,zc,zc] 35)∧zr 0 0 w (F.alloc (zi #[za tq,zj r n f,zj o m q] 35))):=by
  refine⟨hS.chg cm zk,zt _ _,?_,(aJ.trans ap).trans cm⟩;have bp:=(zE ax);exact cm.bt ((ap.bk _ bp).trans ax)
 have l:Hid (ShI lo tt sq (F.alloc (zi #[za tq,zj r n f,zj o m q] 35)) (F.heap.size+1) ((F.alloc (zi #[za tq,zj r n f,zj o m q] 35)).alloc (zi #[za sq,zc,zc] 35)) lo ⟨sq,[],[]⟩ (zc) (zc)):=by
  refine⟨em,(zr.al _).widen,by rw[←em];exact zt _ _,⟨[],qD.zero _ _,rfl,zn,⟨rfl,Or.inl ⟨rfl,rfl⟩⟩,zn,zn⟩,ShP.nil⟩
 have bE:n≤200∧m≤101:=hf;have bx:F.heap.size<(F.alloc (zi #[za tq,zj r n f,zj o m q] 35)).heap.size:=zk;clear hS hf ap cm av aJ ax bj bl;clear em;go_wp2;generalize (F.alloc (zi #[za tq,zj r n f,zj o m q] 35)).alloc (zi #[za sq,zc,zc] 35)=w6 at*;generalize F.alloc (zi #[za tq,zj r n f,zj o m q] 35)=wm at*;generalize F.heap.size=T at*;go_loopw [3,14] (fun x3 x14 wr=>Sh1 lo tt sq wm (T+1) n x3 x14 wr) (fun _ x14 _=>n-(intOf x14).toNat)
 case atStart=>exact⟨⟨lo,0,_,_,_,rfl,rfl,⟨zk,zk⟩,l⟩⟩
 case round=>
  clear l;obtain⟨fr,k,t,hv,rv,rfl,rfl,⟨aW,ag⟩,hI⟩:=hrel.ex;obtain⟨⟨a0,a1,a2⟩,_⟩:=tri (hI.there U.2.1);have l:Hid (ShI lo tt sq wm (T+1) wr fr t hv rv):=hI;clear hI hrel;go_upto_region 5 with fail;go_cut [37] from 28 to 77 (fun x wx=>x= .bool (decide (k<n∧fr<tt))∧wx=wr)
  case first=>
   by_cases h1:k<n
   ·by_cases h2:fr<tt
    ·have e1:decide ((k:Int)<(n:Int))=true:=mR zk;have e2:decide (fr<tt)=true:=mR h2;go_wp2;go_meet;exact⟨by rw[show decide (k<n∧fr<tt)=true from mR zk],rfl⟩
    ·have e1:decide ((k:Int)<(n:Int))=true:=mR zk;have e2:decide (fr<tt)=false:=mY h2;go_wp2;go_meet;exact⟨by rw[show decide (k<n∧fr<tt)=false from mY zk],rfl⟩
   ·have e1:decide ((k:Int)<(n:Int))=false:=mY zk;go_wp2;go_meet;exact⟨by rw[show decide (k<n∧fr<tt)=false from mY zk],rfl⟩
  case rest=>
   obtain⟨rfl,hwc⟩:=hcut;obtain rfl:wr=wc:=hwc.symm;by_cases hc:k<n∧fr<tt
   ·have hd:decide (k<n∧fr<tt)=true:=mR hc;have aX:k<ps.length:=by have:=Hn.out;omega
    obtain⟨bu,bv,e,P⟩:=U.1.rows;obtain⟨g,bq,rfl,hg,v,bc⟩:=P zk;simp only[ns] at e;obtain⟨rfl,e2,rfl⟩:=e;clear e2 P v;obtain⟨c0,⟨dv,c1,aq⟩,a6,a7⟩:=(l.spt U.1).at k aX;have ar:=U.1.fine (ps.getD k (0,[])) (by rw[mV,mZ aX];exact nj _);obtain⟨ys,a5⟩: ∃ys,Hid (ys=(ps.getD k (0,[])).2):=⟨_,rfl⟩;rw[←a5.out] at ar aq;have aj:Hid (Byt ys∧0<ys.length∧ys.length≤64):=ar;have aw:Hid (zC wr w3.heap.size wr.heap.size .u8 dv ys):=aq.view ar.2.2
    obtain⟨da,dcap,rfl,-⟩: ∃a c,dv=zj a ys.length c∧True:=by obtain⟨a,b,c,_,e,_⟩:=aq;exact⟨_,_,e,trivial⟩
    obtain⟨L,HL⟩: ∃L,Hid (L=ys.length):=⟨_,rfl⟩;rw[←HL.out] at c1 aw;have hL:L≤64:=by have:=HL.out;omega
    clear ar aq c0 a6 a7;obtain⟨es,o1,Z,o3,o4,o5,o6⟩:=l.ow;obtain⟨ha,hn,hcp,rfl⟩:=o1.slice;obtain rfl:hn=es.length:=by
     rcases o1.row.2 with⟨e,e2⟩|⟨_,_,_,e,_⟩
     ·simp only[ns] at e;omega
     ·simp only[ns] at e;exact e.2.1
    obtain⟨ra,rc,rfl⟩:=o4.shape;obtain⟨rn,B⟩: ∃rn,Hid (rn=t.rV.length):=⟨_,rfl⟩;rw[←B.out] at l o4;have A:Hid ((qD wr (T+1) (zj ha es.length hcp) es∧es.map (fun e=>(e.1,e.2.2))=t.homes)∧(∀e∈es,e.2.2.length=64∧Byt e.2.2)∧zM wr (T+1) 2 (zj ra rn rc) t.rV):=⟨⟨o1,Z⟩,o3,o4⟩;have af:es.length=t.homes.length:=by rw[←Z,mO]
    have aT:es.length+rn≤128:=by have:=l.p.few;have:=B.out;omega
    have aa:Hid _:=af;obtain⟨cn,s⟩: ∃cn,Hid (cn=es.length+rn):=⟨_,rfl⟩;have a9:cn≤128:=by have:=s.out;omega
    have d:IntKind.i64.wrap ((es.length:Int)+(rn:Int))=(cn:Int):=by have:=s.out;rw[mS];omega
    clear aT;clear o1 Z o3 o4 o5 o6 af;obtain⟨⟨b0,b1,b2⟩,fb⟩:=tri l.ob;have bC:(k:Int)<(n:Int):=zk;go_upto_region 7 with fail;go_cut [57] from 28 to 77 (fun x wx=>x= .bool (decide (L=64∧cn<128))∧wx=wr)
    case first=>
     by_cases h1:L=64
     ·subst h1;by_cases h2:cn<128
      ·have e2:=mR zk;have e3:(cn:Int)<128:=zk;go_wp2;go_meet;exact⟨by congr 1;symm;exact mR ⟨trivial,zk⟩,rfl⟩
      ·have e2:=mY zk;have e3: ¬(cn:Int)<128:=zk;go_wp2;go_meet;exact⟨by congr 1;symm;exact mY (fun h=>by have:=h.2;omega),rfl⟩
     ·have e1:((L:Int)==64)=false:=by simp;omega
      go_wp2;go_meet;exact⟨by rw[show decide (L=64∧cn<128)=false from mY zk],rfl⟩
    case rest=>
     obtain⟨rfl,hwc⟩:=hcut;obtain rfl:wr=wc:=hwc.symm;generalize J:decide (L=64∧cn<128)=bb
     cases bb
     rotate_left
     ·obtain⟨aP,br⟩:=pt J;clear J;subst aP;obtain⟨gc,O⟩:=JC U.1;have Hg:Hid _:=O;have v:gc[k*2+1]?=some (zj da 64 dcap):=by
       have h9:=l.there O;have h8:=c1;simp[World.cell?,h9] at h8;exact h8
      have bA:g<T+1:=by have h9:=(zE O);have:=l.em;omega
      clear O;go_wp2;refine wRg 15 (fun w':World=>w'.heap[T+1]?=some (zi #[za sq,zj ha es.length hcp,zj ra rn rc] 35)∧w'.heap[T]?=some (zi #[za tq,zg g n f,zj o m q] 35)∧w'.heap[g]?=some (zi gc 68)) ?_;have HX:Hid _:=l.drew;have cd:=zr.drew (zr.refl 0 0 wr);have G:Hid (((qD wr.drew (T+1) (zj ha es.length hcp) es∧es.map (fun e=>(e.1,e.2.2))=t.homes)∧(∀e∈es,e.2.2.length=64∧Byt e.2.2)∧zM wr.drew (T+1) 2 (zj ra rn rc) t.rV)∧zC wr.drew w3.heap.size wr.drew.heap.size .u8 (zj da 64 dcap) ys):=⟨⟨⟨A.1.1.chg cd zk,A.1.2⟩,A.2.1,A.2.2⟩,aw.chg cd zk⟩
      have HS:Hid (_∧_∧_):=⟨HX.ob,HX.there U.2.1,HX.there Hg⟩;clear cd l A aw a0 a1 a2 b0 b1 b2 fb c1 d;generalize wr.drew=X at*;refine wTk 0 (.pointer (some ⟨T+1,1,none⟩)) rfl (fun w' d=>by obtain⟨C,D,E⟩:=d;have q4:w'.cell? ⟨g,k*2+1,none⟩=some (zj da 64 dcap):=(by simp[World.cell?,E,v]);obtain⟨⟨h0,h1,h2⟩,_⟩:=tri C;obtain⟨⟨Q,R,S⟩,_⟩:=tri D;go_simp) HS.out ?_;go_simp;refine wTk 1 (zj ha es.length hcp) rfl (fun w' d=>by obtain⟨C,D,E⟩:=d;have q4:w'.cell? ⟨g,k*2+1,none⟩=some (zj da 64 dcap):=(by simp[World.cell?,E,v]);obtain⟨⟨h0,h1,h2⟩,_⟩:=tri C;obtain⟨⟨Q,R,S⟩,_⟩:=tri D;go_simp) HS.out ?_
      go_simp;refine wTk 2 (za fr) rfl (fun w' d=>by obtain⟨C,D,E⟩:=d;have q4:w'.cell? ⟨g,k*2+1,none⟩=some (zj da 64 dcap):=(by simp[World.cell?,E,v]);obtain⟨⟨h0,h1,h2⟩,_⟩:=tri C;obtain⟨⟨Q,R,S⟩,_⟩:=tri D;go_simp) HS.out ?_;go_simp;refine wTk 4 (.pointer (some ⟨T,1,none⟩)) rfl (fun w' d=>by obtain⟨C,D,E⟩:=d;have q4:w'.cell? ⟨g,k*2+1,none⟩=some (zj da 64 dcap):=(by simp[World.cell?,E,v]);obtain⟨⟨h0,h1,h2⟩,_⟩:=tri C;obtain⟨⟨Q,R,S⟩,_⟩:=tri D;go_simp) HS.out ?_
      go_simp;refine wTk 5 (zg g n f) rfl (fun w' d=>by obtain⟨C,D,E⟩:=d;have q4:w'.cell? ⟨g,k*2+1,none⟩=some (zj da 64 dcap):=(by simp[World.cell?,E,v]);obtain⟨⟨h0,h1,h2⟩,_⟩:=tri C;obtain⟨⟨Q,R,S⟩,_⟩:=tri D;go_simp) HS.out ?_;go_simp;refine wTk 6 (za k) rfl (fun w' d=>by obtain⟨C,D,E⟩:=d;have q4:w'.cell? ⟨g,k*2+1,none⟩=some (zj da 64 dcap):=(by simp[World.cell?,E,v]);obtain⟨⟨h0,h1,h2⟩,_⟩:=tri C;obtain⟨⟨Q,R,S⟩,_⟩:=tri D;go_simp) HS.out ?_
      go_simp;refine wTk 7 (.pointer (some ⟨g,k*2,none⟩)) rfl (fun w' d=>by obtain⟨C,D,E⟩:=d;have q4:w'.cell? ⟨g,k*2+1,none⟩=some (zj da 64 dcap):=(by simp[World.cell?,E,v]);obtain⟨⟨h0,h1,h2⟩,_⟩:=tri C;obtain⟨⟨Q,R,S⟩,_⟩:=tri D;go_simp) HS.out ?_;go_simp;refine wTk 8 (.pointer (some ⟨g,k*2+1,none⟩)) rfl (fun w' d=>by obtain⟨C,D,E⟩:=d;have q4:w'.cell? ⟨g,k*2+1,none⟩=some (zj da 64 dcap):=(by simp[World.cell?,E,v]);obtain⟨⟨h0,h1,h2⟩,_⟩:=tri C;obtain⟨⟨Q,R,S⟩,_⟩:=tri D;go_simp) HS.out ?_
      go_simp;refine wTk 9 (zj da 64 dcap) rfl (fun w' d=>by obtain⟨C,D,E⟩:=d;have q4:w'.cell? ⟨g,k*2+1,none⟩=some (zj da 64 dcap):=(by simp[World.cell?,E,v]);obtain⟨⟨h0,h1,h2⟩,_⟩:=tri C;obtain⟨⟨Q,R,S⟩,_⟩:=tri D;go_simp) HS.out ?_;go_simp;refine wOn 3 rfl ?_;have H:zr 0 0 X (X.alloc (zi #[] 5)):=zr.al X;have bG:=H.size;have bz:=(zE HS.1);have aH:Hid (_∧_∧_):=⟨H.bt HS.1,H.bt HS.2.1,H.bt HS.2.2⟩;have ah:Hid (zu (X.alloc (zi #[] 5)) X.heap.size 5 (zg X.heap.size 0 0) []∧zC (X.alloc (zi #[] 5)) w3.heap.size X.heap.size .u8 (zj da 64 dcap) ys):=⟨zu.bnil X _ nlR,G.2.chg H zk⟩
      have au:Hid _:=H;clear H;go_simp;refine⟨aH,?_⟩;generalize X.alloc (zi #[] 5)=X1 at*;refine wOn 10 rfl ?_;refine YQ (.tmp 61) (.tmp 67) rfl X.heap.size (zg X.heap.size 0 0) [] rfl ah.1 zk w3.heap.size X.heap.size (zj da 64 dcap) ys rfl ah.2 aj.2.1 (by have:=aj.2.2;simp;omega) ?_;intro v2 X2 Z aO;have aN:=zr.ofGrown aO (fun k hk y=>⟨(np ah.1 k hk).1,y⟩);have V:zr 0 0 X X2:=au.step aN (Or.inr (Or.inl nlR))
      rw[nG] at Z;have bH:=V.size;have z:Hid (_∧_∧_):=⟨V.bt HS.1,V.bt HS.2.1,V.bt HS.2.2⟩;refine⟨fun _=>z.out,?_⟩;obtain⟨aF,aG,rfl⟩: ∃a c,v2=zj a 64 c:=by
       obtain⟨a,c,e,_⟩:=(Z.view (by have:=HL.out;omega) (fun g hg=>(Z.lt g hg).2));rw[←HL.out] at e;exact⟨a,c,e⟩
      have aK:Hid _:=Z;have N:Hid _:=V;clear Z V aN aO ah aH au;go_simp;refine wOn 11 rfl ?_;have be:=z.1;have bf:=z.2.1;have bg:=z.2.2;go_simp;clear be bf bg;refine wOn 12 rfl ?_;obtain⟨ic,bd,aU,ae,bs⟩:=na Tryz.infoH;refine oe 32 68 1 #[(0,.tmp 69)] rfl #[za fr,zj aF 64 aG] ic _ Tryz.underlying32 bd aU (by rw[ae];decide) (by rw[ae];decide) (by rw[ae,oh];refine QJ 2 _ ?_ [za fr,zj aF 64 aG] rfl;simp) ?_
      have c7:zr 0 0 X2 (X2.alloc (zi #[za fr,zj aF 64 aG] 68)):=zr.al X2;have aI:Hid (_∧_∧_):=⟨c7.bt z.1,c7.bt z.2.1,c7.bt z.2.2⟩;refine⟨fun _=>aI.out,?_⟩;go_simp;refine wOn 13 rfl ?_;have M:=(G.1.1.1).row.chg N zk;refine Xw ys (.tmp 59) (.tmp 70) rfl (T+1) (zj ha es.length hcp) es rfl M zk rfl (by have:=s.out;omega) ⟨_,_,_,rfl⟩ ?_;intro g8 am X8 o8 I;have bh:t.rV.length≤128:=by have:=HX.p.few;omega
      obtain⟨aS,aV⟩:=qB.homes_app G.1.1.1 G.1.1.2 G.1.2.1 G.1.2.2 zk (by have:=s.out;omega) zk aK ⟨aj.1,HL.symm⟩ N zk o8 I;have u:=aV _ _ _ zp z.1;have s8:=I.size;have s7:=c7.size;have cg:=((N.trans c7).widen).trans (zr.ofGrown I (fun k hk y=>⟨(np (M.chg c7 zk) k hk).1,zk⟩));have ai:Hid (_∧_∧_):=⟨u,cg.bt HS.2.1,cg.bt HS.2.2⟩;obtain⟨⟨Q,R,S⟩,ab,ac,ad⟩:=tri u;have cY:zr (T+1) (T+2) X8 (X8.setCell ⟨T+1,1,none⟩ (zg g8 (es.length+1) am)):=(zr.refl _ _ X8).setCell (p:=⟨T+1,1,none⟩) (Or.inl zn) _
      have sY:=cY.size;have aY:=HX.p.home y.1 y.2.2 hc.2 (ys:=ys) ⟨aj.1,HL.symm⟩ (by have:=s.out;have:=aa.out;have:=B.out;omega);have HF:Hid (ShI lo tt sq wm (T+1) (X8.setCell ⟨T+1,1,none⟩ (zg g8 (es.length+1) am)) (fr+1) ⟨t.seq,t.homes++ [(fr,ys)],t.rV⟩ (zg g8 (es.length+1) am) (zj ra rn rc)):=HX.next (cg.trans (cY.widen)) zk (jS u _) (aS.keep (fun j bw T' _ hT hh=>(cY.block j (zE hh) (by
       have:j≠T+1:=fun e=>by rw[e,u] at hh;cases hh;exact hT rfl
       omega)).trans hh)) aY
      refine⟨fun _=>ai.out,?_⟩;clear aS aV I o8 c7 cY aY M;have aR:=ai.2.1;have aQ:=ai.2.2;go_simp;refine wOn 14 rfl ?_;go_simp;refine wOn 15 rfl ?_;go_simp;refine wDn ?_;clear Q R S ab ac ad u aR aQ HS z aI ai cg sY s8 s7;generalize X8.setCell ⟨T+1,1,none⟩ (zg g8 (es.length+1) am)=Y at*;have aZ:IntKind.i64.wrap ((k:Int)+1)=((k+1:Nat):Int):=by rw[mS];omega
      have bn:IntKind.i64.wrap (fr+1)=fr+1:=by have:=HX.p.lo';rw[mS];omega
      clear HX G aK N;go_wp2;go_roundw
      case rel=>
       have hwr:wrap64 (fr+1+(k:Int) % 2)=fr+1+(k:Int) % 2:=by have:=HF.p.lo';unfold wrap64;omega
       exact⟨⟨_,k+1,_,_,_,rfl,rfl,⟨zk,by rw[hwr];omega⟩,HF.up (by rw[hwr];omega)⟩⟩
      case measure=>simp[intOf];omega
     ·clear J d a0 a1 a2 b0 b1 b2 fb c1;have aZ:IntKind.i64.wrap ((k:Int)+1)=((k+1:Nat):Int):=by rw[mS];omega
      go_wp2;go_roundw
      case rel=>exact⟨⟨fr,k+1,t,_,_,rfl,rfl,⟨zk,ag⟩,l⟩⟩
      case measure=>simp[intOf];omega
   ·have hd:=mY hc;clear a0 a1 a2;go_wp2;go_loopw [3,15] (fun x3 x15 wq=>Sh1 lo tt sq wm (T+1) m x3 x15 wq) (fun _ x15 _=>m-(intOf x15).toNat)
    case atStart=>exact⟨⟨fr,0,t,hv,rv,rfl,rfl,⟨zk,ag⟩,l⟩⟩
    case round=>
     clear l hc hd ag aW;obtain⟨fr,k,t,hv,rv,rfl,rfl,⟨aW,ag⟩,hI⟩:=hrel.ex;obtain⟨⟨a0,a1,a2⟩,_⟩:=tri (hI.there U.2.1);have l:Hid _:=hI;clear hI hrel;go_upto_region 11 with fail;go_cut [87] from 78 to 105 (fun x wx=>x= .bool (decide (k<m∧fr<tt))∧wx=wr)
     case first=>
      by_cases h1:k<m
      ·by_cases h2:fr<tt
       ·have e1:=mR zk;have e2:=mR h2;go_wp2;go_meet;exact⟨by rw[show decide (k<m∧fr<tt)=true from mR zk],rfl⟩
       ·have e1:=mR zk;have e2:=mY h2;go_wp2;go_meet;exact⟨by rw[show decide (k<m∧fr<tt)=false from mY zk],rfl⟩
      ·have e1:=mY zk;go_wp2;go_meet;exact⟨by rw[show decide (k<m∧fr<tt)=false from mY zk],rfl⟩
     case rest=>
      obtain⟨rfl,hwc⟩:=hcut;obtain rfl:wr=wc:=hwc.symm;clear a0 a1 a2;obtain⟨es,o1,Z,o3,o4,o5,o6⟩:=l.ow;obtain⟨ha,hn,hcp,rfl⟩:=o1.slice;obtain rfl:hn=es.length:=by
       rcases o1.row.2 with⟨e,e2⟩|⟨_,_,_,e,_⟩
       ·simp only[ns] at e;omega
       ·simp only[ns] at e;exact e.2.1
      obtain⟨ra,rc,rfl⟩:=o4.shape;obtain⟨rn,B⟩: ∃rn,Hid (rn=t.rV.length):=⟨_,rfl⟩;rw[←B.out] at l o4;have A:Hid (((qD wr (T+1) (zj ha es.length hcp) es∧es.map (fun e=>(e.1,e.2.2))=t.homes)∧(∀e∈es,e.2.2.length=64∧Byt e.2.2)∧zM wr (T+1) 2 (zj ra rn rc) t.rV)∧es.length≤10000):=⟨⟨⟨o1,Z⟩,o3,o4⟩,o6⟩;have af:es.length=t.homes.length:=by rw[←Z,mO]
      have aa:Hid _:=af;obtain⟨cn,s⟩: ∃cn,Hid (cn=es.length+rn):=⟨_,rfl⟩;have a9:cn≤128:=by have:=s.out;have:=l.p.few;have:=B.out;omega
      have d:IntKind.i64.wrap ((es.length:Int)+(rn:Int))=(cn:Int):=by have:=s.out;rw[mS];omega
      clear o1 Z o3 o4 o5 o6 af;obtain⟨⟨b0,b1,b2⟩,ay,az,aA⟩:=tri l.ob;generalize J:decide (k<m∧fr<tt)=bb
      cases bb
      ·clear J;by_cases h0:cn=0
       ·have e0:((cn:Int)==0)=true:=by simp;omega
        have bF:IntKind.i64.wrap (tt-1)=tt-1:=by rw[mS];omega
        obtain⟨u,W⟩:=l.one y.1 y.2.1 y.2.2 (by have:=s.out;have:=aa.out;have:=B.out;omega);obtain⟨⟨Q,R,S⟩,ab,ac,ad⟩:=tri u;have HF:Hid _:=W;clear u W A h0;go_upto_region 18 with fail;clear Q R S ab ac ad b0 b1 b2 ay az aA l;generalize (wr.alloc (zi #[za (tt-1)] 2)).setCell ⟨T+1,2,none⟩ (zg wr.heap.size 1 1)=Y at*;obtain⟨⟨b0,b1,b2⟩,ay,az,aA⟩:=tri HF.ob;have hzz:=HF.there U.2.2.1;go_wp2_with (refine wpList_store_row rfl 35 (.tmp 10) (.tmp 118) rfl rfl w.heap.size rfl [za sq,zj ha es.length hcp,zg wr.heap.size 1 1] [za 0,zc,zc] 35 rfl hzz rfl zl (by simp[Value.oneCell']) ?_;intro wf aB aC)
        have aD:(loadVar 35 (zd w.heap.size)).run Tryz.prog wf= .ok (.agg (List.toArray [za sq,zj ha es.length hcp,zg wr.heap.size 1 1])) wf:=nd _ _ _ _ [za sq,zj ha es.length hcp,zg wr.heap.size 1 1] _ (zy aB) Tryz.underlying35 rfl zl;refine mT (zH Tryz.results7 rfl aD) rfl ?_;exact HF.fin U.2.2.2 (by have:=(zE U.2.2.1);have:=HF.em;omega) aC zn hq
       ·have e0:((cn:Int)==0)=false:=by simp;omega
        have a8:1≤t.homes.length+t.rV.length:=by have:=s.out;have:=aa.out;have:=B.out;omega
        clear A;have hzz:=l.there U.2.2.1;go_wp2_with (refine wpList_store_row rfl 35 (.tmp 10) (.tmp 118) rfl rfl w.heap.size rfl [za sq,zj ha es.length hcp,zj ra rn rc] [za 0,zc,zc] 35 rfl hzz rfl zl (by simp[Value.oneCell']) ?_;intro wf aB aC);have aD:(loadVar 35 (zd w.heap.size)).run Tryz.prog wf= .ok (.agg (List.toArray [za sq,zj ha es.length hcp,zj ra rn rc])) wf:=nd _ _ _ _ [za sq,zj ha es.length hcp,zj ra rn rc] _ (zy aB) Tryz.underlying35 rfl zl
        refine mT (zH Tryz.results7 rfl aD) rfl ?_;exact l.fin U.2.2.2 (by have:=(zE U.2.2.1);have:=l.em;omega) aC a8 hq
      ·obtain⟨bD,ba⟩:=pt J;clear J;have aZ:IntKind.i64.wrap ((k:Int)+1)=((k+1:Nat):Int):=by rw[mS];omega
       have bn:IntKind.i64.wrap (fr+1)=fr+1:=by have:=l.p.lo';rw[mS];omega
       by_cases h2:cn<128
       ·have e2:=mR zk;have e3:(cn:Int)<128:=zk;obtain⟨a3,a4⟩:=l.app y.1 y.2.2 ba (by have:=s.out;have:=aa.out;have:=B.out;omega);have ak:Hid _:=a3;have aM:Hid _:=a4;have bh:t.rV.length≤128:=by have:=l.p.few;omega
        clear a3 a4;go_upto_region 15 with(at_builtin;refine oV rfl fun K hK=>?_;refine ZX (.tmp 99) (.tmp 101) rfl (T+1) (zj ra rn rc) t.rV rfl ak.out.1 ak.out.2.2 0 (wr.heap.size+1) (zg wr.heap.size 1 1) [fr] rfl ak.out.2.1 zn (by simp;omega) ?_;intro v' X8 o8 I;obtain⟨va,vc,rfl⟩:=o8.shape;obtain⟨u,W⟩:=aM.out X8 _ o8 I;obtain⟨⟨Q,R,S⟩,ab,ac,ad⟩:=tri u;clear o8 I;refine hK _ _ ?_);rw[mL,nJ] at W;have HF:Hid _:=W
        clear Q R S ab ac ad u W ak aM b0 b1 b2 ay az aA l A;generalize X8.setCell ⟨T+1,2,none⟩ (zj va (t.rV.length+1) vc)=Y at*;go_wp2;go_roundw
        case rel=>exact⟨⟨_,k+1,_,_,_,rfl,rfl,⟨zk,zk⟩,HF⟩⟩
        case measure=>simp[intOf];omega
       ·have e2:=mY zk;have e3: ¬(cn:Int)<128:=zk;go_wp2;go_roundw
        case rel=>exact⟨⟨fr,k+1,t,_,_,rfl,rfl,⟨zk,ag⟩,l⟩⟩
        case measure=>simp[intOf];omega
theorem YJ {cs:List Int}{a:Nat}(h:a*64+cs.length≤cur.length:=by omega):(splice cur (a*64) cs).length=cur.length:=by
 unfold splice;simp only[mL,mW,m8];omega
theorem gL (h:b*64+64≤n:=by omega):blk (List.replicate n (0:Int)) b=List.replicate 64 0:=by
 unfold blk;rw[tu,List.take_replicate,ol zk]
def QK (sz:Nat):Dsk:=⟨iz (sz+156) sz 2,[]⟩
theorem iB (h:16≤sz∧sz≤79):Eu ((sz:Int)+156) (sz:Int) 2=QK sz:=by
 have a:XC ((sz+156:Nat):Int) (sz:Int) ((2:Nat):Int)=true:=by
  rw[dF ⟨zk,zk,zk,zk,zk,zk⟩];apply mR;unfold Zf upN;omega
 have:=Ev a;exact this
theorem Yc (h:16≤sz∧sz≤79):qF (QK sz) (sz+156) sz (fun _=> .raw (List.replicate 64 0)) 0 1:=by
 have q:upN (sz+156) 512=1:=by unfold upN;omega
 have r:Zf (sz+156) sz 2=sz+5:=by unfold Zf upN;omega
 have s:QR ((sz+156:Nat):Int) (sz:Int) ((2:Nat):Int):=⟨zk,zk,zk,zk,zk,zk⟩;have u:(fsL ((sz+156:Nat):Int) (sz:Int) ((2:Nat):Int)).length=64:=dE s;have p:(mkJ (sz:Int)).length=64:=dJ;have v:(JE 2).length=64:=VL;have w:(jK 1 (sz+5) (sz+156)).length=64:=Vv;have y:=EG;obtain⟨k,c⟩: ∃A,A=List.replicate ((sz+156)*64) (0:Int):=⟨_,rfl⟩;have z:k.length=(sz+156)*64:=by rw[c,nC]
 obtain⟨l,d⟩: ∃A,A=splice k (0*64) (fsL ((sz+156:Nat):Int) (sz:Int) ((2:Nat):Int)):=⟨_,rfl⟩;have B:l.length=(sz+156)*64:=by rw[d,YJ,z]
 obtain⟨g,a⟩: ∃A,A=splice l (1*64) (mkJ (sz:Int)):=⟨_,rfl⟩;have C:g.length=(sz+156)*64:=by rw[a,YJ,B]
 obtain⟨m,e⟩: ∃A,A=splice g ((2+sz)*64) (JE 2):=⟨_,rfl⟩;have D:m.length=(sz+156)*64:=by rw[e,YJ,C]
 obtain⟨n,f⟩: ∃A,A=splice m ((3+sz)*64) (jK 1 (sz+5) (sz+156)):=⟨_,rfl⟩;have E:n.length=(sz+156)*64:=by rw[f,YJ,D]
 have o:(QK sz).dR=splice n ((3+sz+1)*64) KN:=by
  show N9 (sz+156) sz 2 (2+sz) (3+sz) (upN (sz+156) 512) (3+sz+upN (sz+156) 512) (Zf (sz+156) sz 2)=_;rw[q,r,f,e,a,d,c];rfl
 have j: ∀b,b≤sz+1→blk (QK sz).dR b=blk g b:=by
  intro b j;rw[o,ZG _ _ _ _ y,mN zk,f,ZG _ _ _ _ w,mN zk,e,ZG _ _ _ _ v,mN zk]
 refine⟨?_,rfl,⟨zk,zk,zk,zk⟩,⟨⟨zk,zk⟩,zk,zk⟩,?_,fun i _=>⟨zn,fun x t=>?_,zp⟩,fun i hi=>?_⟩
 ·rw[o,YJ,E];omega
 ·rw[j 1 zk,a,ZG _ _ _ _ p,mM rfl];rfl
 ·have:=rU t;omega
 ·rw[j (2+i) zk,a,ZG _ _ _ _ p,mN zk,d,ZG _ _ _ _ u,mN zk,c];exact gL
theorem fy (h:16≤sz∧sz≤79):X0 (QK sz)=QK sz:=by
 unfold X0;rw[mM (jJ (Yc h).valid)];rfl
theorem iA {hd:Nat}(h:16≤sz∧sz≤79)(a:1≤hd∧hd≤sz):LI (QK sz) sz (fun _=> .raw (List.replicate 64 0)) 0 1 hd 0 1 []:=
 ⟨Yc h,a,zk,fun _=>⟨rfl,rfl⟩,fun e=>absurd rfl e,zn,zn,fun i _ n c m e=>(by cases e),fun _ _=>trivial,zk,zk⟩
theorem VS (w:World)(sz:Nat)(h:16≤sz∧sz≤79):
  Calls Tryz.prog 6 #[za sz,za 150] w fun e w'=> ∃v,e= .returned v∧Zw w' w.heap.size w'.heap.size v (QK sz)∧zr 0 0 w w':=by
 obtain⟨D,s,t⟩:=zU w (zi #[zc,zc] 26) (zi #[za ((sz:Int)+156),za sz,za 2] 64);have q:zr 0 0 w ((w.alloc (zi #[zc,zc] 26)).alloc (zi #[za ((sz:Int)+156),za sz,za 2] 64)):=(zr.al w).alloc _;have A:IntKind.i64.wrap ((sz:Int)+6)=(sz:Int)+6:=by rw[mS];omega
 have B:IntKind.i64.wrap ((sz:Int)+6+150)=(sz:Int)+156:=by rw[mS];omega
 obtain⟨⟨E,F,G⟩,_⟩:=tri t;have p:=iB h;have u:Hid (Eu ((sz:Int)+156) (sz:Int) 2=QK sz):=p;clear p;have o:Hid (((w.alloc (zi #[zc,zc] 26)).alloc (zi #[za ((sz:Int)+156),za sz,za 2] 64)).heap[w.heap.size]?=some (zi #[zc,zc] 26)):=s;have n:Hid (zr 0 0 w ((w.alloc (zi #[zc,zc] 26)).alloc (zi #[za ((sz:Int)+156),za sz,za 2] 64))):=q;clear D s t q;go_enter Tryz.func6,Tryz.ntmps6;go_wp2_with fail;generalize (w.alloc (zi #[zc,zc] 26)).alloc (zi #[za ((sz:Int)+156),za sz,za 2] 64)=C at*
 refine(Uo C ((sz:Int)+156) (sz:Int) 2).mono ?_;rintro e H ⟨v,rfl,i,f⟩;rw[u.out] at i;have y:=n.size;have z:=f.size;have m:=(zE o);have hz3:=(f.bk _ m).trans o;obtain⟨a,l,c,a',l',c',rfl⟩:=i.agg;have g:=Yc h;have d:(QK sz).Fits:=⟨by have:=g.dR;omega,by rw[g.pN];simp,by rw[g.pN];simp⟩;have x:=i.view d;go_wp2_with (refine wpList_store_row rfl 26 (.tmp 4) (.tmp 13) rfl rfl w.heap.size rfl [zj a l c,zj a' l' c'] [zc,zc] 26 rfl hz3 rfl zl (by simp[Value.oneCell']) ?_;intro r j b)
 have k:(loadVar 26 (zd w.heap.size)).run Tryz.prog r= .ok (.agg (List.toArray [zj a l c,zj a' l' c'])) r:=nd _ _ _ _ [zj a l c,zj a' l' c'] _ (zy j) Tryz.underlying26 rfl zl;refine mT (zH Tryz.results6 rfl k) rfl ⟨_,rfl,?_,?_⟩
 ·exact(x.chg b zk).mono zk (by have:=b.size;omega)
 ·exact(n.trans f).step b (Or.inr (Or.inl nlR))
theorem NQ (w:World)(c q s:Int)(h:OkS c q s)(a:List Int)(L:a=qz 106 108 111 103 1 c q s)(S:a.length=64)(J:Byt a):
  Calls Tryz.prog 151 #[.iface 192 (.agg #[zb 106,zb 108,zb 111,zb 103,za 1,za c,za q,za s]),.agg (a.map (Value.int .u8)).toArray] w fun e w'=>e= .returned .nilIface∧zr 0 0 w w':=by
 have k:Byt (jP 106 108 111 103 1 c q s):=fun x V=>J x (by rw[L];unfold qz;exact List.mem_append_left _ V);obtain⟨N,E,O,P,F,Q⟩:=h;have R:=fun W=>XS W 106 108 111 103 1 c q s N E O P F Q;have r:=pn2 (v:=c);have u:=pn4 (v:=q) zk E;have y:=pn2 (v:=s) F;obtain⟨n,o⟩:=qP (jP 106 108 111 103 1 c q s);have p:=pn4 n o;have K:=fun W=>J5 W 106 108 111 103 1 c q s zk zk zk zk zk r u y p k;rw[←L] at K;have Z:=XO #[zb 106,zb 108,zb 111,zb 103,za 1,za c,za q,za s]
 have m2:=JS #[zb 106,zb 108,zb 111,zb 103,za 1,za c,za q,za s];have I:zr 0 0 w (w.alloc (zi (a.map (Value.int .u8)).toArray 78)):=zr.al w;have A:=zt w (zi (a.map (Value.int .u8)).toArray 78);clear r u y n o p k N E O P F Q;have D:Hid (a.length=64):=S;have M:Hid (Byt a):=J;clear L S J;obtain⟨cs,d⟩: ∃cs,cs=a.map (Value.int .u8):=⟨_,rfl⟩;rw[←d] at K I A⊢;have j:Hid (cs=a.map (Value.int .u8)):=d;clear d
 go_enter Tryz.func151,Tryz.ntmps151;go_wp2_with fail;refine(R _).mono ?_;rintro e B ⟨rfl,G⟩;have l:=(G.bk _ (zE A)).trans A;have g:Hid (zr 0 0 w B):=I.trans G;clear R G A I;go_upto_region 4 with fail;have b:B.drew.heap[w.heap.size]?=some (zi cs.toArray 78):=l;have i:Hid (zr 0 0 w B.drew):=g.drew;refine hRg (fun T=>T.heap[w.heap.size]?=some (zi cs.toArray 78)) ?_;clear l g;generalize B.drew=Y at*;refine hTk 0 (.iface 192 (.agg #[zb 106,zb 108,zb 111,zb 103,za 1,za c,za q,za s])) rfl (fun w' f=>zm) b ?_
 go_simp;have t:(Tryz.prog.info? 78).map (·.size)=some cs.length:=by rw[j.out,mO,D.out];kernel_rfl
 have z:=Tryz.underlying78;refine zI 2 (.agg cs.toArray) rfl zl zl zl (fun _ _ _ h=>h) (nl zl 78 (.tmp 3) rfl w.heap.size 0 rfl cs _ (fun w' f=>zy f) z rfl t) b ?_;go_simp;refine hOn 1 rfl ?_;refine zv 221 #[.agg #[zb 106,zb 108,zb 111,zb 103,za 1,za c,za q,za s]] zq (K Y) ?_;rintro e X ⟨rfl,H⟩;have m:=(H.bk _ (zE b)).trans b;have C:Hid (zr 0 0 w X):=i.trans H;have U: ∀W,(Op.equalIn 10000 78 (.agg cs.toArray) (.agg cs.toArray)).run Tryz.prog W= .ok true W:=fun W=>by
  rw[j.out,jG W _ 64 z M.out M.out D.out D.out,mR rfl]
 clear H i;refine⟨_,rfl,m,?_⟩;go_simp;refine hTk 3 (.bool false) rfl (fun w' f=>zm) m ?_;go_simp;refine hDn ?_;go_wp2;go_ret;exact⟨rfl,C⟩
theorem Np (w:World){lo:Nat}(c q s:Int)(h1:zC w lo hi .u8 a xs)(hB:Byt xs)(hG:Za w tL tM tK vL vM vK)(K:xs.length=64)(hm:xs.take 4=mg)(hk:xs.getD 4 0=1)(hh:hd7 xs= #[zb 106,zb 108,zb 111,zb 103,za 1,za c,za q])(A:qI ((xs.drop 12).take 2)=s)
  (he:xs=qz 106 108 111 103 1 c q s) (hb:OkS c q s):
  Calls Tryz.prog 125 #[a] w fun e w'=>e= .returned (.tuple #[.agg #[zb 106,zb 108,zb 111,zb 103,za 1,za c,za q,za s],.nilIface])∧zr 0 0 w w':=by
 have CA:zr 0 0 w (w.alloc (zi #[zb 0,zb 0,zb 0,zb 0,za 0,za 0,za 0,za 0] 192)):=zr.al w;have I:=zt w (zi #[zb 0,zb 0,zb 0,zb 0,za 0,za 0,za 0,za 0] 192);have hN:=QV (w.alloc (zi #[zb 0,zb 0,zb 0,zb 0,za 0,za 0,za 0,za 0] 192)) 1 (h1.chg CA zk) hB (hG.chg CA zk) K hm hk;have U:=fun W=>NQ W c q s hb xs he K hB;obtain⟨ao,cap,rfl,_⟩:=h1;obtain⟨cs,t⟩: ∃cs,cs=xs.map (Value.int .u8):=⟨_,rfl⟩;have L1:cs.length=64:=by rw[t];simpa using K
 have L2: ∀v∈cs,v.oneCell'=true:=by rw[t];exact nf _ _
 have z:(Tryz.prog.info? 78).map (·.size)=some cs.length:=by rw[L1];kernel_rfl
 have ad:Hid _:=L1;have ae:Hid _:=L2;have o: ∀(W:World) (B:Nat),W.heap[B]?=some (zi cs.toArray 78)→Calls Tryz.prog 150 #[zj (some ⟨B,12,none⟩) 2 52] W fun e w'=>e= .returned (za s)∧zr 0 0 W w':=fun W B hW=>by
  have Y:((xs.drop 12).take 2).length=2:=by rw[mW,m8,K];omega
  have hv:zC W B (B+1) .u8 (zj (some ⟨B,12,none⟩) 2 52) ((xs.drop 12).take 2):=by
   refine⟨_,52,by rw[Y],zk,⟨zk,zn⟩,Or.inr ⟨B,12,rfl,mP _,m5 _,fun i hi=>?_⟩⟩;rw[Y] at hi;simp only[World.cell?,hW];rw[t];simp[hi,K,show 12+i<64 by omega]
  have:=Zd W ((hB.drop 12).take 2) hv;rw[A] at this;exact this.mono fun e w' h=>⟨h.1,h.2.chg 0 0⟩
 rw[←t] at hN U;rw[hh] at hN;clear t L1 L2 K hB hG hm hk hh he A;go_enter Tryz.func125,Tryz.ntmps125;go_wp2_with fail;generalize w.alloc (zi #[zb 0,zb 0,zb 0,zb 0,za 0,za 0,za 0,za 0] 192)=wa at*;refine hN.mono ?_;rintro e f ⟨rfl,c2⟩;have s2:=c2.size;have ah:=(zE I);have HZ:Hid _:=(c2.bk _ ah).trans I;have HA:Hid _:=CA.trans c2;clear hN c2 CA I;obtain⟨y1,y2,y3⟩:=zU f (zi Z64.toArray 78) (zi z7.toArray 146)
 have T:zr 0 0 f ((f.alloc (zi Z64.toArray 78)).alloc (zi z7.toArray 146)):=(zr.al f).alloc _;have Q:Hid _:=y2;have E:Hid _:=y3;have N:Hid _:=T;clear y1 y2 y3 T;go_upto_region 2 with(first
  |(refine wpList_store_row rfl 78 (.tmp 4) (.tmp 11) rfl rfl f.heap.size rfl cs Z64 78 rfl (by simp only[qd];exact Q) (by rw[zN];exact ad) z ae ?_;intro w3 G k)
  |(refine wpList_store_row rfl 146 (.tmp 5) (.tmp 12) rfl rfl (f.heap.size+1) rfl [zb 106,zb 108,zb 111,zb 103,za 1,za c,za q] z7 146 rfl (by simp only[qd] at k;exact(k.bk (f.heap.size+1) (zE E)).trans E) rfl zl (by simp[Value.oneCell']) ?_;intro w4 H x))
 have s3:=k.size;have s4:=x.size;have ak:=(zE H);have C4:zr 0 0 f w4:=by
  simp only[qd] at k;exact(N.step k).step x
 have HH:Hid (_∧_):=⟨H,(x.bk _ (zE G)).trans G⟩;have O:Hid _:=HA.trans C4;have R:Hid _:=C4.bt HZ;clear G H k x C4 N Q E;go_upto_region 4 with fail;go_cut [7] (fun s7 wx=> ∃B7,s7=zh B7∧w4.heap.size≤B7∧zr 0 0 w4 wx∧wx.heap[B7]?=some (zi (List.toArray [zb 106,zb 108,zb 111,zb 103,za 1,za c,za q,za s]) 192))
 case first=>
  have HS:Hid ((fun w':World=>w'.heap[f.heap.size+1]?=some (zi (List.toArray [zb 106,zb 108,zb 111,zb 103,za 1,za c,za q]) 146)∧w'.heap[f.heap.size]?=some (zi cs.toArray 78)) w4.drew):=HH.out;have C:Hid _:=zr.drew (zr.refl 0 0 w4);have aj:=C.size;refine hRg (fun w':World=>w'.heap[f.heap.size+1]?=some (zi (List.toArray [zb 106,zb 108,zb 111,zb 103,za 1,za c,za q]) 146)∧w'.heap[f.heap.size]?=some (zi cs.toArray 78)) ?_
  generalize w4.drew=L at*;refine zI 0 (.agg (List.toArray [zb 106,zb 108,zb 111,zb 103,za 1,za c,za q])) rfl zl zl zl (fun _ _ _ h=>h) (nl zl 146 (.tmp 5) rfl (f.heap.size+1) 0 rfl [zb 106,zb 108,zb 111,zb 103,za 1,za c,za q] _ (fun w' j=>zy j.1) Tryz.underlying146 rfl zl) HS ?_;go_simp;refine hT2 1 (zj (some ⟨f.heap.size,12,none⟩) 2 52) rfl ?_;go_simp;refine qY 2 4 rfl rfl rfl rfl zl ?_ ?_
  ·refine zv 150 #[zj (some ⟨f.heap.size,12,none⟩) 2 52] zq (o L f.heap.size HS.out.2) ?_;rintro e M ⟨rfl,m⟩;have s6:=m.size;have b:Hid (_∧_):=⟨(m.bk _ (zE HS.1)).trans HS.1,(m.bk _ (zE HS.2)).trans HS.2⟩;refine⟨_,rfl,b,?_⟩;go_simp;refine hTk 3 (.agg (List.toArray [zb 106,zb 108,zb 111,zb 103,za 1,za c,za q,za s])) rfl (fun w' j=>zm) b.out ?_;go_simp;refine hOn 4 rfl ?_;have u:zr 0 0 M (M.alloc (zi #[zb 0,zb 0,zb 0,zb 0,za 0,za 0,za 0,za 0] 192)):=zr.al M
   have l:=zt M (zi #[zb 0,zb 0,zb 0,zb 0,za 0,za 0,za 0,za 0] 192);have d:Hid (_∧_):=⟨(u.bk _ (zE b.1)).trans b.1,(u.bk _ (zE b.2)).trans b.2⟩;go_simp;refine⟨d,?_⟩;generalize M.alloc (zi #[zb 0,zb 0,zb 0,zb 0,za 0,za 0,za 0,za 0] 192)=w7 at*;refine hOn 5 rfl ?_;refine wsR [zb 106,zb 108,zb 111,zb 103,za 1,za c,za q,za s] l ?_;intro w8 p g;have D:Hid (_∧_):=⟨(g.bk _ (zE d.1)).trans d.1,(g.bk _ (zE d.2)).trans d.2⟩
   have HF:Hid _:=((C.trans m).trans u).step g;have F:Hid _:=p;refine⟨D,hDn ?_⟩;clear p g u l m;go_wp2;go_meet;exact⟨_,rfl,zk,HF,F⟩
  ·have u:zr 0 0 L (L.alloc (zi #[zb 0,zb 0,zb 0,zb 0,za 0,za 0,za 0,za 0] 192)):=zr.al L;have l:=zt L (zi #[zb 0,zb 0,zb 0,zb 0,za 0,za 0,za 0,za 0] 192);have d:Hid (_∧_):=⟨(u.bk _ (zE HS.1)).trans HS.1,(u.bk _ (zE HS.2)).trans HS.2⟩;go_simp;refine⟨d,?_⟩;generalize L.alloc (zi #[zb 0,zb 0,zb 0,zb 0,za 0,za 0,za 0,za 0] 192)=w7 at*;refine hOn 2 rfl ?_;refine zv 150 #[zj (some ⟨f.heap.size,12,none⟩) 2 52] zq (o w7 f.heap.size d.out.2) ?_
   rintro e M ⟨rfl,m⟩;have s6:=m.size;have s7:=u.size;have b:Hid (_∧_):=⟨(m.bk _ (zE d.1)).trans d.1,(m.bk _ (zE d.2)).trans d.2⟩;have Z:=(m.bk _ (zE l)).trans l;refine⟨_,rfl,b,?_⟩;go_simp;refine hTk 3 (.agg (List.toArray [zb 106,zb 108,zb 111,zb 103,za 1,za c,za q,za s])) rfl (fun w' j=>zm) b.out ?_;go_simp;refine hOn 5 rfl ?_;refine wsR [zb 106,zb 108,zb 111,zb 103,za 1,za c,za q,za s] Z ?_;intro w8 p g
   have D:Hid (_∧_):=⟨(g.bk _ (zE b.1)).trans b.1,(g.bk _ (zE b.2)).trans b.2⟩;have HF:Hid _:=((C.trans u).trans m).step g;have F:Hid _:=p;refine⟨D,hDn ?_⟩;clear p g u l Z m;go_wp2;go_meet;exact⟨_,rfl,zk,HF,F⟩
 case rest=>
  obtain⟨B7,rfl,ai,r,V⟩:=hcut;generalize wc=w9 at*;have s9:=r.size;have HS:Hid ((fun w':World=>w'.heap[B7]?=some (zi (List.toArray [zb 106,zb 108,zb 111,zb 103,za 1,za c,za q,za s]) 192)∧w'.heap[f.heap.size]?=some (zi cs.toArray 78)) w9.drew):=⟨V,(r.bk _ (zE HH.2)).trans HH.2⟩;have ab:Hid _:=(O.trans r).drew;have S:w9.drew.heap[w.heap.size]?=some (zi (List.toArray [zb 0,zb 0,zb 0,zb 0,za 0,za 0,za 0,za 0]) 192):=r.bt R
  clear r V HH O R o;go_upto_region 5 with fail;refine hRg (fun w':World=>w'.heap[B7]?=some (zi (List.toArray [zb 106,zb 108,zb 111,zb 103,za 1,za c,za q,za s]) 192)∧w'.heap[f.heap.size]?=some (zi cs.toArray 78)) ?_;generalize w9.drew=wd at*;refine zI 0 (.agg (List.toArray [zb 106,zb 108,zb 111,zb 103,za 1,za c,za q,za s])) rfl zl zl zl (fun _ _ _ h=>h) (nl zl 192 (.tmp 7) rfl B7 0 rfl [zb 106,zb 108,zb 111,zb 103,za 1,za c,za q,za s] _ (fun w' j=>zy j.1) Tryz.underlying192 rfl zl) HS ?_
  go_simp;refine zI 1 (.agg (List.toArray [zb 106,zb 108,zb 111,zb 103,za 1,za c,za q,za s])) rfl zl zl zl (fun _ _ _ h=>h) (nl zl 192 (.tmp 7) rfl B7 0 rfl [zb 106,zb 108,zb 111,zb 103,za 1,za c,za q,za s] _ (fun w' j=>zy j.1) Tryz.underlying192 rfl zl) HS ?_;go_simp;refine hT2 2 (.iface 192 (.agg (List.toArray [zb 106,zb 108,zb 111,zb 103,za 1,za c,za q,za s]))) rfl ?_;go_simp;refine zI 3 (.agg cs.toArray) rfl zl zl zl (fun _ _ _ h=>h) (nl zl 78 (.tmp 4) rfl f.heap.size 0 rfl cs _ (fun w' j=>zy j.2) Tryz.underlying78 rfl z) HS ?_
  go_simp;refine hOn 4 rfl ?_;refine zv 151 #[.iface 192 (.agg (List.toArray [zb 106,zb 108,zb 111,zb 103,za 1,za c,za q,za s])),.agg cs.toArray] zq (U wd) ?_;rintro e we ⟨rfl,J⟩;have se:=J.size;have n:Hid (_∧_):=⟨(J.bk _ (zE HS.1)).trans HS.1,(J.bk _ (zE HS.2)).trans HS.2⟩;have aa:=(J.bk _ (zE S)).trans S;refine⟨_,rfl,n,?_⟩;go_simp;refine hOn 5 rfl ?_;refine wsR [zb 106,zb 108,zb 111,zb 103,za 1,za c,za q,za s] aa ?_
  intro wf X y;have P:Hid (_∧_):=⟨(y.bk _ (zE n.1)).trans n.1,(y.bk _ (zE n.2)).trans n.2⟩;have af:Hid _:=X;have ac:Hid _:=(ab.trans J).step y;refine⟨P,?_⟩;clear X y J aa;go_simp;refine hOn 6 rfl ?_;refine jb (v:= .nilIface) (w':=wf) zq ⟨P.out,?_⟩;go_simp;refine hDn ?_;go_wp2;have ag:(loadVar 192 (zd w.heap.size)).run Tryz.prog wf= .ok (.agg (List.toArray [zb 106,zb 108,zb 111,zb 103,za 1,za c,za q,za s])) wf:=nd _ _ _ _ [zb 106,zb 108,zb 111,zb 103,za 1,za c,za q,za s] _ (zy af) Tryz.underlying192 rfl zl
  exact mT (v:= .tuple #[.agg (List.toArray [zb 106,zb 108,zb 111,zb 103,za 1,za c,za q,za s]),.nilIface]) (Zo Tryz.results125 rfl rfl ag) rfl ⟨rfl,ac⟩
theorem aI {s:Int}(h:OkS c q s):
  (qz 106 108 111 103 1 c q s).take 4=mg∧(qz 106 108 111 103 1 c q s).getD 4 0=1∧hd7 (qz 106 108 111 103 1 c q s)= #[zb 106,zb 108,zb 111,zb 103,za 1,za c,za q]∧qI (((qz 106 108 111 103 1 c q s).drop 12).take 2)=s∧(qz 106 108 111 103 1 c q s).length=64:=by
 obtain⟨B,u,C,D,w,E⟩:=h;have i:=pn2 (v:=c);have j:=pn4 (v:=q) zk u;have hs:=pn2 (v:=s) w;obtain⟨z,A⟩:=qP (jP 106 108 111 103 1 c q s);have y:=pn4 z A;have p:=jc c 2 zk (by intro e;rw[e] at i;simp at i);have r:=jc q 4 zk (by intro e;rw[e] at j;simp at j);have t:=jc s 2 zk (by intro e;rw[e] at hs;simp at hs);have x:=ZO (h0:=106) (h1:=108) (h2:=111) (h3:=103) (kd:=1) i j hs;unfold qz;rw[mL,x,y];generalize zx (Zy (jP 106 108 111 103 1 c q s)) 4=Y at*
 unfold jP;obtain⟨a,b,k⟩:=Uv i;obtain⟨d,e,f,g,l⟩:=E8 j;obtain⟨m,n,o⟩:=Uv hs;rw[k] at p;rw[l] at r;rw[o] at t;rw[k,l,o];refine⟨?_,?_,?_,?_,rfl⟩
 ·simp[mg]
 ·simp
 ·unfold hd7;simp[p,r]
 ·simp[t]
theorem bB (w:World){lo:Nat}(c q s:Int)(h1:zC w lo hi .u8 a (qz 106 108 111 103 1 c q s))(Q:Byt (qz 106 108 111 103 1 c q s))(R:Za w tL tM tK vL vM vK)(H:OkS c q s):
  Calls Tryz.prog 81 #[a] w fun e w'=>e= .returned (.agg #[.bool true,za c,za s,za q])∧zr 0 0 w w':=by
 obtain⟨S,T,U,V,K⟩:=aI H;have j:zr 0 0 w (w.alloc (zi #[.bool false,za 0,za 0,za 0] 55)):=zr.al w;have i:=zt w (zi #[.bool false,za 0,za 0,za 0] 55);have G:=Np (w.alloc (zi #[.bool false,za 0,za 0,za 0] 55)) c q s (h1.chg j zk) Q (R.chg j zk) K S T U V rfl H;obtain⟨ao,cap,rfl,_⟩:=h1;rw[K] at G⊢;have sA:=j.size;clear S T U V K Q R H;go_enter Tryz.func81,Tryz.ntmps81;go_wp2_with fail;generalize w.alloc (zi #[.bool false,za 0,za 0,za 0] 55)=wA at*
 have J:=(zE i);refine G.mono ?_;rintro e w1 ⟨rfl,D⟩;have s1:=D.size;have z:=zt w1 (zi #[zb 0,zb 0,zb 0,zb 0,za 0,za 0,za 0,za 0] 192);have F:zr 0 0 w1 (w1.alloc (zi #[zb 0,zb 0,zb 0,zb 0,za 0,za 0,za 0,za 0] 192)):=zr.al w1;have sZ:=F.size;go_upto_region 2 with(refine wpList_store_row rfl 192 (.tmp 3) (.tmp 8) rfl rfl w1.heap.size rfl [zb 106,zb 108,zb 111,zb 103,za 1,za c,za q,za s] [zb 0,zb 0,zb 0,zb 0,za 0,za 0,za 0,za 0] 192 rfl z rfl zl (by simp[Value.oneCell']) ?_;intro w2 g h)
 have f:=(D.trans F).step h;have s2:=h.size;have p:=(zE g);have r:=(f.bk _ J).trans i;have l:=j.trans f;clear G D z F h f i j;go_wp2_with fail;refine(Qe w2).mono ?_;rintro e t ⟨rfl,m⟩;have s3:=m.size;have HS:Hid ((fun w':World=>w'.heap[w1.heap.size]?=some (zi (List.toArray [zb 106,zb 108,zb 111,zb 103,za 1,za c,za q,za s]) 192)) t.drew):=(m.bk _ p).trans g;have A:Hid (t.drew.heap[w.heap.size]?=some (zi (List.toArray [.bool false,za 0,za 0,za 0]) 55)):=m.bt r
 have u:Hid _:=(l.trans m).drew;have sd:t.heap.size≤t.drew.heap.size:=mP _;clear g r l m;go_wp2;refine hRg (fun w':World=>w'.heap[w1.heap.size]?=some (zi (List.toArray [zb 106,zb 108,zb 111,zb 103,za 1,za c,za q,za s]) 192)) ?_;generalize t.drew=X at*;refine hT2 0 (zh w1.heap.size) rfl ?_;go_simp;refine hTk 1 (.agg #[zb 106,zb 108,zb 111,zb 103,za 1,za c,za q]) rfl (fun w' b=>by obtain⟨h0,h1,h2,h3,M,N,O,P⟩:=eight b;go_simp) HS.out ?_
 go_simp;refine hT2 3 (.pointer (some ⟨w1.heap.size,7,none⟩)) rfl ?_;go_simp;refine hTk 4 (za s) rfl (fun w' b=>by obtain⟨h0,h1,h2,h3,M,N,O,P⟩:=eight b;go_simp) HS.out ?_;go_simp;refine hT2 5 (zh w1.heap.size) rfl ?_;go_simp;refine hTk 6 (.agg #[zb 106,zb 108,zb 111,zb 103,za 1,za c,za q]) rfl (fun w' b=>by obtain⟨h0,h1,h2,h3,M,N,O,P⟩:=eight b;go_simp) HS.out ?_;go_simp;refine hOn 2 rfl ?_;refine zv 127 #[iq 106 108 111 103 1 c q] zq (ZL X 106 108 111 103 1 c q) ?_
 rintro e Y ⟨rfl,n⟩;have s4:=n.size;have k:Hid _:=n.bt HS;refine⟨_,rfl,k,?_⟩;go_simp;refine hOn 7 rfl ?_;refine zv 128 #[iq 106 108 111 103 1 c q] zq (YB Y 106 108 111 103 1 c q) ?_;rintro e Z ⟨rfl,o⟩;have s5:=o.size;have d:Hid _:=o.bt k;have B:Hid (Z.heap[w.heap.size]?=some (zi (List.toArray [.bool false,za 0,za 0,za 0]) 55)):=o.bt ((n.bk _).trans A);have v:Hid _:=(u.trans n).trans o;refine⟨_,rfl,d,?_⟩
 go_simp;refine hTk 8 (.agg #[za c,za s,za q]) rfl (fun w' b=>zm) d.out ?_;go_simp;refine hTk 9 (.agg #[.bool true,za c,za s,za q]) rfl (fun w' b=>zm) d.out ?_;go_simp;refine hOn 10 rfl ?_;refine wsR [.bool true,za c,za s,za q] B ?_;intro L W E;have y:Hid _:=E.bt d;have x:Hid _:=v.step E;have C:Hid _:=W;refine⟨y,hDn ?_⟩;clear W E o n;go_wp2;have I:(loadVar 55 (zd w.heap.size)).run Tryz.prog L= .ok (.agg (List.toArray [.bool true,za c,za s,za q])) L:=nd _ _ _ _ [.bool true,za c,za s,za q] _ (zy C) Tryz.underlying55 rfl zl
 exact mT (zH Tryz.results81 rfl I) rfl ⟨rfl,x⟩
theorem lA {s:Int}:Byt (qz 106 108 111 103 1 c q s):=by
 unfold qz jP;refine Byt.app (Byt.app (Byt.app (Byt.app (Byt.app ?_ (qE _ _)) (qE _ _)) (qE _ _)) (Ei _)) (qE _ _);intro x a;simp at a;omega
theorem ar {P:Program}{fn:Func}{p1 p2 p3:Tmp}{t2:TypeId}{tmps:Array Value}{a2:Addr}{v2 v3:Value}(h:fn.results= #[.tmp p1,.cell p2 t2,.tmp p3])(h1:tmps.getD p1 undef=v1)(h2:tmps.getD p2 undef= .pointer (some a2))(h3:tmps.getD p3 undef=v3)
  (d:(loadVar t2 a2).run P w= .ok v2 w):(results fn tmps).run P w= .ok (.tuple #[v1,v2,v3]) w:=by
 have a:tmps[p1]?.getD undef=v1:=by simpa using h1
 have b:tmps[p2]?.getD undef= .pointer (some a2):=by simpa using h2
 have c:tmps[p3]?.getD undef=v3:=by simpa using h3
 simp only[results,h];simp[asAddr,a,b,c,d]
theorem ii {b c d:Value}(h:w.heap[s]?=some (.cells #[a,b,c,d] t (0,0))):
  w.cell? ⟨s,0,none⟩=some a∧w.cell? ⟨s,1,none⟩=some b∧w.cell? ⟨s,2,none⟩=some c∧w.cell? ⟨s,3,none⟩=some d:=by simp[World.cell?,h]
theorem iI (w:World){lo:Nat}{d:Dsk}{F:Nat→FB}(h1:Zw w lo hi a d)(hL:qF d n sz F st sq)(hq:sq≤4294867295)(hG:Za w tL tM tK vL vM vK):
  Calls Tryz.prog 37 #[a] w fun e w'=> ∃p,e= .returned (.tuple #[.pointer (some ⟨p,0,none⟩),.agg #[.int .i64 sz,.int .i64 st,.int .i64 sq],.int .i64 0])∧Dev w' w.heap.size p d∧zr 0 0 w w':=by
 have I:=hL.valid;have aB:=hL.big;have f:=hL.sb;have d0:=h1;obtain⟨dv,pv,rfl,v1,p1⟩:=h1;obtain⟨ao,cap,rfl,_⟩:=v1;obtain⟨po,l,rfl,_⟩:=p1;obtain⟨z1,z2,z3⟩:=zU w (.cells #[.slice ao d.dR.length cap,.slice po d.pN.length l] 26) (.cells #[.int .i64 0,.int .i64 0,.int .i64 0] 45);have B:zr 0 0 w ((w.alloc (.cells #[.slice ao d.dR.length cap,.slice po d.pN.length l] 26)).alloc (.cells #[.int .i64 0,.int .i64 0,.int .i64 0] 45)):=(zr.al w).alloc _
 have hO:=ZV _ (d0.chg B zk) I;have T:Hid (qF d n sz F st sq):=hL;have HG:Hid (Za w tL tM tK vL vM vK):=hG;obtain⟨b0,b1,_,_⟩:=zw z2;clear hL hG d0 I;go_enter Tryz.func37,Tryz.ntmps37;go_wp2_with fail;generalize (w.alloc (.cells #[.slice ao d.dR.length cap,.slice po d.pN.length l] 26)).alloc (.cells #[.int .i64 0,.int .i64 0,.int .i64 0] 45)=G at*;have y1:G.heap.size≤w.heap.size+2:=zk;have y2:w.heap.size+2≤G.heap.size:=zk
 clear z1;refine hO.mono ?_;rintro e x ⟨p,rfl,i,c1⟩;have s1:=c1.size;obtain⟨gD,qo,m,aD,_,hp,D,_,rfl,_,_⟩:=i.rows;obtain⟨e0,e1,_,_⟩:=zw D;have az:=(zE D);have ag:d.pN.length=0:=by rw[T.out.pN];rfl
 have j:d.dR.length/64=n:=by rw[T.out.dR];omega
 have O:Hid (Dev x G.heap.size p d):=i;have Y:Hid (x.heap[w.heap.size+1]?=some (.cells #[.int .i64 0,.int .i64 0,.int .i64 0] 45 (0,0))):=c1.bt z3;have y:Hid (zr 0 0 w x):=B.trans c1;have S:Hid (Za x tL tM tK vL vM vK):=HG.chg y zk;have ad:=Vn x 1 i zk (by rw[j];omega);have C:=V9 x 1 i zk az;rw[dY T.out.pN,T.out.sup] at C;have ah:(qz 106 108 111 103 1 (sz:Int) sq st).length=64:=NB ⟨zk,zk⟩ f.2 ⟨f.1.1,zk⟩
 have A:Hid ((qz 106 108 111 103 1 (sz:Int) sq st).length=64):=ah;clear hO i c1 B z2 z3 b0 b1 j ah;rw[ag] at e1;clear ag;obtain⟨cs,c⟩: ∃cs,cs=(qz 106 108 111 103 1 (sz:Int) sq st).map (Value.int .u8):=⟨_,rfl⟩;have ap:Hid (cs=(qz 106 108 111 103 1 (sz:Int) sq st).map (Value.int .u8)):=c;have af:(Tryz.prog.info? 78).map (·.size)=some cs.length:=by rw[c,mO,A.out];kernel_rfl
 have an:Hid (∀v∈cs,v.oneCell'=true):=by rw[c];exact nf _ _
 have am:Hid (cs.length=64):=by rw[c,mO];exact A
 have u:Calls Tryz.prog 80 #[.pointer (some ⟨p,0,none⟩),.int .i64 1] x fun e w'=>e= .returned (.agg cs.toArray)∧zr 0 0 x w':=by rw[c];exact C
 clear c C;go_wp2_with fail;refine ad.mono ?_;rintro e w2 ⟨rfl,rfl⟩;go_wp2_with fail;refine u.mono ?_;rintro e w3 ⟨rfl,c3⟩;have s3:=c3.size;have zA:=zt w3 (.cells Z64.toArray 78);have B:zr 0 0 w3 (w3.alloc (.cells Z64.toArray 78)):=zr.al w3;have sA:=B.size;have ab:Hid ((w3.alloc (.cells Z64.toArray 78)).heap[w3.heap.size]?=some (.cells Z64.toArray 78 (0,0))):=zA;have W:Hid (zr 0 0 w2 (w3.alloc (.cells Z64.toArray 78))):=c3.trans B
 clear zA B c3 u ad;go_upto_region 7 with(refine wpList_store_row rfl 78 (.tmp 7) (.tmp 30) rfl rfl w3.heap.size rfl cs Z64 78 rfl (by simp only[qd];exact ab.out) (by rw[zN];exact am.out) af an.out ?_;intro J ae s);simp only[qd] at s;have s5:=s.size;have c5:zr 0 0 w2 J:=W.step s;have P:Hid (Dev J G.heap.size p d):=O.chg0 c5;have Z:Hid (J.heap[w.heap.size+1]?=some (.cells #[.int .i64 0,.int .i64 0,.int .i64 0] 45 (0,0))):=c5.bt Y
 have M:Hid (zr 0 0 w J):=y.trans c5;have ac:=bB J (sz:Int) sq st (J0 (xs:=qz 106 108 111 103 1 (sz:Int) sq st) (by rw[←ap.out];exact ae) A) lA (S.chg c5 zk) ⟨f.2.1,f.2.2,zk,zk,f.1.1,f.1.2⟩;clear ae s c5 ab W O Y y S e0 e1 D;go_wp2_with fail;refine ac.mono ?_;rintro e w6 ⟨rfl,c6⟩;have s6:=c6.size;have z6:=zt w6 (.cells #[.bool false,.int .i64 0,.int .i64 0,.int .i64 0] 55);have c7:zr 0 0 w6 (w6.alloc (.cells #[.bool false,.int .i64 0,.int .i64 0,.int .i64 0] 55)):=zr.al w6
 have s7:=c7.size;go_upto_region 8 with(refine wpList_store_row rfl 55 (.tmp 8) (.tmp 32) rfl rfl w6.heap.size rfl [.bool true,.int .i64 sz,.int .i64 st,.int .i64 sq] [.bool false,.int .i64 0,.int .i64 0,.int .i64 0] 55 rfl z6 rfl zl (by simp[Value.oneCell']) ?_;intro w8 q E);have s8:=E.size;have c8:zr 0 0 J w8:=(c6.trans c7).step E;have z:Hid (Dev w8 G.heap.size p d):=P.chg0 c8;have aa:Hid (w8.heap[w.heap.size+1]?=some (.cells #[.int .i64 0,.int .i64 0,.int .i64 0] 45 (0,0))):=c8.bt Z
 have N:Hid (zr 0 0 w w8):=M.trans c8;have V:Hid _:=q;have aC:=(zE q);obtain⟨q0,q1,q2,q3⟩:=ii q;have j:d.dR.length/64=n:=by rw[T.out.dR];omega
 have aw:=Vn w8 (1+(sz:Int)) z zk (by rw[j];omega);have hwr:IntKind.i64.wrap (1+(sz:Int))=1+(sz:Int):=by rw[mS];omega
 have aG: ¬(4294867295:Int)<sq:=zk;clear ac c6 z6 c7 E c8 q P Z M j;go_wp2_with (first|(go_at_call 79;refine aw.mono ?_;rintro e L ⟨rfl,rfl⟩));have HS:Hid ((fun w':World=>w'.heap[w6.heap.size]?=some (.cells #[.bool true,.int .i64 sz,.int .i64 st,.int .i64 sq] 55 (0,0))) L.drew):=V.out;have au:Hid (L.drew.heap[w.heap.size+1]?=some (.cells (List.toArray [.int .i64 0,.int .i64 0,.int .i64 0]) 45 (0,0))):=aa.out
 have aj:Hid _:=N.drew;have Q:Hid _:=z.chg0 (zr.drew (zr.refl 0 0 L));have sd:L.heap.size≤L.drew.heap.size:=mP _;refine hRg (fun w':World=>w'.heap[w6.heap.size]?=some (.cells #[.bool true,.int .i64 sz,.int .i64 st,.int .i64 sq] 55 (0,0))) ?_;clear V aa N z q0 q1 q2 q3;generalize L.drew=X at*;refine hT2 0 (.pointer (some ⟨p,0,none⟩)) rfl ?_;go_simp;refine hT2 1 (.pointer (some ⟨w6.heap.size,1,none⟩)) rfl ?_
 go_simp;refine hTk 2 (.agg #[.int .i64 sz,.int .i64 st,.int .i64 sq]) rfl (fun w' aA=>by obtain⟨h0,h1,h2,h3⟩:=ii aA;go_simp) HS.out ?_;go_simp;refine hOn 3 rfl ?_;refine jb (v:= .pointer (some ⟨p,0,none⟩)) (w':=X) zq ⟨HS.out,?_⟩;go_simp;refine hOn 4 rfl ?_;refine wsR [.int .i64 sz,.int .i64 st,.int .i64 sq] au ?_;intro H r4 c4;have s4:=c4.size;have U:Hid _:=c4.bt HS;have ai:Hid _:=aj.step c4;have ak:Hid (Dev H w.heap.size p d):=by
  obtain⟨gD,pv,I,hp,hb,hd,ay⟩:=Q.out;have aF:=np hd gD rfl;have K: ∀ {b:Nat} {o:Obj},G.heap.size≤b→X.heap[b]?=some o→H.heap[b]?=some o:=fun aE hh=>(c4.bk _ (zE hh)).trans hh;have R: ∀ {t:TypeId} {k:Nat} {v:Value} {n:Nat} {xs:List Value},X.ownsRow G.heap.size t k v n xs→H.ownsRow w.heap.size t k v n xs:=by
   intro t k v n xs h;obtain⟨h1,h2⟩:=h;refine⟨h1,?_⟩;rcases h2 with h2|⟨g,cap,av,I,hg,hh,r⟩
   ·exact Or.inl h2
   ·exact Or.inr ⟨g,cap,av,I,zk,K hg hh,r⟩
  exact⟨gD,pv,I,zk,K hp hb,R hd,R ay⟩
 have aq:Hid _:=r4;refine⟨U,?_⟩;clear r4 c4 Q;go_simp;refine hOn 5 rfl ?_;refine jb (v:= .int .i64 0) (w':=H) zq ⟨U.out,?_⟩;go_simp;refine hDn ?_;go_wp2;have ax:(loadVar 45 ⟨w.heap.size+1,0,none⟩).run Tryz.prog H= .ok (.agg (List.toArray [.int .i64 sz,.int .i64 st,.int .i64 sq])) H:=nd _ _ _ _ [.int .i64 sz,.int .i64 st,.int .i64 sq] _ (zy aq) Tryz.underlying45 rfl zl;exact mT (v:= .tuple #[.pointer (some ⟨p,0,none⟩),.agg (List.toArray [.int .i64 sz,.int .i64 st,.int .i64 sq]),.int .i64 0]) (ar Tryz.results37 rfl rfl rfl ax) rfl ⟨p,rfl,ak,ai⟩
abbrev sX:= @Exit.noGoto_ret
theorem Tryz.infoTx:(Tryz.prog.info? 35).map (fun i=>(i.zero,i.size,i.bytes))=some (some (.agg #[za 0,zc,zc]),3,56):=zl
def TxC (t:Tx) (hv rv:Value):List Value:= [za t.seq,hv,rv]
structure qQ (w:World)(base:Nat)(tv:Value)(ts:List Tx)(hs rs:List Value):Prop where
 row:w.ownsRow base 35 3 tv ts.length ((ts.zip (hs.zip rs)).flatMap fun z=>TxC z.1 z.2.1 z.2.2)
 hl:hs.length=ts.length
 rl:rs.length=ts.length
 el: ∀i,i<ts.length→qB w base (hs.getD i undef) (rs.getD i undef) (ts.getD i ⟨0,[],[]⟩)
theorem qQ.nil (w:World)(base:Nat):qQ w base (zc) [] [] []:=⟨⟨rfl,Or.inl ⟨rfl,rfl⟩⟩,rfl,rfl,fun i h=>absurd h zn⟩
theorem qQ.chg {tv:Value}{ts:List Tx}(h:qQ w base tv ts hs rs)(c:zr 0 0 w w'):qQ w' base tv ts hs rs:=
 ⟨zR h.row (qh.chg c),h.hl,h.rl,fun i hi=>(h.el i hi).keep (fun j b T _ _ a=>(c.bk j (zE a)).trans a)⟩
theorem qQ.low {base':Nat}{tv:Value}{ts:List Tx}(h:qQ w base tv ts hs rs)(b:base'≤base:=by omega):qQ w base' tv ts hs rs:=by
 refine⟨⟨h.row.1,?_⟩,h.hl,h.rl,fun i hi=>(h.el i hi).low b⟩;rcases h.row.2 with h2|⟨g,cap,a,c,d,r⟩
 ·exact Or.inl h2
 ·exact Or.inr ⟨g,cap,a,c,zk,r⟩
theorem lT (w:World)(a b c d:Obj):((((w.alloc a).alloc b).alloc c).alloc d).heap.size=w.heap.size+4∧((((w.alloc a).alloc b).alloc c).alloc d).heap[w.heap.size]?=some a∧
  ((((w.alloc a).alloc b).alloc c).alloc d).heap[w.heap.size+1]?=some b∧((((w.alloc a).alloc b).alloc c).alloc d).heap[w.heap.size+1+1]?=some c∧((((w.alloc a).alloc b).alloc c).alloc d).heap[w.heap.size+3]?=some d:=by
 obtain⟨e,f,g,h⟩:=JZ w a b c;refine⟨zn,?_,?_,?_,?_⟩
 ·rw[oU _ _ _ zk];exact f
 ·rw[oU _ _ _ zk];exact g
 ·rw[oU _ _ _ zk];exact h
 ·rw[←e];exact zt _ _
theorem Ql {ops:Array Oper}{rest:List Oper}{o:Oper}{a:Act}{Q:Exit→Act→World→Prop}{t:Tx}(z:o.guard=none)(s x:Operand)
  (R:o.op= .call {callee:= .builtin .append,args:= #[s,x],argTypes:= #[31,31]}) (base:Nat) (v:Value) (ts:List Tx) (hs rs:List Value) (C:a.eval s=v) (b:qQ W base v ts hs rs) (y:base≤W.heap.size)
  (V:a.eval x=zg W.heap.size 1 1) (hk:ts.length≤90000) (N: ∃a l c,hv=zj a l c) (S: ∃a l c,rv=zj a l c) (U:qB W base hv rv t)
  (h: ∀g p w',qQ w' base (zg g (ts.length+1) p) (ts++ [t]) (hs++ [hv]) (rs++ [rv])→zr base w'.heap.size (W.alloc (zi #[za t.seq,hv,rv] 35)) w'→(∀(j:Nat) (d:Array Value) (T:TypeId),T≠35→W.heap[j]?=some (zi d T)→w'.heap[j]?=some (zi d T))→wpList Tryz.prog ops Q rest (a.put o.dst (zg g (ts.length+1) p)) w'):
  wpList Tryz.prog ops Q (o::rest) a (W.alloc (zi #[za t.seq,hv,rv] 35)):=by
 refine oV z fun _ hK=>?_;have G:zr 0 0 W (W.alloc (zi #[za t.seq,hv,rv] 35)):=zr.al W;have w:=b.chg G;obtain⟨i,hi,D,E,F⟩:=na Tryz.infoTx;refine oS _ s x 31 R base 35 i _ 3 56 Tryz.underlying31 hi D E F rfl zk v ts.length _ C w.row (zd W.heap.size) 1 1 (TxC t hv rv) V ?_ ?_ ?_ (by unfold maxLen;omega) zk (by simp;omega) ?_
 ·rfl
 ·intro j u P;rw[rM,ni];simp only[World.cell?,zt W _];simpa [TxC] using P
 ·intro u H;obtain⟨a,l,c,rfl⟩:=N;obtain⟨Y,l',Z,rfl⟩:=S;simp[TxC] at H;rcases H with rfl|rfl|rfl<;>rfl
 ·intro X w' h1 h2 _;obtain⟨r,e,q⟩: ∃g p,X=zg g (ts.length+1) p:=by
   rcases h1.2 with⟨_,h0⟩|⟨r,e,d,q,_⟩
   ·omega
   ·exact⟨r,e,q⟩
  subst q;have A:=qh.grownE h2 w.row;have k: ∀(j:Nat) (d:Array Value) (T:TypeId),T≠35→W.heap[j]?=some (zi d T)→w'.heap[j]?=some (zi d T):=fun j d T n f=>A j d T n ((G.bk j (zE f)).trans f);refine hK _ _ (h r e w' ⟨?_,by rw[mL,mL,b.hl];rfl,by rw[mL,mL,b.rl];rfl,fun i hi=>?_⟩ (zr.ofGrown h2 (fun g O m=>⟨(np w.row g O).1,by have:=h2.size;omega⟩)) k)
  ·have L:(hs++ [hv]).zip (rs++ [rv])=hs.zip rs++ [(hv,rv)]:=by rw[List.zip_append (by rw[b.hl,b.rl])];rfl
   have M:(ts++ [t]).zip (hs.zip rs++ [(hv,rv)])=ts.zip (hs.zip rs)++ [(t,hv,rv)]:=by rw[List.zip_append (by rw[List.length_zip,b.hl,b.rl];omega)];rfl
   rw[mL,L,M,pW];simpa using h1
  ·rw[mL,nJ] at hi;by_cases m:i<ts.length
   ·have:=(b.el i m).keep (fun j d T _ n f=>k j d T n f);have f:=b.hl;have B:=b.rl;simpa [nZ,m,f,B] using this
   ·obtain rfl:i=ts.length:=zk;have:=U.keep (fun j d T _ n f=>k j d T n f);have I:(hs++ [hv]).getD ts.length undef=hv:=by rw[←b.hl];simp
    have J:(rs++ [rv]).getD ts.length undef=rv:=by rw[←b.rl];simp
    have K:(ts++ [t]).getD ts.length ⟨0,[],[]⟩=t:=zn;rw[I,J,K];exact this
theorem fV (w:World)(p:Nat)(sz a:Int):
  Calls Tryz.prog 38 #[zh p,.agg #[za sz,za 0,za a]] w fun e w'=>e= .returned (zc)∧zr 0 0 w w':=by
 have b:zr 0 0 w (w.alloc (zi #[za sz,za 0,za a] 45)):=zr.al w;go_enter Tryz.func38,Tryz.ntmps38;go_wp2;go_step3;go_wp2
 try rw[sX]
 go_ret;exact⟨rfl,b⟩
theorem b7: ∀(xs:List FB) (s:RS),(zT s xs).seen.length≤s.seen.length+xs.length:=by
 intro xs
 induction xs with
 |nil=>intro s;exact mP _
 |cons x r ih=>
  intro s;have e:(zJ s x).1.seen.length=s.seen.length+1:=by
   unfold zJ;split
   ·split<;>simp
   ·cases x using FB.el<;>simp
  show(if(zJ s x).2=true then zT (zJ s x).1 r else(zJ s x).1).seen.length≤_;rw[m7];split
  ·have:=ih (zJ s x).1;omega
  ·omega
theorem QH.part {hi:Int}{xs:List FB}{ts:List Tx}(h:QH lo hi xs q ts):(ts= []∧(TL (zT RS.zero xs).txn≠(zT RS.zero xs).seen∨(zT RS.zero xs).seen= []∨(zT RS.zero xs).seq≠q))∨
  ∃t r,ts=t::r∧zT RS.zero xs=⟨TL t,q,t.homes,t.rV,[]⟩∧t.seq=q∧qy t∧(∀x∈t.homes,lo≤x.1∧x.1≤hi)∧(∀x∈t.rV,lo≤x∧x≤hi)∧QH lo hi (xs.drop (TL t).length) (q+1) r:=by
 cases ts with
 |nil=>exact Or.inl ⟨rfl,h⟩
 |cons t r=>exact Or.inr ⟨t,r,rfl,h⟩
structure ScI (w:World)(F:Nat→FB)(sz st:Nat)(lo hi sq:Int)(ts:List Tx)(x5 x6 x7 x8:Value)(wr:World):Prop where
 ex: ∃(k:Nat) (pre rest:List Tx) (hs rs:List Value),qQ wr w.heap.size x5 pre hs rs∧x6=za ((((st+k) % sz:Nat):Int)+1)∧x7=za (sq+(pre.length:Int))∧x8=za ((sz-k:Nat):Int)∧k≤sz∧ts=pre++rest∧QH lo hi (win F sz (st+k) (sz-k)) (sq+(pre.length:Int)) rest∧pre.length≤k
 ch:zr 0 0 w wr
 hb:wr.heap[w.heap.size]?=some (zi #[za sz,za ((st:Int)+1),za sq] 45)
theorem cQ (w:World){p:Nat}{d:Dsk}{F:Nat→FB}{st:Nat}{ts:List Tx}(hD:Dev w base p d)(hL:qF d n sz F ((st+1:Nat):Int) sq)(hS:QH ((sz:Int)+2) ((n:Int)-1) (win F sz st sz) sq ts)(hq:sq≤4294867295)(hG:Za w tL tM tK vL vM vK)(hE:ZY w)(hM:Mag w)(bu:8≤w.heap.size):
  Calls Tryz.prog 38 #[zh p,.agg #[za sz,za ((st:Int)+1),za sq]] w fun e w'=> ∃tv hs rs,e= .returned tv∧qQ w' w.heap.size tv ts hs rs∧zr 0 0 w w':=by
 have bn:=hL.big;have bj:=hL.sb;have cA:zr 0 0 w (w.alloc (zi #[za sz,za ((st:Int)+1),za sq] 45)):=zr.al w;have zA:=zt w (zi #[za sz,za ((st:Int)+1),za sq] 45);have sA:w.heap.size+1≤(w.alloc (zi #[za sz,za ((st:Int)+1),za sq] 45)).heap.size:=zn;obtain⟨⟨k0,k1,k2⟩,_⟩:=tri zA;obtain⟨gD,qo,m,bp,_,hp,N,_,rfl,_,_⟩:=hD.rows;have aI:d.dR.length/64=n:=by rw[hL.dR];omega
 rw[aI] at N;have bg:=(zE N);obtain⟨e0,e1,_,_⟩:=zw ((cA.bk p bg).trans N);have bx:(((st:Int)+1)==0)=false:=by simp;omega
 have bl:st<sz:=by have:=bj.1.2;omega
 have w1:IntKind.i64.wrap (1+(sz:Int))=(sz:Int)+1:=by rw[mS];omega
 have q:IntKind.i64.wrap ((sz:Int)+1+1)=(sz:Int)+2:=by rw[mS];omega
 have w3:IntKind.i64.wrap ((n:Int)-1)=(n:Int)-1:=by rw[mS];omega
 have HD:Hid (Dev w base p d):=hD;have HL:Hid (qF d n sz F ((st+1:Nat):Int) sq):=hL;have HG:Hid _:=hG;have HE:Hid (ZY w):=hE;have HM:Hid (Mag w):=hM;have ba:Hid _:=zA;have a5:Hid _:=cA;have HS:Hid _:=hS;clear hD hL hG hE hM hS zA cA aI N;go_enter Tryz.func38,Tryz.ntmps38;go_wp2;go_step3;go_wp2;generalize w.alloc (zi #[za sz,za ((st:Int)+1),za sq] 45)=wA at*;have cd:zr 0 0 wA wA.drew:=zr.drew (zr.refl _ _ wA)
 go_quiet (fail);go_wp2;go_quiet (fail);go_wp2;go_step3;go_wp2;go_loopw [5,6,7,8] (fun x5 x6 x7 x8 wr=>ScI w F sz st ((sz:Int)+2) ((n:Int)-1) sq ts x5 x6 x7 x8 wr) (fun _ _ _ x8 _=>(intOf x8).toNat)
 case atStart=>
  refine⟨⟨0,[],ts,[],[],qQ.nil _ _,?_,?_,?_,mX _,rfl,?_,mP _⟩,(a5.drewN _).drewN _,ba⟩
  ·rw[oF,oN bl]
  ·simp
  ·simp
  ·simpa using HS.out
 case round=>
  obtain⟨⟨k,pre,bq,hs,rs,hT,rfl,rfl,rfl,hk,aV,hR,bz⟩,ah,ag⟩:=hrel;have sW:=ah.size;have bC:=(zE ag);have HB:Hid _:=ag;obtain⟨⟨c0,c1,c2⟩,_⟩:=tri HB;have ax:Hid _:=ah;have ac:Hid _:=aV;have az:Hid _:=hR;have HT:Hid _:=hT;have bm: ∃xa xn xc,u5=zj xa xn xc:=zF hT.row;obtain⟨xa,xn,xc,rfl⟩:=bm;have hm:=nF (st+k) (show 0<sz by omega);obtain⟨z1,z2,z3,z4,z5⟩:=lT wr (zi #[zh p] 59) (zi #[za ((((st+k) % sz:Nat):Int)+1)] 2) (zi #[za ((sz-k:Nat):Int)] 2) (zi #[za sz] 2)
  have cl:zr 0 0 wr ((((wr.alloc (zi #[zh p] 59)).alloc (zi #[za ((((st+k) % sz:Nat):Int)+1)] 2)).alloc (zi #[za ((sz-k:Nat):Int)] 2)).alloc (zi #[za sz] 2)):=(((zr.al wr).alloc _).alloc _).alloc _;have aO:=UO wr p ((((st+k) % sz:Nat):Int)+1) ((sz-k:Nat):Int) (sz:Int);clear hT aV hR ah ag;go_wp2_with fail;refine aO.mono ?_;rintro e X ⟨rfl,rfl⟩;clear aO;generalize (((wr.alloc (zi #[zh p] 59)).alloc (zi #[za ((((st+k) % sz:Nat):Int)+1)] 2)).alloc (zi #[za ((sz-k:Nat):Int)] 2)).alloc (zi #[za sz] 2)=X at*
  have v:Hid (zr 0 0 w X):=ax.trans cl;have V: ∀x∈win F sz ((st+k) % sz) (sz-k),x.ok:=fun x hx=>by
   obtain⟨i,hi,rfl⟩:=Vp zk hx;exact HL.ok i hi
  have ad:=U0 X (HG.chg v zk) (HE.chg v zk) (HM.chg v zk) V (by rw[ji];omega) (by have:=v.size;omega) (p9 Tryz.func131 zl rfl)
   (kW wr.heap.size p base n sz ((st+k) % sz) (sz-k) d F _ sq X (HD.chg0 v) HL hm zk (ng z2) (ng z3) (ng z4) (ng z5))
  rw[ep] at ad;have sl:=cl.size;clear z1 z2 z3 z4 z5 V;go_wp2_with fail;refine ad.mono ?_;rintro e q ⟨hv,rv,c4,U⟩;have s4:=c4.size;have B:Hid _:=v.trans c4;have L:Hid _:=HT.chg (cl.trans c4);have Y:Hid _:=((cl.trans c4).bk _).trans HB;clear ad cl c4 HT HB ax v c0 c1 c2;rcases az.part with⟨bh,ai⟩|⟨t,z,aQ,G,ap,aW,aT,aU,an⟩;·
   have A:Hid (qQ q w.heap.size (zj xa xn xc) ts hs rs):=by rw[show Hid _=_ from rfl,ac.out,bh,nw];exact L.out
   rcases U with⟨r,rfl,y⟩|⟨r,rfl⟩
   ·obtain⟨es,P,_,_,Q,_⟩:=y;obtain⟨D,hn,I,rfl⟩:=P.slice;obtain⟨H,J,rfl⟩:=Q.shape;generalize ((zT RS.zero (win F sz (st+k) (sz-k))).txn.rV).length=rn at*;have E:(zT RS.zero (win F sz (st+k) (sz-k))).seen.length=0∨ ¬(zT RS.zero (win F sz (st+k) (sz-k))).seq=sq+(pre.length:Int):=by
     rcases ai with h|h|h
     ·exact absurd r h
     ·exact Or.inl (by rw[h];rfl)
     ·exact Or.inr h
    have K:Hid (∀o:Obj,zr 0 0 w (q.alloc o)):=fun o=>B.alloc o;have M:Hid (∀o:Obj,qQ (q.alloc o) w.heap.size (zj xa xn xc) ts hs rs):=fun o=>A.chg (zr.alloc (zr.refl 0 0 q) o);clear P Q ai r A B L Y;generalize (zT RS.zero (win F sz (st+k) (sz-k))).seen.length=u at*;generalize (zT RS.zero (win F sz (st+k) (sz-k))).seq=sq' at*;by_cases aM:u=0
    ·subst aM;clear E;go_wp2;rw[sX];go_ret;exact⟨_,hs,rs,rfl,M _,K _⟩
    ·have aS: ¬sq'=sq+(pre.length:Int):=by rcases E with h|h;exact absurd h aM;exact h
     have bf:((u:Int)==0)=false:=by simp;omega
     have bd:(sq' !=(sq+(pre.length:Int)))=true:=by simpa using aS
     clear E aS;go_wp2;rw[sX];go_ret;exact⟨_,hs,rs,rfl,M _,K _⟩
   ·have K:Hid (∀o:Obj,zr 0 0 w (q.alloc o)):=fun o=>B.alloc o;have M:Hid (∀o:Obj,qQ (q.alloc o) w.heap.size (zj xa xn xc) ts hs rs):=fun o=>A.chg (zr.alloc (zr.refl 0 0 q) o);clear ai r A B L Y;go_wp2;rw[sX];go_ret;exact⟨_,hs,rs,rfl,M _,K _⟩
  ·
   have aq:(zT RS.zero (win F sz (st+k) (sz-k))).txn=t:=by rw[G];cases t;simp only[RS.txn] at*;rw[ap]
   rcases U with⟨r,rfl,y⟩|⟨r,_⟩
   case inr=>
    exact absurd (by rw[aq,G]) r
   rw[aq] at y
   obtain⟨am,ak,R,aH⟩:=y.view
   have aE:=y
   obtain⟨es,P,aP,_,Q,bi,aJ⟩:=aE
   obtain⟨D,I,rfl⟩:=am.slice
   obtain⟨H,J,rfl⟩:=ak.slice
   have aG:=(Ze R).1
   have bc:1≤(TL t).length:=by rw[←jQ aW,mO];have:=NC t;cases h:qx t with|nil=>exact absurd h this|cons _ _=>simp
   have S:(TL t).length≤sz-k:=by
    have h1:=(b7 (win F sz (st+k) (sz-k)) RS.zero);rw[G,ji] at h1;simpa [RS.zero] using h1
   rw[G]
   have ab:Hid (QH ((sz:Int)+2) ((n:Int)-1) (win F sz (st+(k+(TL t).length)) (sz-(k+(TL t).length))) (sq+(((pre++ [t]).length:Nat):Int)) z):=by
    rw[aR _ _ _ _ _ S] at an;rw[show st+(k+(TL t).length)=st+k+(TL t).length by omega,show sz-(k+(TL t).length)=sz-k-(TL t).length by omega,mL,nJ];rw[show sq+((pre.length+1:Nat):Int)=sq+(pre.length:Int)+1 by omega];exact an
   have a0:Hid (qB q X.heap.size (zj D t.homes.length I) (zj H t.rV.length J) t):=y
   have aC:Hid (ts=(pre++ [t])++z):=by show _=_;rw[ac.out,aQ];simp
   have a1:Hid (qW q X.heap.size q.heap.size (zj D t.homes.length I) t.homes):=am
   have a2:Hid (zC q X.heap.size q.heap.size .i64 (zj H t.rV.length J) t.rV):=ak
   have bo:=bi
   have bv:t.homes.length≤10000:=by rw[←aP,mO];exact aJ
   have a8:Hid _:=ap
   have a7:Hid _:=aT
   have a9:Hid _:=aU
   clear P Q aP y am ak an G aq r aW R aQ az ac aH aJ ap aT aU
   obtain⟨u,O⟩: ∃u,u=(TL t).length:=⟨_,rfl⟩
   have a6:Hid _:=O
   rw[←O] at bc S aG
   dsimp only
   rw[←O]
   clear O
   have bf:((u:Int)==0)=false:=by simp;omega
   have bd:((sq+(pre.length:Int)) !=(sq+(pre.length:Int)))=false:=zn
   have cZ:zr 0 0 q (q.alloc (zi #[za (sq+(pre.length:Int)),zj D t.homes.length I,zj H t.rV.length J] 35)):=zr.al q
   have zZ:=zt q (zi #[za (sq+(pre.length:Int)),zj D t.homes.length I,zj H t.rV.length J] 35)
   go_wp2
   have aD:Hid _:=zZ
   have Z:Hid (zr 0 0 q (q.alloc (zi #[za (sq+(pre.length:Int)),zj D t.homes.length I,zj H t.rV.length J] 35))):=cZ
   have sZ:=cZ.size
   have aN:=(zE zZ)
   clear zZ cZ
   generalize q.alloc (zi #[za (sq+(pre.length:Int)),zj D t.homes.length I,zj H t.rV.length J] 35)=W3 at*
   go_loopw [57] (fun i wx=> ∃j:Nat,j≤t.homes.length∧i=za j∧zr 0 0 W3 wx) (fun i _=>t.homes.length-(intOf i).toNat)
   case atStart=>exact⟨0,mX _,rfl,zr.refl 0 0 W3⟩
   case round=>
    rename_i wo _ _ _ _;obtain⟨j,hj,rfl,a⟩:=hrel;by_cases c:j<t.homes.length
    ·have aj:=a1.chg (Z.trans a) zk;obtain⟨ao,cap,e,_,_,l⟩:=aj;obtain⟨rfl,_,rfl⟩:D=ao∧True∧I=cap:=by simpa using e
     obtain⟨b,f,rfl,g⟩: ∃b f,D=some ⟨b,f,none⟩∧ ∀i,i<t.homes.length→ ∃dv,wr.cell? ⟨b,f+i*2,none⟩=some (za (t.homes.getD i (0,[])).1)∧wr.cell? ⟨b,f+i*2+1,none⟩=some dv∧zC wr X.heap.size q.heap.size .u8 dv (t.homes.getD i (0,[])).2:=by
      rcases l with h|⟨b,f,e,_,_,h⟩
      ·rw[h] at c;simp at c
      ·exact⟨b,f,e,h⟩
     obtain⟨dv,q0,q1,aX⟩:=g j c;obtain⟨da,dc,rfl⟩:=aX.slice;have s:t.homes.getD j (0,[])∈t.homes:=by rw[mV,mZ c];exact nj c
     obtain⟨ar,au⟩:=a7.out _ s;generalize (t.homes.getD j (0,[])).1=bk at*;generalize (t.homes.getD j (0,[])).2.length=dl at*;have be:(j:Int)<(t.homes.length:Int):=zk;have aa:Hid (∀o:Obj,zr 0 0 W3 (wr.alloc o)):=fun o=>a.alloc o;have C:=fun W=>qZ W bk ((sz:Int)+2) ((n:Int)-1);rw[mR ar,mR au] at C;clear l g aX a e s;go_wp2_with (go_at_call 78;refine(C _).mono ?_;rintro e wy ⟨rfl,rfl⟩);go_roundw
     case rel=>exact⟨j+1,c,by congr 1,aa _⟩
     case measure=>simp[intOf];omega
    ·obtain rfl:j=t.homes.length:=zk;have be: ¬((t.homes.length:Int)<(t.homes.length:Int)):=zk;obtain⟨⟨t0,t1,t2⟩,_⟩:=tri ((a.bk _ aN).trans aD);have aA:Hid _:=a;clear a;go_wp2;have s4:=aA.size;go_loopw [71] (fun i wx=> ∃j:Nat,j≤t.rV.length∧i=za j∧zr 0 0 W3 wx) (fun i _=>t.rV.length-(intOf i).toNat)
     case atStart=>exact⟨0,mX _,rfl,aA⟩
     case round=>
      obtain⟨j,bw,rfl,a⟩:=hrel;by_cases c:j<t.rV.length
      ·have aj:=a2.chg (Z.trans a) zk;obtain⟨ao,cap,e,_,_,l⟩:=aj;obtain⟨rfl,_,rfl⟩:H=ao∧True∧J=cap:=by simpa using e
       obtain⟨b,f,rfl,g⟩: ∃b f,H=some ⟨b,f,none⟩∧ ∀i,i<t.rV.length→wr.cell? ⟨b,f+i,none⟩=some (za (t.rV.getD i 0)):=by
        rcases l with h|⟨b,f,e,_,_,h⟩
        ·rw[h] at c;simp at c
        ·exact⟨b,f,e,h⟩
       have q0:=g j c;have s:t.rV.getD j 0∈t.rV:=by rw[mV,mZ c];exact nj c
       obtain⟨ar,au⟩:=a9.out _ s;generalize t.rV.getD j 0=bk at*;have aK:(j:Int)<(t.rV.length:Int):=zk;have aa:Hid _:=a;have C:=fun W=>qZ W bk ((sz:Int)+2) ((n:Int)-1);rw[mR ar,mR au] at C;clear l g a e s;go_wp2_with (go_at_call 78;refine(C _).mono ?_;rintro e wy ⟨rfl,rfl⟩);go_roundw
       case rel=>exact⟨j+1,c,by congr 1,aa⟩
       case measure=>simp[intOf];omega
      ·obtain rfl:j=t.rV.length:=zk;have aK: ¬((t.rV.length:Int)<(t.rV.length:Int)):=zk;obtain⟨⟨t0,t1,t2⟩,_⟩:=tri ((a.bk _ aN).trans aD);have a4:Hid _:=a;have c5:=Z.trans a;have HT5:Hid _:=L.chg c5;have ay:Hid (qB wr w.heap.size (zj D t.homes.length I) (zj H t.rV.length J) t):=(a0.keep (fun j bs T _ _ hh=>(c5.bk j (zE hh)).trans hh)).low zk;have aw:Hid _:=B.trans c5;have av:Hid _:=c5.bt Y;have s5:=c5.size
       clear a c5;have Htt:Hid ((⟨sq+(pre.length:Int),t.homes,t.rV⟩:Tx)=t):=by show _=_;rw[←a8.out]
       go_upto_region 19 with(refine Ql (t:=⟨sq+(pre.length:Int),t.homes,t.rV⟩) rfl (.tmp 81) (.tmp 83) rfl w.heap.size (zj xa xn xc) pre hs rs rfl HT5.out zk rfl zk ⟨_,_,_,rfl⟩ ⟨_,_,_,rfl⟩ (by rw[Htt.out];exact ay.out) ?_;intro g6 br w6 ae c6 aL);rw[Htt.out] at ae;have af:=aL w.heap.size _ _ zp av;obtain⟨⟨d0,d1,d2⟩,_⟩:=tri af;have aZ:Hid (zr 0 0 w w6):=by
        have bb:zr 0 0 w (wr.alloc (zi #[za (⟨sq+(pre.length:Int),t.homes,t.rV⟩:Tx).seq,zj D t.homes.length I,zj H t.rV.length J] 35)):=aw.alloc _;exact bb.step c6
       have aY:Hid _:=af;have a3:Hid _:=ae;have aF:=j6 w6 (sz:Int) ((((st+k) % sz:Nat):Int)+1) (u:Int);have aB:Hid (qi sz ((((st+k) % sz:Nat):Int)+1) (u:Int)=(((st+(k+u)) % sz:Nat):Int)+1):=by
        show _=_;unfold qi;rw[show(((st+k) % sz:Nat):Int)+1-1+(u:Int)=(((st+k) % sz+u:Nat):Int) by omega];have e:((((st+k) % sz+u:Nat):Int)) % (sz:Int)=((((st+k) % sz+u) % sz:Nat):Int):=rfl;rw[e,sR,pm]
       rw[aB.out] at aF;have bB:IntKind.i64.wrap (sq+(pre.length:Int)+1)=sq+(pre.length:Int)+1:=by rw[mS];omega
       have bA:IntKind.i64.wrap (((sz-k:Nat):Int)-(u:Int))=((sz-(k+u):Nat):Int):=by rw[mS];omega
       clear ae c6 aL af HT5 ay aw av a4 aB;go_wp2_with (go_at_call 34;refine aF.mono ?_;rintro e wy ⟨rfl,rfl⟩);go_roundw
       case rel=>
        have e7:sq+(pre.length:Int)+1=sq+(((pre++ [t]).length:Nat):Int):=by rw[mL,nJ];omega
        refine⟨⟨k+u,pre++ [t],z,_,_,a3,?_,?_,rfl,zk,aC,?_,by rw[mL,nJ];omega⟩,aZ,aY⟩
        ·rfl
        ·rw[e7]
        ·rw[a6.out];exact ab
       case measure=>simp[intOf];omega
def Vr (w:World) (base:Nat) (tv:Value) (ts:List Tx):Prop:= ∃hs rs,qQ w base tv ts hs rs
theorem Uk (w:World){lo:Nat}{d:Dsk}{F:Nat→FB}{st:Nat}{ts:List Tx}(h1:Zw w lo hi a d)(hL:qF d n sz F st sq)(x:(st=0∧ts= [])∨(st≠0∧QH ((sz:Int)+2) ((n:Int)-1) (win F sz (st-1) sz) sq ts))(hq:sq≤4294867295)(Z:Za w tL tM tK vL vM vK)(hE:ZY w)(hM:Mag w)(ac:8≤w.heap.size):
  Calls Tryz.prog 14 #[a] w fun e w'=> ∃r,e= .returned (.agg #[za 0,za sz,za st,za sq,r])∧Vr w' w.heap.size r ts∧zr 0 0 w w':=by
 have d0:=h1;obtain⟨dv,pv,rfl,v1,p1⟩:=h1;obtain⟨V,cap,rfl,_⟩:=v1;obtain⟨po,f,rfl,_⟩:=p1;obtain⟨z1,z2,z3⟩:=zU w (zi #[zj V d.dR.length cap,zj po d.pN.length f] 26) (zi #[za 0,za 0,za 0,za 0,zc] 47);have H:zr 0 0 w ((w.alloc (zi #[zj V d.dR.length cap,zj po d.pN.length f] 26)).alloc (zi #[za 0,za 0,za 0,za 0,zc] 47)):=(zr.al w).alloc _;have hO:=iI _ (d0.chg H zk) hL hq (Z.chg H zk);have HS:Hid (∀(W:World) (base p:Nat),zr 0 0 w W→Dev W base p d→Calls Tryz.prog 38 #[zh p,.agg #[za sz,za st,za sq]] W fun e w'=> ∃r hs rs,e= .returned r∧qQ w' W.heap.size r ts hs rs∧zr 0 0 W w'):=by
  intro W base p I hD;rcases x with⟨rfl,rfl⟩|⟨h0,x⟩
  ·refine(fV W p (sz:Int) sq).mono ?_;rintro e w' ⟨rfl,hc⟩;exact⟨_,[],[],rfl,qQ.nil _ _,hc⟩
  ·obtain⟨st',rfl⟩: ∃st',st=st'+1:=⟨st-1,zk⟩;rw[tD] at x;have:=cQ W hD hL x hq (Z.chg I zk) (hE.chg I zk) (hM.chg I zk) (by have:=I.size;omega);exact this
 obtain⟨b0,b1,_,_⟩:=zw z2;clear hL Z d0 x hE hM;go_enter Tryz.func14,Tryz.ntmps14;go_wp2_with fail;generalize (w.alloc (zi #[zj V d.dR.length cap,zj po d.pN.length f] 26)).alloc (zi #[za 0,za 0,za 0,za 0,zc] 47)=L at*;have y1:L.heap.size≤w.heap.size+2:=zk;have y2:w.heap.size+2≤L.heap.size:=zk;clear z1;refine hO.mono ?_;rintro e w1 ⟨p,rfl,v,D⟩;have s1:=D.size;have zB:=zt w1 (zi #[za 0,za 0,za 0] 45)
 have Y:zr 0 0 w1 (w1.alloc (zi #[za 0,za 0,za 0] 45)):=zr.al w1;have sB:=Y.size;go_upto_region 2 with(refine wpList_store_row rfl 45 (.tmp 4) (.tmp 10) rfl rfl w1.heap.size rfl [za sz,za st,za sq] [za 0,za 0,za 0] 45 rfl zB rfl zl (by simp[Value.oneCell']) ?_;intro g m o);have s2:=o.size;have E:=Y.step o;have ab:=(zE m);have t:Hid (Dev g L.heap.size p d):=v.chg0 E;have S:Hid (g.drew.heap[w.heap.size+1]?=some (zi (List.toArray [za 0,za 0,za 0,za 0,zc]) 47)):=((D.trans E).bk _).trans z3
 have k:Hid (zr 0 0 w g):=(H.trans D).trans E;have HSf:Hid ((fun w':World=>w'.heap[w1.heap.size]?=some (zi (List.toArray [za sz,za st,za sq]) 45)) g.drew):=m;clear hO v D H z2 z3 b0 b1 zB Y o E m;go_wp2;refine hRg (fun w':World=>w'.heap[w1.heap.size]?=some (zi (List.toArray [za sz,za st,za sq]) 45)) ?_;have y:=HS.out g.drew L.heap.size p k.drew (t.chg0 (zr.drew (zr.refl 0 0 g)));have s:Hid _:=k.drew
 have sd:g.heap.size≤g.drew.heap.size:=mP _;clear HS k t;generalize g.drew=X at*;refine hTk 0 (.agg #[za sz,za st,za sq]) rfl (fun w' c=>by obtain⟨⟨h0,h1,h2⟩,_⟩:=tri c;go_simp) HSf.out ?_;go_simp;refine hTk 1 (zh p) rfl (fun w' c=>zm) HSf.out ?_;go_simp;refine hTk 2 (.agg #[za sz,za st,za sq]) rfl (fun w' c=>by obtain⟨⟨h0,h1,h2⟩,_⟩:=tri c;go_simp) HSf.out ?_;go_simp;refine hOn 3 rfl ?_;refine zv 38 #[zh p,.agg #[za sz,za st,za sq]] zq y ?_
 rintro e X2 ⟨r,hs,rs,rfl,h,u⟩;obtain⟨z,B,A,rfl⟩:=zF h.row;have s4:=u.size;have l:Hid _:=u.bt HSf;have U:Hid (X2.heap[w.heap.size+1]?=some (zi (List.toArray [za 0,za 0,za 0,za 0,zc]) 47)):=u.bt S;have M:Hid _:=s.trans u;have P:Hid _:=h;refine⟨_,rfl,l,?_⟩;clear u h y;go_simp;refine hTk 4 (.agg #[za 0,za sz,za st,za sq,zj z B A]) rfl (fun w' c=>zm) l.out ?_;go_simp;refine hOn 5 rfl ?_;refine wsR [za 0,za sz,za st,za sq,zj z B A] U ?_
 intro C r4 G;have O:Hid _:=G.bt l;have N:Hid _:=M.step G;have Q:Hid (qQ C w.heap.size (zj z B A) ts hs rs):=by
  have h:=P.out;have K: ∀(j:Nat) (b:Array Value) (T:TypeId),X.heap.size≤j→X2.heap[j]?=some (zi b T)→C.heap[j]?=some (zi b T):=fun j b T J q=>(G.bk j (zE q)).trans q;exact qQ.low ⟨zR h.row (fun j b J q=>K j b _ J q),h.hl,h.rl,fun i hi=>(h.el i hi).keep (fun j b T J _ q=>K j b T J q)⟩ (by have:=s.size;omega)
 have R:Hid _:=r4;refine⟨O,hDn ?_⟩;clear r4 G;go_wp2;have aa:(loadVar 47 (zd (w.heap.size+1))).run Tryz.prog C= .ok (.agg (List.toArray [za 0,za sz,za st,za sq,zj z B A])) C:=nd _ _ _ _ [za 0,za sz,za st,za sq,zj z B A] _ (zy R) Tryz.underlying47 rfl zl;exact mT (zH Tryz.results14 rfl aa) rfl ⟨_,rfl,⟨hs,rs,Q⟩,N⟩
theorem YA (w:World){lo lo' hi':Nat}{b:Value}(h1:zC w lo hi .u8 a xs)(h2:zC w lo' hi' .u8 b xs):
  Calls Tryz.prog 23 #[a,b] w fun e w'=>e= .returned (.bool true)∧w'=w:=by
 have g:=h1.str;have h:=h2.str;obtain⟨d,cap,rfl,_⟩:=h1;obtain⟨f,c,rfl,_⟩:=h2;generalize strOfNums xs=s at*;go_enter Tryz.func23,Tryz.ntmps23;go_wp2;go_ret;exact⟨rfl,rfl⟩
theorem mz (ts:List Tx): ∀(hs rs:List Value) (i:Nat),hs.length=ts.length→rs.length=ts.length→i<ts.length→
  ((ts.zip (hs.zip rs)).flatMap fun z=>TxC z.1 z.2.1 z.2.2)[i*3]?=some (za (ts.getD i ⟨0,[],[]⟩).seq)∧((ts.zip (hs.zip rs)).flatMap fun z=>TxC z.1 z.2.1 z.2.2)[i*3+1]?=some (hs.getD i undef)∧((ts.zip (hs.zip rs)).flatMap fun z=>TxC z.1 z.2.1 z.2.2)[i*3+2]?=some (rs.getD i undef):=by
 induction ts with
 |nil=>intro hs rs i _ _ h;simp at h
 |cons t ts ih=>
  intro hs rs i h1 h2 hi;obtain⟨a,hs,rfl⟩: ∃a l,hs=a::l:=by cases hs with|nil=>simp at h1|cons a l=>exact⟨a,l,rfl⟩
  obtain⟨b,rs,rfl⟩: ∃a l,rs=a::l:=by cases rs with|nil=>simp at h2|cons a l=>exact⟨a,l,rfl⟩
  rw[List.zip_cons_cons,List.zip_cons_cons,nX]
  cases i with
  |zero=>simp[TxC]
  |succ i=>
   have:=ih hs rs i (by simpa using h1) (by simpa using h2) (by simpa using hi);rw[show(i+1)*3=i*3+3 by omega];simpa [TxC] using this
theorem qQ.at {tv:Value}{ts:List Tx}(h:qQ w base tv ts hs rs): ∃a c,tv=zj a ts.length c∧(0<ts.length→ ∃g,a=some (zd g)∧ ∀i,i<ts.length→w.cell? ⟨g,i*3,none⟩=some (za (ts.getD i ⟨0,[],[]⟩).seq)∧w.cell? ⟨g,i*3+1,none⟩=some (hs.getD i undef)∧w.cell? ⟨g,i*3+2,none⟩=some (rs.getD i undef)):=by
 have h1:=h.row;rcases h1.2 with⟨rfl,h0⟩|⟨g,cap,d,rfl,f,j,e,k,_⟩
 ·exact⟨none,0,by rw[h0],fun h=>zk⟩
 ·refine⟨_,_,rfl,fun _=>⟨g,rfl,fun i hi=>?_⟩⟩;obtain⟨a,b,c⟩:=mz ts hs rs i h.hl h.rl hi;exact⟨by rw[nA h1 (i*3) zk];exact a,by rw[nA h1 (i*3+1) zk];exact b,by rw[nA h1 (i*3+2) zk];exact c⟩
theorem qQ.seen {tv:Value}{ts:List Tx}(h:qQ w base tv ts hs rs){i:Nat}(hi:i<ts.length):jy w base w.heap.size (.agg #[za (ts.getD i ⟨0,[],[]⟩).seq,hs.getD i undef,rs.getD i undef]) (ts.getD i ⟨0,[],[]⟩)∧(∀x∈(ts.getD i ⟨0,[],[]⟩).homes,Byt x.2)∧Qa (ts.getD i ⟨0,[],[]⟩)≤1000000:=by
 obtain⟨a,b,c,d⟩:=(h.el i hi).view;exact⟨⟨_,_,rfl,a,b⟩,c,d⟩
theorem Jz {bs:List (List Int)}(h: ∀b∈bs,b.length=64):bs.flatten.length=64*bs.length:=by
 induction bs with
 |nil=>rfl
 |cons b r ih=>
  rw[oC,mL,h b zn,ih (fun x a=>h x (by simp[a])),m7];omega
structure SmI (w:World)(n:Nat)(x5:Value)(wr:World):Prop where
 ex: ∃k:Nat,x5=za k∧k≤n∧zr 0 0 w wr
theorem Jl {ba bb:Nat}{av bv:Value}{ts:List Tx}(ha:Vr w ba av ts)(hb:Vr w bb bv ts)(hv: ∀t∈ts,qy t)(hn:ts.length≤1000:=by omega):
  Calls Tryz.prog 15 #[av,bv] w fun e w'=>e= .returned (.bool true)∧zr 0 0 w w':=by
 obtain⟨hs,rs,rA⟩:=ha;obtain⟨p,s,rB⟩:=hb;obtain⟨aa,ac,rfl,hA⟩:=rA.at;obtain⟨X,bc,rfl,hB⟩:=rB.at;obtain⟨n,Hn⟩: ∃n,Hid (n=ts.length):=⟨_,rfl⟩;rw[←Hn.out] at rA rB hn⊢;have RA:Hid _:=rA;have RB:Hid _:=rB;have HV:Hid _:=hv;go_enter Tryz.func15,Tryz.ntmps15;go_wp2;go_loopw [5] (fun x5 wr=>SmI w n x5 wr) (fun x5 _=>n-(intOf x5).toNat)
 case atStart=>exact⟨⟨0,rfl,mX _,zr.refl _ _ _⟩⟩
 case round=>
  obtain⟨k,rfl,ag,P⟩:=hrel.ex;by_cases h1:k<n
  ·have a:k<ts.length:=by have:=Hn.out;omega
   have e1:decide ((k:Int)<(n:Int))=true:=mR zk;have af:(k:Int)<(n:Int):=zk;have q:=RA.chg P;have h:=RB.chg P;obtain⟨ax,ay,e,H⟩:=q.at;obtain⟨g,J,I⟩:=H zk;simp only[ns] at e;obtain⟨e3,-,e4⟩:=e;obtain rfl:aa=some (zd g):=e3.trans J;obtain⟨bx,Y,G,c⟩:=h.at;obtain⟨u,f,d⟩:=c zk;simp only[ns] at G;obtain⟨e5,-,e6⟩:=G;obtain rfl:X=some (zd u):=e5.trans f;obtain⟨a0,a1,a2⟩:=I k a;have y:Hid (wr.cell? ⟨u,k*3,none⟩=some (za (ts.getD k ⟨0,[],[]⟩).seq)∧wr.cell? ⟨u,k*3+1,none⟩=some (p.getD k undef)∧wr.cell? ⟨u,k*3+2,none⟩=some (s.getD k undef)):=d k a
   clear H I c d e3 e4 e5 e6 J f;obtain⟨tA,E,cA⟩:=q.seen a;obtain⟨N,m,Z⟩:=h.seen a;have M:qy (ts.getD k ⟨0,[],[]⟩):=HV.out _ (by rw[mV,mZ a];exact nj _);have C:Hid (jy wr ba wr.heap.size (.agg #[za (ts.getD k ⟨0,[],[]⟩).seq,hs.getD k undef,rs.getD k undef]) (ts.getD k ⟨0,[],[]⟩)):=tA;have V:Hid (qQ wr bb (zg u n bc) ts p s):=h;have b:Hid (∀x∈(ts.getD k ⟨0,[],[]⟩).homes,Byt x.2):=E;clear tA N q h E m Z
   obtain⟨t,B⟩: ∃t,Hid (t=ts.getD k ⟨0,[],[]⟩):=⟨_,rfl⟩;obtain⟨ah,z⟩: ∃v,Hid (v=hs.getD k undef):=⟨_,rfl⟩;obtain⟨aj,A⟩: ∃v,Hid (v=rs.getD k undef):=⟨_,rfl⟩;obtain⟨ab,j⟩: ∃v,Hid (v=p.getD k undef):=⟨_,rfl⟩;obtain⟨ad,l⟩: ∃v,Hid (v=s.getD k undef):=⟨_,rfl⟩;rw[←B.out,←z.out,←A.out] at C;rw[←B.out] at a0 b M cA;rw[←z.out] at a1;rw[←A.out] at a2;rw[←B.out,←j.out,←l.out] at y;obtain⟨L,O⟩: ∃L,Hid (L=64*(TL t).length):=⟨_,rfl⟩
   have hL:64≤L∧L≤100000:=by have:=O.out;have:=EU (qu M);have:=(Ze b).1;omega
   have ae:((L:Int)==0)=false:=by simp;omega
   go_wp2_with fail;refine(qq wr zk nlR b C).mono ?_;rintro e i ⟨g2,c2,rfl,Q,o⟩;rw[←O.out] at Q⊢;have K:(TL t).flatten.length=L:=by rw[Jz (Ze b.out).2,←O.out]
   have V2:Hid (zC i wr.heap.size i.heap.size .u8 (zg g2 L c2) (TL t).flatten):=Q.view zk (fun g hg=>(Q.lt g hg).2);have U:Hid ((TL t).flatten.length=L):=K;have S:Hid (zr 0 0 wr i):=o;have r:=V.chg o;obtain⟨N,m,Z⟩:=r.seen a;rw[←B.out,←j.out,←l.out] at N;obtain⟨bx,Y,G,c⟩:=r.at;obtain⟨g3,f,d⟩:=c zk;simp only[ns] at G;obtain⟨e5,-,e6⟩:=G;obtain rfl:u=g3:=by have:=e5.trans f;simpa using this
   obtain⟨b0,b1,b2⟩:=d k a;rw[←B.out] at b0;rw[←j.out] at b1;rw[←l.out] at b2;have D:Hid (jy i bb i.heap.size (.agg #[za t.seq,ab,ad]) t):=N;clear a0 a1 a2 Q o r N m Z c d e5 e6 f K y;go_wp2_with fail;refine(qq i zk nlR b D).mono ?_;rintro e R ⟨g4,c4,rfl,o4,F⟩;rw[←O.out] at o4⊢;have V4:Hid (zC R i.heap.size R.heap.size .u8 (zg g4 L c4) (TL t).flatten):=o4.view (by have:=U.out;omega) (fun g hg=>(o4.lt g hg).2)
   have W:Hid (zC R wr.heap.size i.heap.size .u8 (zg g2 L c2) (TL t).flatten):=V2.chg F zk;have T:Hid _:=(P.trans S).trans F;go_wp2_with fail;refine(YA R W V4).mono ?_;rintro e w5 ⟨rfl,rfl⟩;have ai:IntKind.i64.wrap ((k:Int)+1)=((k+1:Nat):Int):=by rw[mS];omega
   go_wp2;go_roundw
   case rel=>exact⟨⟨k+1,rfl,zk,T⟩⟩
   case measure=>simp[intOf];omega
  ·have e1:=mY zk;go_wp2;go_ret;exact⟨rfl,P⟩
theorem qK.keepT {lo:Nat}{eW eB:TypeId}{d:Dsk}(h:qK w lo hi eW eB v d)(k: ∀(j:Nat) (a:Array Value) (T:TypeId),T=eW∨T=eB→w.heap[j]?=some (zi a T)→w'.heap[j]?=some (zi a T)):qK w' lo hi eW eB v d:=by
 obtain⟨f,g,b,e,h⟩:=h;exact⟨f,g,b,e,h.agg,zR h.dR (fun j a _ c=>k j a _ (Or.inr rfl) c),⟨zR h.pN.row (fun j a _ c=>k j a _ (Or.inl rfl) c),h.pN.at0,h.pN.at1,fun i hi=>zR (h.pN.data i hi) (fun j a _ c=>k j a _ (Or.inr rfl) c),h.pN.apart⟩,h.apart,h.hiD,h.hiP,h.hiX⟩
theorem qK.upperL {lo hi':Nat}{eW eB:TypeId}{d:Dsk}(h:qK w lo hi eW eB v d)(e:hi≤hi':=by omega):qK w lo hi' eW eB v d:=by
 obtain⟨f,j,a,c,h⟩:=h;exact⟨f,j,a,c,h.agg,h.dR,h.pN,h.apart,fun g b=>nE (h.hiD g b) e,fun g b=>nE (h.hiP g b) e,fun i g hi b=>nE (h.hiX i g hi b) e⟩
theorem qQ.keepT {tv:Value}{ts:List Tx}(h:qQ w base tv ts hs rs)(k: ∀(j:Nat) (a:Array Value) (T:TypeId),T=35∨T=68∨T=2∨T=5→w.heap[j]?=some (zi a T)→w'.heap[j]?=some (zi a T)):qQ w' base tv ts hs rs:=by
 refine⟨zR h.row (fun j a _ b=>k j a _ (Or.inl rfl) b),h.hl,h.rl,fun i hi=>?_⟩;obtain⟨c,d,e,f,g,l,m⟩:=h.el i hi;exact⟨c,d.keep (fun j a _ b=>k j a _ (Or.inr (Or.inl rfl)) b) (fun j a _ b=>k j a _ (Or.inr (Or.inr (Or.inr rfl))) b),e,f,zR g (fun j a _ b=>k j a _ (Or.inr (Or.inr (Or.inl rfl))) b),l,m⟩
structure LgW (W:World)(B:Nat)(w:World)(d:Dsk)(sz st sq hd us:Int)(v0 v1 hv:Value)(ts:List Tx):Prop where
 ch:zr W.heap.size w.heap.size W w
 le:W.heap.size≤B
 db:w.heap[B]?=some (zi #[v0,v1] 26)
 od:qK w W.heap.size w.heap.size 100 5 (.agg #[v0,v1]) d
 lb:w.heap[B+1]?=some (Zb 30 sz st sq hd us)
 tx: ∃hs rs,qQ w W.heap.size hv ts hs rs
theorem LgW.grow {d:Dsk}{sz:Int}{ts:List Tx}(h:LgW W B w d sz st sq hd us v0 v1 hv ts)(c:zr 0 0 w w'):LgW W B w' d sz st sq hd us v0 v1 hv ts:=by
 have s:=c.size;have h1:=(zE h.lb);obtain⟨hs,rs,a⟩:=h.tx;exact⟨(h.ch.widen (Or.inl nlR) (Or.inl s)).trans (c.widen),h.le,c.bt h.db,(h.od.chg c zk).upperL s,c.bt h.lb,hs,rs,a.chg c⟩
theorem LgW.setD {d d':Dsk}{sz:Int}{u0 u1:Value}{ts:List Tx}(h:LgW W B w d sz st sq hd us v0 v1 hv ts){lo:Nat}(i:qK w lo hi 100 5 (.agg #[u0,u1]) d')(g:W.heap.size≤lo)(m:hi≤w.heap.size)
  (l:wf.heap[B]?=some (zi #[u0,u1] 26)) (c:zr B (B+1) w wf):LgW W B wf d' sz st sq hd us u0 u1 hv ts:=by
 have s:=c.size;have h1:=(zE h.lb);have n:=h.le;obtain⟨hs,rs,o⟩:=h.tx;have k: ∀(j:Nat) (a:Array Value) (T:TypeId),T≠26→w.heap[j]?=some (zi a T)→wf.heap[j]?=some (zi a T):=fun j a T f b=>(c.block j (zE b) (by
  have:j≠B:=fun e=>by rw[e,h.db] at b;cases b;exact f rfl
  omega)).trans b
 refine⟨(h.ch.widen (Or.inl nlR) (Or.inl s)).trans (c.widen),h.le,l,(((i.lower g).upperL (zk:hi≤wf.heap.size))).keepT (fun j a T f b=>k j a T (by rcases f with rfl|rfl<;>decide) b),k _ _ _ zp h.lb,hs,rs,o.keepT (fun j a T f b=>k j a T (by rcases f with rfl|rfl|rfl|rfl<;>decide) b)⟩
theorem LgW.setL {d:Dsk}{sz sz' st' sq' hd' us':Int}{ts:List Tx}(h:LgW W B w d sz st sq hd us v0 v1 hv ts)
  (g:wf.heap[B+1]?=some (Zb 30 sz' st' sq' hd' us')) (c:zr (B+1) (B+2) w wf):LgW W B wf d sz' st' sq' hd' us' v0 v1 hv ts:=by
 have s:=c.size;have h1:=(zE h.lb);have i:=h.le;obtain⟨hs,rs,l⟩:=h.tx;have k: ∀(j:Nat) (a:Array Value) (T:TypeId),T≠30→w.heap[j]?=some (zi a T)→wf.heap[j]?=some (zi a T):=fun j a T f b=>(c.block j (zE b) (by
  have:j≠B+1:=fun e=>by rw[e,h.lb] at b;cases b;exact f rfl
  omega)).trans b
 exact⟨(h.ch.widen (Or.inl nlR) (Or.inl s)).trans (c.widen),h.le,k _ _ _ zp h.db,(h.od.upperL s).keepT (fun j a T f b=>k j a T (by rcases f with rfl|rfl<;>decide) b),g,hs,rs,l.keepT (fun j a T f b=>k j a T (by rcases f with rfl|rfl|rfl|rfl<;>decide) b)⟩
theorem LgW.other {d:Dsk}{sz:Int}{hv':Value}{ts ts':List Tx}(h:LgW W B w d sz st sq hd us v0 v1 hv ts)(f: ∃hs rs,qQ w' W.heap.size hv' ts' hs rs)(c:zr W.heap.size w'.heap.size w w')
  (k: ∀(j:Nat) (a:Array Value) (T:TypeId),T≠35→w.heap[j]?=some (zi a T)→w'.heap[j]?=some (zi a T)):LgW W B w' d sz st sq hd us v0 v1 hv' ts':=by
 have s:=c.size;exact⟨(h.ch.widen (Or.inl nlR) (Or.inl s)).trans c,h.le,k _ _ _ zp h.db,(h.od.upperL s).keepT (fun j a T b e=>k j a T (by rcases b with rfl|rfl<;>decide) e),k _ _ _ zp h.lb,f⟩
theorem LgW.view {d:Dsk}{sz:Int}{ts:List Tx}(h:LgW W B w d sz st sq hd us v0 v1 hv ts){lo:Nat}{k:IntKind}(b:zC W lo hi k v xs)(a:hi≤W.heap.size):zC w lo hi k v xs:=b.chg h.ch (Or.inl a)
structure LgR (W:World)(B sz:Nat)(x8 x9:Value)(w:World):Prop where
 ex: ∃(i st sq hd us q0:Nat) (F:Nat→FB) (d:Dsk) (v0 v1:Value) (ts:List Tx),x9=za i∧(i≤30∧sq≤i+1)∧LI d sz F st sq hd us q0 ts∧LgW W B w d sz st sq hd us v0 v1 x8 ts
structure LgT (W:World)(B T:Nat)(w:World)(d:Dsk)(sz st sq hd us:Int)(v0 v1 hv:Value)(ts:List Tx)(sq0:Int)(th tr:Value)(t:Tx):Prop where
 lg:LgW W B w d sz st sq hd us v0 v1 hv ts
 tb:w.heap[T]?=some (zi #[za sq0,th,tr] 35)
 ow:qB w W.heap.size th tr t
 apart:B+1<T
theorem LgT.grow {d:Dsk}{sz:Int}{ts:List Tx}{t:Tx}(h:LgT W B T w d sz st sq hd us v0 v1 hv ts sq0 th tr t)(c:zr 0 0 w w'):LgT W B T w' d sz st sq hd us v0 v1 hv ts sq0 th tr t:=
 ⟨h.lg.grow c,(c.bk _ (zE h.tb)).trans h.tb,h.ow.chg c zk,h.apart⟩
theorem LgT.tv {d:Dsk}{sz:Int}{ts:List Tx}{t:Tx}(h:LgT W B T w d sz st sq hd us v0 v1 hv ts sq0 th tr t)(e:t.seq=sq0):jy w W.heap.size w.heap.size (.agg #[za sq0,th,tr]) t∧(∀x∈t.homes,Byt x.2)∧Qa t≤1000000:=by
 obtain⟨a,b,c,d⟩:=h.ow.view;exact⟨⟨_,_,by rw[e],a,b⟩,c,d⟩
theorem LgT.setD {d d':Dsk}{sz:Int}{u0 u1:Value}{ts:List Tx}{t:Tx}(h:LgT W B T w d sz st sq hd us v0 v1 hv ts sq0 th tr t){lo:Nat}(m:qK w lo hi 100 5 (.agg #[u0,u1]) d')(k:W.heap.size≤lo)(i:hi≤w.heap.size)
  (o:wf.heap[B]?=some (zi #[u0,u1] 26)) (c:zr B (B+1) w wf):LgT W B T wf d' sz st sq hd us u0 u1 hv ts sq0 th tr t:=by
 have g: ∀(j:Nat) (a:Array Value) (f:TypeId),f≠26→w.heap[j]?=some (zi a f)→wf.heap[j]?=some (zi a f):=fun j a f n b=>(c.block j (zE b) (by
  have:j≠B:=fun e=>by rw[e,h.lg.db] at b;cases b;exact n rfl
  omega)).trans b
 obtain⟨l,p,q,r,s,u,v⟩:=h.ow;exact⟨h.lg.setD m k i o c,g _ _ _ zp h.tb,⟨l,p.keep (fun j a _ b=>g j a _ zp b) (fun j a _ b=>g j a _ zp b),q,r,zR s (fun j a _ b=>g j a _ zp b),u,v⟩,h.apart⟩
theorem LgT.setL {d:Dsk}{sz sz' st' sq' hd' us':Int}{ts:List Tx}{t:Tx}(h:LgT W B T w d sz st sq hd us v0 v1 hv ts sq0 th tr t)
  (l:wf.heap[B+1]?=some (Zb 30 sz' st' sq' hd' us')) (c:zr (B+1) (B+2) w wf):LgT W B T wf d sz' st' sq' hd' us' v0 v1 hv ts sq0 th tr t:=by
 have g: ∀(j:Nat) (a:Array Value) (f:TypeId),f≠30→w.heap[j]?=some (zi a f)→wf.heap[j]?=some (zi a f):=fun j a f k b=>(c.block j (zE b) (by
  have:j≠B+1:=fun e=>by rw[e,h.lg.lb] at b;cases b;exact k rfl
  omega)).trans b
 obtain⟨i,m,n,o,p,q,r⟩:=h.ow;exact⟨h.lg.setL l c,g _ _ _ zp h.tb,⟨i,m.keep (fun j a _ b=>g j a _ zp b) (fun j a _ b=>g j a _ zp b),n,o,zR p (fun j a _ b=>g j a _ zp b),q,r⟩,h.apart⟩
theorem LgW.cl {d:Dsk}{sz:Int}{ts:List Tx}(h:LgW W B w d sz st sq hd us v0 v1 hv ts):(w.cell? (zd B)=some v0∧w.cell? ⟨B,1,none⟩=some v1)∧w.cell? (zd (B+1))=some (za sz)∧w.cell? ⟨B+1,1,none⟩=some (za st)∧w.cell? ⟨B+1,2,none⟩=some (za sq)∧w.cell? ⟨B+1,3,none⟩=some (za hd)∧w.cell? ⟨B+1,4,none⟩=some (za us):=by
 have h1:=h.db;have h2:=h.lb;refine⟨⟨?_,?_⟩,?_,?_,?_,?_,?_⟩<;>simp[World.cell?,h1,h2]
theorem LgW.slices {d:Dsk}{sz:Int}{ts:List Tx}(h:LgW W B w d sz st sq hd us v0 v1 hv ts): ∃a c b f i g,v0=zj a c b∧v1=zj f i g:=by
 obtain⟨a,c,b,f,i,g,e⟩:=qK.agg h.od;simp only[Value.agg.injEq,td,pF,pH] at e;exact⟨a,c,b,f,i,g,e.1,e.2⟩
theorem qF.fits {d:Dsk}{F:Nat→FB}(h:qF d n sz F st sq):d.Fits:=⟨by have:=h.dR;have:=h.big;omega,by rw[h.pN];simp,by rw[h.pN];simp⟩
theorem jw (w:World){lo:Nat}(u:Byt xs)(h1:zC w lo hi .u8 a xs):
  Calls Tryz.prog 50 #[a] w fun e w'=>e= .returned (za (if xs.length=64∧xs.take 4=mg∧(1≤xs.getD 4 0∧xs.getD 4 0≤4) then xs.getD 4 0 else 0))∧zr 0 0 w w':=by
 have f:=QN w u h1;have p:=h1;obtain⟨z,cap,rfl,F,_,_⟩:=h1;by_cases j:xs.length=64
 ·obtain⟨s,t,rfl,m⟩: ∃s t,z=some ⟨s,t,none⟩∧ ∀i,i<xs.length→w.cell? ⟨s,t+i,none⟩=some (zb (xs.getD i 0)):=by
   obtain⟨_,_,e,_,_,k⟩:=p
   cases e
   rcases k with e|⟨x,o,e,_,_,h⟩
   ·rw[e] at j;simp at j
   ·exact⟨x,o,e,h⟩
  have q:beg xs=decide (xs.take 4=mg):=by unfold beg;rw[mR zk];rfl
  rw[q] at f;have n:=m 4 zk;have A:=u.getD 4;have r:((64:Int) !=64)=false:=zn;have C:Hid (xs.length=64):=j;rw[j] at f⊢;by_cases l:xs.take 4=mg
  ·have B:Hid (xs.take 4=mg):=l;rw[mR l] at f;have c:(if 64=64∧xs.take 4=mg∧(1≤xs.getD 4 0∧xs.getD 4 0≤4) then xs.getD 4 0 else 0)=(if 1≤xs.getD 4 0∧xs.getD 4 0≤4 then xs.getD 4 0 else 0):=by simp[l]
   rw[c];generalize xs.getD 4 0=y at*;clear m p j c l q;by_cases h1:y<1
   ·rw[mN zk];go_enter Tryz.func50,Tryz.ntmps50;go_wp2_with fail;refine f.mono ?_;rintro e g ⟨rfl,b⟩;have v:=b.cell n;have d:Hid (zr 0 0 w g):=b;clear f b;go_wp2;go_ret;exact⟨rfl,d⟩
   ·by_cases E:y>4
    ·rw[mN zk];go_enter Tryz.func50,Tryz.ntmps50;go_wp2_with fail;refine f.mono ?_;rintro e g ⟨rfl,b⟩;have v:=b.cell n;have d:Hid (zr 0 0 w g):=b;clear f b;go_wp2;go_ret;exact⟨rfl,d⟩
    ·rw[mM zk];go_enter Tryz.func50,Tryz.ntmps50;go_wp2_with fail;refine f.mono ?_;rintro e g ⟨rfl,b⟩;have v:=b.cell n;have d:Hid (zr 0 0 w g):=b;clear f b;go_wp2;go_ret;exact⟨rfl,d⟩
  ·rw[mY l] at f;have c:(if 64=64∧xs.take 4=mg∧(1≤xs.getD 4 0∧xs.getD 4 0≤4) then xs.getD 4 0 else 0)=0:=by rw[mN (fun h=>l h.2.1)]
   rw[c];clear m p j c l q n A;go_enter Tryz.func50,Tryz.ntmps50;go_wp2_with fail;refine f.mono ?_;rintro e g ⟨rfl,b⟩;have d:Hid (zr 0 0 w g):=b;clear f b;go_wp2;go_ret;exact⟨rfl,d⟩
 ·have c:(if xs.length=64∧xs.take 4=mg∧(1≤xs.getD 4 0∧xs.getD 4 0≤4) then xs.getD 4 0 else 0)=0:=by rw[mN (fun h=>j h.1)]
  rw[c];have r:((xs.length:Int) !=64)=true:=by simp;omega
  generalize beg xs=D at*;clear c p j;go_enter Tryz.func50,Tryz.ntmps50;go_wp2_with fail;refine f.mono ?_;rintro e g ⟨rfl,b⟩;have d:Hid (zr 0 0 w g):=b;clear f b;go_wp2;go_ret;exact⟨rfl,d⟩
end Go.Proofs.YthdeofoleiiibaaGreatDoor
